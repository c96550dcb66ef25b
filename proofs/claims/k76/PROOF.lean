import PyProof.Rows.All
import Wide.All
import OpenK.AllK
import Wide.FinOn
import HandS.ForMost
import HandS.Rev
import HandS.RevTup
import HandS.IsInst
import HandS.Style
import HandS.Conv
import HandS.Wide
import HandS.Flow
import HandS.ListEq
import HandS.More
import HandS.Codes
import HandS.FStr
import HandS.Zip
import HandS.Defaults
import HandS.DeepEq
import KE.SortData
import KE.DataCmp
import KE.KDictSum
import HandS.Deep
import KE.DatumOrd
import KE.KSortTupAny
import HandS.ExcInit
import HandS.ExcIs
import HandS.ExcField
import HandS.ForSpec
import HandS.Nested
import HandS.Struct
import KE.KExcSuper
import HandS.ExcInitHot
import HandS.FStrTup
import HandS.HotCalls
import KE.KExcIs
import HandS.TupAny
import HandS.Iter
import HandS.DictComp
import HandS.Walk
import HandS.ExcCtx
import PyProof.Rows.TupDisplay
import KE.GoesEnum
import HandS.SortKw
import HandS.Property
import HandS.SetFor
import KE.DataFind
import PyProof.FString2
import HandS.MakeKwOnly
import HandS.IterVal
import HandS.TupSets
import KE.DatumIndex
import HandS.StrMore
import HandS.CallLocal
import PySem.Challenge.RW_elenchus_k76_rewriting_and_normal_forms
set_option Elab.async false
set_option linter.all false
set_option maxRecDepth 100000
namespace Own
open PySem PySem.Spec PyProof.Rows L2 RT

/-! ### xs.extend(t), t a tuple -/
theorem ext_meets (l b : Addr) (xs ys : Array Value) (n m : Nat) (dd : Option Addr) (sl : Array (Option Value)) (long : ¬(!xs.isEmpty && Builtin.List.listTooLong (xs.size + ys.size)) = true) (hx : xs.size ≤ sizeLine) (hxy : xs.size + ys.size ≤ sizeLine + 1) :
    Meets (Builtin.«list.extend» ⟨[.ref l, .ref b], []⟩) (fun _ R s => s.heap.get? l = some { cls := .type "list", dict := none, data := .seq xs n, slots := #[] } ∧
      s.heap.get? b = some { cls := .type "tuple", dict := dd, data := .seq ys m, slots := sl } ∧ R (.ok (.ret Value.none)) { s with heap := s.heap.update l (Obj.mapSeq fun x => x ++ ys), toks := s.toks }) :=
  .of_wp fun prog w A R s h => by
    obtain ⟨hp, g, d, tk, os⟩ := s
    obtain ⟨h1, h2, h3⟩ := h
    have g1 := AutoSeq1.idx_int; have g2 := AutoSeq1.sub_tuple_tuple; have g3 := AutoSeq1.sub_list_list; have g4 := AutoSeq1.sub_tuple_list; have g5 := AutoSeq1.sub_list_tuple
    have fit : (xs ++ ys).size ≤ sizeLine + 1 := Array.size_append ▸ hxy
    wp_walk using (wpAny_updateSeq h1 rfl (hz := hx) (_hz' := fit)), AutoSeq1.wpAny_loadPart' h1, AutoSeq1.wpAny_loadPart' h2
    exact ⟨_, rfl, h3⟩
def rExtendT (K : PySem.W.Frag) : V → List V → Hp → VK → Prop := fun x vs H Q => ∃ l b xs zs, x = .ref l ∧ vs = [.ref b] ∧ H l = some (.lst xs) ∧ SqT K H b zs ∧ xs.length + zs.length ≤ sizeLine ∧ Q .non (upd H l (.lst (xs ++ zs)))
theorem mt_extendT {X : Cx} : MtR X "list.extend" (rExtendT X.K) := by
  intro pins s σ H x vs v us Q I rx rv h
  obtain ⟨l, b, xs, zs, rfl, rfl, hl, hb, fit, q⟩ := h
  cases rx
  obtain ⟨u, rfl, ru⟩ := rv.one
  cases ru
  obtain ⟨z, its, n, r, hlen, e⟩ := I.lstM hl
  obtain ⟨its2, r2, p2, z2⟩ := I.tuple hb
  obtain ⟨⟨c2, d2, dt2, sl2⟩, ho2, hc2, m2, hd2⟩ := id p2
  simp only at hc2 hd2
  subst hc2 hd2
  have e2 := r2.length
  have tot : its.toArray.size + its2.toArray.size ≤ sizeLine := by rw [List.size_toArray, List.size_toArray]; omega
  have notlong : ¬ (!its.toArray.isEmpty && Builtin.List.listTooLong (its.toArray.size + its2.toArray.size)) = true := by rw [notLongL tot, Bool.and_false]; exact Bool.false_ne_true
  refine call_meets PySem.F.slot_list_extend ⟨_, e, rfl⟩ PySem.F.entry_list_extend (PySem.F.args_list_extend_2 _ _) (ext_meets l b its.toArray its2.toArray n m2 d2 sl2 notlong (by rw [List.size_toArray]; omega) (by omega)) ⟨e, ho2, ?_⟩
  exact ⟨.non, _, I.lset (its' := its ++ its2) hl e (by simp) (r.append r2) (by rw [List.length_append]; omega), rfl, q⟩

/-! ### list(reversed(xs)) -/
section
variable {prog : Program} {w : World} {A : Around} {E : Value → Shared → Prop} {s : Shared}
theorem extend_rev {R : Result → Shared → Prop} {it l S : Addr} {items : Array Value} {res : Value} {c0 : Nat} (hh : A.handled = none) (hit : s.heap.IsRevIter it l ((items.size : Int) - 1)) (hl : s.heap.IsList l items) (hne : l ≠ it) (hn : items.size ≤ sizeLine)
    (hS : s.heap.get? S = some { cls := .type "list", data := .seq #[] c0 }) (hSi : S ≠ it) (hSl : S ≠ l)
    (hR : ∀ h' tk acc c', (∀ b o, b ≠ S → b ≠ it → s.heap.get? b = some o → h'.get? b = some o) → h'.get? S = some { cls := .type "list", dict := none, data := .seq acc c', slots := #[] } →
      ItemsOf (fun i v => items[items.size - 1 - i]? = some v) acc items.size → R (.ok (.ret res)) { s with heap := h', toks := tk }) :
    wpAny (model prog w) A.in1 (Builtin.List.listExtendWith (.ref S) (.ref it) res)
      (fun fin s' => match fin with | .done f => R (.ok f) s' | .again c' => c'.quiet = true ∧ codeAny (model prog w) A c' R s') (fun e s' => R (.error e) s') s := by
  have W := (Walks.listRev (prog := prog) (w := w) (A := A.in1) hh it l hne items).toS
  have hSf : S ∉ [it, l] := by simp only [List.mem_cons, List.not_mem_nil, or_false, not_or]; exact ⟨hSi, hSl⟩
  have hT : s.TypeIs (.ref it) "list_reverseiterator" := Heap.IsRevIter.typeIs hit
  have h1 : Builtin.List.listSameRef (.ref S) (.ref it) = false := by simp [Builtin.List.listSameRef, hSi]
  unfold Builtin.List.listExtendWith
  refine wpAny_bind (wpAny_typeOf hT ?_); rw [if_neg (by rw [h1]; decide)]
  refine wpAny_bind (wpAny_pyIter_revIter hit ?_); refine wpAny_bind (wpAny_holding ?_)
  unfold Builtin.List.listLengthHint
  refine wpAny_bind (wpAny_specialOf hT nolen_lri ?_); show wpAny _ A.in1 (specialOf (Value.ref it) (Str.ofString "__length_hint__") >>= _) _ _ s
  refine wpAny_bind (wpAny_specialOf hT hint_lri ?_); generalize hid : ("list_reverseiterator.__length_hint__" : String) = id0
  wp_delta
  rw [show splitId id0 = some ("list_reverseiterator", "__length_hint__") from by subst hid; decide +kernel]; subst hid
  refine wpAny_bind (wpAny_isInstance (b := true) hT (by rw [isSubtype_type]; kernel_rfl) ?_); refine wpAny_pure ?_; rw [if_neg (by decide)]
  have e0 : ((items.size : Nat) : Int) - 1 - ((0 : Nat) : Int) = (items.size : Int) - 1 := by omega
  refine wpAny_pure ⟨plainId_quiet F.plain_extend_loop _, codeAny_extend_loopS W hn S hSf res items.size 0 _ _ _ rfl (Nat.zero_le _) ⟨Nat.zero_le _, by rw [e0]; exact hit, hl⟩ hS (ItemsOf.nil _) fun s' acc' c' hm hS' hacc => ?_⟩
  rw [Moved.eq_with hm]
  refine hR s'.heap s'.toks acc' c' (fun b o hbS hbi e => hm.heap b o (fun hmem => ?_) e) hS' hacc
  rcases List.mem_cons.mp hmem with e' | hmem
  · exact hbS e'
  · exact hbi (List.mem_singleton.mp hmem)
theorem call_list_rev {it l : Addr} {items : Array Value} {Q : Value → Shared → Prop} (hh : A.handled = none) (hit : s.heap.IsRevIter it l ((items.size : Int) - 1)) (hl : s.heap.IsList l items) (hne : l ≠ it) (hn : items.size ≤ sizeLine)
    (hQ : ∀ h' tk acc c', (∀ b o, b ≠ it → s.heap.get? b = some o → h'.get? b = some o) → h'.get? s.heap.objs.size = some { cls := .type "list", dict := none, data := .seq acc c', slots := #[] } →
      ItemsOf (fun i v => items[items.size - 1 - i]? = some v) acc items.size → Q (.ref s.heap.objs.size) { s with heap := h', toks := tk }) :
    wpAny (model prog w) A (call (.type "list") [.ref it]) Q E s := by
  refine callType_codes (Q₁ := fun obj s₁ => obj = .ref s.heap.objs.size ∧ s₁ = { s with heap := s.heap.push { cls := .type "list", data := .seq #[] } }) PySem.F.called_list (PySem.F.typeCall_list_1 _) PySem.F.entry_list_init (code_list_new _ ⟨rfl, rfl⟩) fun obj s₁ h₁ => ?_
  obtain ⟨rfl, rfl⟩ := h₁
  have hS : (s.heap.push { cls := .type "list", data := .seq #[] }).get? s.heap.objs.size = some { cls := .type "list", data := .seq #[] } := Heap.get?_push_size _ rfl
  refine ⟨⟨_, hS, rfl⟩, PySem.F.args_list_init_2 _ _, ?_⟩
  obtain ⟨oi, hoi, _⟩ := id hit
  obtain ⟨ol, hol, _⟩ := id hl
  have nSi : s.heap.objs.size ≠ it := Nat.ne_of_gt (Heap.lt_size hoi)
  have nSl : s.heap.objs.size ≠ l := Nat.ne_of_gt (Heap.lt_size hol)
  have k0 : ∀ b o, s.heap.get? b = some o → ((s.heap.push { cls := .type "list", data := .seq #[] }).update s.heap.objs.size (Obj.mapSeq (fun _ => (#[] : Array Value)))).get? b = some o :=
    fun b o e => (Heap.get?_update_other _ _ (Nat.ne_of_gt (Heap.lt_size e))).trans (Heap.get?_push_of_some _ e)
  show wpAny _ _ (do let old ← Builtin.List.listItems (.ref s.heap.objs.size); Builtin.List.listUpdate (.ref s.heap.objs.size) (fun _ => #[]); letGo old.toList.reverse; Builtin.List.listExtendWith (.ref s.heap.objs.size) (.ref it) .none) _ _ _
  refine wpAny_bind ?_; unfold Builtin.List.listItems
  refine wpAny_bind (wpAny_seqItems hS rfl (wpAny_pure ?_))
  show wpAny _ _ (updateSeq s.heap.objs.size (fun _ => #[]) >>= fun _ => letGo (#[] : Array Value).toList.reverse >>= fun _ => Builtin.List.listExtendWith (.ref s.heap.objs.size) (.ref it) .none) _ _ _
  refine wpAny_bind (wpAny_updateSeq hS rfl ?_)
  refine wpAny_bind (wpAny_letGo ?_)
  refine extend_rev (A := A.in1) (l := l) (items := items) hh (hit.at fun o e => k0 _ _ e) ?_ hne hn (Heap.get?_update_self (Obj.mapSeq (fun _ => (#[] : Array Value))) hS rfl) nSi nSl fun h' tk acc c' hk hS' hacc => ?_
  · obtain ⟨o, ho, hc⟩ := id hl
    exact ⟨o, k0 _ _ ho, hc⟩
  · exact ⟨rfl, hQ h' tk acc c' (fun b o hb e => hk b o (Nat.ne_of_lt (Heap.lt_size e)) hb (k0 _ _ e)) hS' hacc⟩
end
def tListRev (K : PySem.W.Frag) (te : TE) : TE := fun σ H Q => te σ H fun v H1 => ∃ (a : Addr) (xs : List V), v = .ref a ∧ SqL K H1 a xs ∧ ∀ q, H1 q = none → Q (.ref q) (upd H1 q (.lst xs.reverse))
theorem pe_listRev {X : Cx} {e : Expr} {te : TE} {p p2 pos pos2 : Pos} (hc : X.calm = true) (hg : Gl X "list") (hm : X.mg "list" = none) (hg2 : Gl X "reversed") (hm2 : X.mg "reversed" = none) (he : PE X e te)
    (hs : starEach [e] X.env = (false, eval e X.env) :: starEach [] X.env := by rfl)
    (hs2 : starEach [.Call (.Name "reversed" p2) [e] [] pos2] X.env = (false, eval (.Call (.Name "reversed" p2) [e] [] pos2) X.env) :: starEach [] X.env := by rfl) :
    PE X (.Call (.Name "list" p) [.Call (.Name "reversed" p2) [e] [] pos2] [] pos) (tListRev X.K te) := by
  refine ⟨fun pins s σ H Q I h => ?_⟩
  refine Call_ (ld_blt I hg hm boot_list (callWith_type1 (args_cons (Call_ (ld_blt I hg2 hm2 boot_reversed (callWith_type1 (args_cons (thn (he.run pins s σ H _ I h) fun u s1 ⟨v, H1, I1, r1, q1⟩ => args_nil ?_) hs) hs rfl))) hs2) hs2 rfl))
  obtain ⟨a, xs, ev, hq, q⟩ := q1
  subst ev
  obtain rfl : u = Value.ref a := r1
  obtain ⟨its, rv, p', hz⟩ := I1.list hq
  refine call_reversed_list p'.isList (args_nil ?_)
  have k0 : ∀ b o, s1.heap.get? b = some o → (s1.heap.push (revObj a ((its.toArray.size : Int) - 1))).get? b = some o := fun b o e => Heap.get?_push_of_some _ e
  have I2 : Inv X pins σ H1 { s1 with heap := s1.heap.push (revObj a ((its.toArray.size : Int) - 1)) } := I1.kept (t' := s1.toks) k0
  obtain ⟨f0, f1, f2, f3, f4, f5⟩ := I1.fpOk (H' := H1) (b := s1.heap.objs.size) (Nat.le_refl _) (I1.hok.fresh (Nat.le_refl _))
  obtain ⟨ol, hol, _⟩ := id p'.isList
  have hne : a ≠ s1.heap.objs.size := Nat.ne_of_lt (Heap.lt_size hol)
  have hn : its.toArray.size ≤ sizeLine := by rw [List.size_toArray, ← rv.length]; exact hz
  refine call_list_rev (s := { s1 with heap := s1.heap.push (revObj a ((its.toArray.size : Int) - 1)) }) (I1.ok.hd hc) ⟨_, Heap.get?_push_size _ rfl, rfl, rfl⟩ (p'.isList.push _) hne hn fun h' tk acc c' hk hS' hi => ?_
  have kk : ∀ b o, s1.heap.get? b = some o → h'.get? b = some o := fun b o e => hk b o (Nat.ne_of_lt (Heap.lt_size e)) (k0 b o e)
  have hsz : (s1.heap.push (revObj a ((its.toArray.size : Int) - 1))).objs.size = s1.heap.objs.size + 1 := Heap.size_push ..
  have fresh : s1.heap.objs.size ≤ (s1.heap.push (revObj a ((its.toArray.size : Int) - 1))).objs.size := by rw [hsz]; exact Nat.le_succ _
  refine ⟨.ref _, upd H1 _ (.lst xs.reverse), I1.laid (t' := tk) kk fresh (show ObjOk X.prog X.w _ _ _ (.lst xs.reverse) from ⟨by rw [List.length_reverse]; exact hz, acc.toList, c', vals_rev rv hi, ?_⟩), rfl, q _ (I1.hok.fresh fresh)⟩
  rw [Array.toArray_toList]
  exact hS'
end Own
namespace Own
open PySem PySem.Spec PyProof.Rows L2 RT HT

/-! ### t[:0:-1], t a tuple: all but the first item, backwards -/
theorem adjust_back (n : Nat) (h : 0 < n) : Builtin.Slice.sliceAdjust none (some 0) (-1) (n : Int) = ((n : Int) - 1, 0) := by
  unfold Builtin.Slice.sliceAdjust
  have h1 : (-1 : Int) < 0 := by decide
  have h2 : ¬ ((0 : Int) < 0) := by decide
  simp only [h1, h2, if_true, if_false]
  refine Prod.ext rfl ?_
  show min (0 : Int) ((n : Int) - 1) = 0
  omega
theorem places_back (n : Nat) (h : 0 < n) : Builtin.Slice.slicePlaces ((n : Int) - 1) 0 (-1) = n - 1 := by
  unfold Builtin.Slice.slicePlaces
  have h1 : ¬ ((-1 : Int) > 0) := by decide
  simp only [h1, if_false]
  have e : (- -1 : Int) = 1 := by decide
  rw [e, Int.ediv_one]
  split <;> omega
theorem fm_congr {α β : Type} {f g : α → Option β} : ∀ l : List α, (∀ a ∈ l, f a = g a) → l.filterMap f = l.filterMap g
  | [], _ => rfl
  | a :: r, h => by
    rw [List.filterMap_cons, List.filterMap_cons, h a List.mem_cons_self, fm_congr r fun b hb => h b (List.mem_cons_of_mem _ hb)]
theorem pick_back (xs : Array Value) : ((List.range (xs.size - 1)).filterMap fun (m : Nat) => xs[(((xs.size : Int) - 1) + (m : Int) * (-1)).toNat]?).toArray = xs.toList.tail.reverse.toArray := by
  have e1 : (fun (m : Nat) => xs[(((xs.size : Int) - 1) + (m : Int) * (-1)).toNat]?) = fun m => xs[xs.size - 1 - m]? := by
    funext m
    have : (((xs.size : Int) - 1) + (m : Int) * (-1)).toNat = xs.size - 1 - m := by omega
    rw [this]
  rw [e1]
  congr 1
  have e2 : (List.range (xs.size - 1)).filterMap (fun m => xs[xs.size - 1 - m]?) = (List.range (xs.size - 1)).filterMap (fun m => xs.toList.tail.reverse[m]?) := by
    apply fm_congr
    intro m hm
    have hm := List.mem_range.mp hm
    have hl : xs.toList.tail.length = xs.size - 1 := by rw [List.length_tail, Array.length_toList]
    rw [List.getElem?_reverse (by omega), hl, List.getElem?_tail, Array.getElem?_toList]
    try (congr 1; omega)
  rw [e2]
  have hl : xs.toList.tail.reverse.length = xs.size - 1 := by rw [List.length_reverse, List.length_tail, Array.length_toList]
  rw [← hl]
  generalize xs.toList.tail.reverse = ys
  have q := PySem.W.krv_all ys.toArray
  simpa using q
section
variable {prog : Program} {w : World} {A : Around} {E : Value → Shared → Prop} {s : Shared}
theorem sliceApplied_back {sl : Addr} {vl vu vs : Value} {n : Nat} {Q : Int × Int × Nat → Shared → Prop} (hn : 0 < n) (hs : s.heap.IsSliceOf sl vl vu vs) (pl : IsPart vl none) (pu : IsPart vu (some 0)) (ps : IsPart vs (some (-1)))
    (h : Q ((n : Int) - 1, -1, n - 1) s) : wpAny (model prog w) A (Builtin.Slice.sliceApplied (.ref sl) (pure (n : Int))) Q E s := by
  obtain ⟨os, hos, hcs, hds⟩ := id hs
  unfold Builtin.Slice.sliceApplied Builtin.Slice.sliceFields
  refine wpAny_bind (wpAny_bind (wpAny_field hos hds (x := vl) rfl (wpAny_bind (wpAny_field hos hds (x := vu) rfl (wpAny_bind (wpAny_field hos hds (x := vs) rfl (wpAny_pure ?_)))))))
  refine wpAny_bind (slicePart_ ps ?_); show wpAny _ _ (if ((-1 : Int) == 0) = true then _ else _) _ _ s; rw [if_neg (by decide)]
  refine wpAny_bind (slicePart_ pl (wpAny_bind (slicePart_ pu (wpAny_bind (wpAny_pure ?_)))))
  show wpAny _ _ (match Builtin.Slice.sliceAdjust none (some 0) (-1) (n : Int) with | (lo, hi) => pure (lo, (-1 : Int), Builtin.Slice.slicePlaces lo hi (-1))) _ _ s
  rw [adjust_back n hn]
  show wpAny _ _ (pure ((n : Int) - 1, (-1 : Int), Builtin.Slice.slicePlaces ((n : Int) - 1) 0 (-1))) _ _ s
  rw [places_back n hn]
  exact wpAny_pure h
theorem getItem_tuple_back {t sl : Addr} {items : Array Value} {vl vu vs : Value} {Q : Value → Shared → Prop} (ht : IsTup s.heap t items) (hs : s.heap.IsSliceOf sl vl vu vs) (pl : IsPart vl none) (pu : IsPart vu (some 0)) (ps : IsPart vs (some (-1)))
    (hn : 0 < items.size) (h : Q (.ref s.heap.objs.size) { s with heap := s.heap.push { cls := .type "tuple", data := .seq items.toList.tail.reverse.toArray } })
    (hsz : items.size ≤ sizeLine) : wpAny (model prog w) A (getItem (.ref t) (.ref sl)) Q E s := by
  have fit : sizeOk (.seq items.toList.tail.reverse.toArray) := by
    show items.toList.tail.reverse.toArray.size ≤ sizeLine
    rw [List.size_toArray, List.length_reverse, List.length_tail, Array.length_toList]; omega
  obtain ⟨os, hos, hcs, hds⟩ := id hs
  have hTs : s.TypeIs (.ref sl) "slice" := ⟨os, hos, hcs⟩
  unfold getItem
  try with_reducible refine wpAny_holding ?_
  first | refine wpAny_bind (wpAny_pure ?_) | skip
  refine wpAny_bind (wpAny_sequenceKey ht.typeIs (by decide) ?_)
  refine wpAny_bind (wpAny_callSpecial?_slot (name := Str.ofString "__getitem__") ht.typeIs slot_tuple_getitem (wpAny_call_entry slot_tuple_getitem ht.typeIs entry_tuple_getitem ?_ (args_tuple_getitem _ _)))
  show wpAny _ _ (Builtin.Tuple.tupleItemsOf (.ref t) >>= _) _ _ s; refine wpAny_bind (tupleItemsOf_ ht ?_)
  refine wpAny_bind (wpAny_typeOf hTs ?_); rw [if_pos (by decide)]
  refine wpAny_bind (sliceApplied_back hn hs pl pu ps ?_)
  show wpAny _ _ (if (((items.size : Int) - 1) == 0 && (-1 : Int) == 1 && (items.size - 1) == items.size) = true then _ else _) _ _ s
  rw [if_neg (by simp), pick_back]
  first
    | exact wpAny_bind (m := Builtin.Tuple.tupleExact _) (wpAny_newObj_type (wpAny_pure ⟨_, rfl, wpAny_pure h⟩) fit)
    | exact wpAny_bind (m := Builtin.Tuple.tupleExact _) (wpAny_newObj_type (wpAny_bind (wpAny_pure (wpAny_pure ⟨_, rfl, wpAny_pure h⟩))) fit)
    | exact wpAny_bind (wpAny_bind (m := Builtin.Tuple.tupleExact _) (wpAny_newObj_type (wpAny_pure (wpAny_pure ⟨_, rfl, wpAny_pure h⟩)) fit))
    | exact wpAny_bind (wpAny_bind (m := Builtin.Tuple.tupleExact _) (wpAny_newObj_type (wpAny_pure ⟨_, rfl, wpAny_pure h⟩) fit))
end
def tSlBack (K : PySem.W.Frag) (te : TE) : TE := fun σ H Q => te σ H fun x H1 => ∃ a y xs, x = .ref a ∧ SqT K H1 a (y :: xs) ∧ ∀ p, H1 p = none → Q (.ref p) (upd H1 p (.tup xs.reverse))
theorem pe_slBack {X : Cx} {e : Expr} {te : TE} {k0 k1 : Nat} {p0 p1 p2 p3 pos : Pos} (he : PE X e te) :
    PE X (.Subscript e (.Slice none (some (.Constant (.int 0) k0 p0)) (some (.UnaryOp .USub (.Constant (.int 1) k1 p1) p2)) p3) pos) (tSlBack X.K te) := by
  refine ⟨fun pins s σ H Q I h => ?_⟩
  refine Subscript_ (thn (he.run pins s σ H _ I h) fun v s1 ⟨x, H1, I1, r1, q1⟩ => ?_)
  obtain ⟨a, y, xs, ex, hx, q⟩ := q1
  subst ex
  cases r1
  have hhi : PO X (some (.Constant (.int 0) k0 p0)) (tPart (tC (.int 0))) := po_some pe_int
  have hst : PO X (some (.UnaryOp .USub (.Constant (.int 1) k1 p1) p2)) (tPart (tUn (rU fun i => .int (-i)) (tC (.int 1)))) := po_some (pe_un un_neg pe_int)
  refine wpAny_Slice (thn (po_none.run pins s1 σ H1 (fun o H2 => o = none ∧ H2 = H1) I1 ⟨rfl, rfl⟩) fun vl s2 ⟨l, H2, I2, pl, el, e2⟩ => ?_)
  subst el e2
  refine thn (hhi.run pins s2 σ H2 (fun o H3 => o = some 0 ∧ H3 = H2) I2 ⟨0, rfl, rfl, rfl⟩) fun vu s3 ⟨u, H3, I3, pu, eu, e3⟩ => ?_
  subst eu e3
  refine thn (hst.run pins s3 σ H3 (fun o H4 => o = some (-1) ∧ H4 = H3) I3 ⟨1, rfl, -1, rfl, rfl, rfl⟩) fun vs s4 ⟨o, H4, I4, ps, eo, e4⟩ => ?_
  subst eo e4
  have I5 : Inv X pins σ H4 { s4 with heap := s4.heap.push { cls := .type "slice", data := .fields #[vl, vu, vs] } } := I4.kept (t' := s4.toks) fun b ob q => Heap.get?_push_of_some _ q
  obtain ⟨its, r, ht, hz⟩ := I5.tuple hx
  have hlen := r.length
  rw [List.length_cons] at hlen hz
  show wpAny (model X.prog X.w) X.A (subscriptTail e (.Slice none (some (.Constant (.int 0) k0 p0)) (some (.UnaryOp .USub (.Constant (.int 1) k1 p1) p2)) p3) (.ref a) (.ref s4.heap.objs.size)) (EP X pins σ Q) X.xe { s4 with heap := s4.heap.push { cls := .type "slice", data := .fields #[vl, vu, vs] } }
  refine tail_any (ops := [.ref a, .ref s4.heap.objs.size]) ht.typeIs slot_tuple_getitem.lookup ?_ (by with_unfolding_all rfl)
  refine getItem_tuple_back ht (Heap.IsSliceOf.new _ vl vu vs) pl pu ps (by rw [List.size_toArray]; omega) ?_ (by rw [List.size_toArray]; omega)
  have rt : Vals xs its.tail := by
    cases r with
    | cons _ t => exact t
  refine ⟨.ref _, _, I5.laid (t' := s4.toks) (o := .tup xs.reverse) (fun b ob q => Heap.get?_push_of_some _ q) (Nat.le_refl _) ?_, rfl, q _ (I5.hok.fresh (Nat.le_refl _))⟩
  exact ⟨by rw [List.length_reverse]; omega, _, rt.reverse, IsTup.new _ _⟩
end Own
namespace Own
open PySem PySem.Spec PyProof.Rows L2 RT HT

/-! ### heaps: all but one object stays; tuples stay -/
def But (d : Addr) (H H' : Hp) : Prop := ∀ b o, b ≠ d → H b = some o → H' b = some o
theorem But.refl (d : Addr) (H : Hp) : But d H H := fun _ _ _ e => e
theorem But.trans {d : Addr} {H H1 H2 : Hp} (a : But d H H1) (b : But d H1 H2) : But d H H2 := fun c o n e => b c o n (a c o n e)
theorem But.upd {d : Addr} {H : Hp} {o : HO} : But d H (upd H d o) := fun b u n e => by rw [upd_ne n]; exact e
theorem same_new {H : Hp} {p : Addr} (h : H p = none) (o : HO) : Same H (upd H p o) := fun b u e => by rw [upd_ne (ne_of_none e h)]; exact e
theorem _root_.L2.Same.but {d : Addr} {H H' : Hp} (a : Same H H') : But d H H' := fun b o _ e => a b o e
/-- a change of what is new is no change -/
theorem But.same {d : Addr} {H H1 H2 : Hp} (n : H d = none) (a : Same H H1) (b : But d H1 H2) : Same H H2 := fun c o e => b c o (ne_of_none e n) (a c o e)
theorem But.free {d : Addr} {H H' : Hp} (a : But d H H') {p : Addr} (n : p ≠ d) (h : H' p = none) : H p = none := by
  cases e : H p with
  | none => rfl
  | some o => rw [a p o n e] at h; cases h
def Tups (H H' : Hp) : Prop := ∀ b xs, H b = some (.tup xs) → H' b = some (.tup xs)
theorem Tups.trans {H H1 H2 : Hp} (a : Tups H H1) (b : Tups H1 H2) : Tups H H2 := fun c xs e => b c xs (a c xs e)
theorem Tups.refl (H : Hp) : Tups H H := fun _ _ e => e
theorem _root_.L2.Same.tups {H H' : Hp} (a : Same H H') : Tups H H' := fun b xs e => a b _ e
theorem But.tups {d : Addr} {H H' : Hp} {ys : List V} (a : But d H H') (h : H d = some (.lst ys)) : Tups H H' := fun b xs e => a b _ (ne_of e h (by intro z; cases z)) e
theorem tups_upd {H : Hp} {d : Addr} {ys : List V} {o : HO} (h : H d = some (.lst ys)) : Tups H (upd H d o) := But.upd.tups h
theorem tups_updD {H : Hp} {d : Addr} {ys : List (Key × V)} {o : HO} (h : H d = some (.dK ys)) : Tups H (upd H d o) := fun b xs e => by rw [upd_ne (ne_of e h (by intro z; cases z))]; exact e

/-! ### terms -/
inductive Ter where
  | var (k : Key)
  | ap (f : Str) (as : List Ter)
mutual
def Ter.size : Ter → Nat
  | .var _ => 1
  | .ap _ as => Ter.sizes as + 1
def Ter.sizes : List Ter → Nat
  | [] => 0
  | a :: r => a.size + Ter.sizes r
end
mutual
def Ter.nest : Ter → Nat
  | .var _ => 1
  | .ap _ as => Ter.nests as + 1
def Ter.nests : List Ter → Nat
  | [] => 0
  | a :: r => max a.nest (Ter.nests r)
end
mutual
def Ter.ground : Ter → Bool
  | .var _ => false
  | .ap _ as => Ter.grounds as
def Ter.grounds : List Ter → Bool
  | [] => true
  | a :: r => a.ground && Ter.grounds r
end
def Ter.isVar : Ter → Bool
  | .var _ => true
  | .ap _ _ => false
theorem Ter.size_pos : ∀ t : Ter, 1 ≤ t.size
  | .var _ => Nat.le_refl _
  | .ap _ _ => Nat.le_add_left _ _
theorem Ter.sizes_len : ∀ ts : List Ter, ts.length ≤ Ter.sizes ts
  | [] => Nat.zero_le _
  | a :: r => by
    have h1 := a.size_pos
    have h2 := Ter.sizes_len r
    show r.length + 1 ≤ a.size + Ter.sizes r
    omega
theorem Ter.sizes_app : ∀ (as bs : List Ter), Ter.sizes (as ++ bs) = Ter.sizes as + Ter.sizes bs
  | [], bs => by show Ter.sizes bs = 0 + Ter.sizes bs; omega
  | a :: r, bs => by
    show a.size + Ter.sizes (r ++ bs) = a.size + Ter.sizes r + Ter.sizes bs
    rw [Ter.sizes_app r bs]
    omega
mutual
inductive TmAt (H : Hp) : V → Ter → Prop
  | int (i : Int) : TmAt H (.int i) (.var (.inl i))
  | str (x : Str) : TmAt H (.str x) (.var (.inr x))
  | ap {p : Addr} {f : Str} {xs : List V} {as : List Ter} : H p = some (.tup (.str f :: xs)) → TmAll H xs as → TmAt H (.ref p) (.ap f as)
inductive TmAll (H : Hp) : List V → List Ter → Prop
  | nil : TmAll H [] []
  | cons {v : V} {vs : List V} {t : Ter} {ts : List Ter} : TmAt H v t → TmAll H vs ts → TmAll H (v :: vs) (t :: ts)
end
mutual
theorem TmAt.mono {H H' : Hp} (m : Tups H H') : ∀ (t : Ter) (v : V), TmAt H v t → TmAt H' v t
  | .var _, _, h => by
    cases h with
    | int i => exact .int i
    | str x => exact .str x
  | .ap f as, _, h => by
    cases h with
    | ap e hs => exact .ap (m _ _ e) (TmAll.mono m as _ hs)
theorem TmAll.mono {H H' : Hp} (m : Tups H H') : ∀ (ts : List Ter) (vs : List V), TmAll H vs ts → TmAll H' vs ts
  | [], _, h => by cases h; exact .nil
  | t :: ts, _, h => by
    cases h with
    | cons h1 h2 => exact .cons (TmAt.mono m t _ h1) (TmAll.mono m ts _ h2)
end
theorem TmAll.len {H : Hp} : ∀ {vs : List V} {ts : List Ter}, TmAll H vs ts → vs.length = ts.length
  | _, _, .nil => rfl
  | _, _, .cons _ t => congrArg (· + 1) t.len
theorem TmAll.app {H : Hp} : ∀ {vs ws : List V} {ts us : List Ter}, TmAll H vs ts → TmAll H ws us → TmAll H (vs ++ ws) (ts ++ us)
  | _, _, _, _, .nil, h => h
  | _, _, _, _, .cons a r, h => .cons a (r.app h)
theorem TmAll.rev {H : Hp} : ∀ {vs : List V} {ts : List Ter}, TmAll H vs ts → TmAll H vs.reverse ts.reverse
  | _, _, .nil => .nil
  | _, _, .cons a r => by
    rw [List.reverse_cons, List.reverse_cons]
    exact r.rev.app (.cons a .nil)
theorem TmAll.get {H : Hp} : ∀ {vs : List V} {ts : List Ter} {i : Nat} {v : V}, TmAll H vs ts → vs[i]? = some v → ∃ t, ts[i]? = some t ∧ TmAt H v t
  | _, _, _, _, .nil, e => by simp at e
  | _, _, 0, _, .cons a r, e => by
    simp at e
    subst e
    exact ⟨_, rfl, a⟩
  | _, _, i + 1, v, .cons a r, e => by
    obtain ⟨t, h1, h2⟩ := TmAll.get (i := i) (v := v) r (by simpa using e)
    exact ⟨t, by simpa using h1, h2⟩
/-- the last one -/
theorem TmAll.last {H : Hp} {vs : List V} {ts : List Ter} (h : TmAll H vs ts) (hv : vs ≠ []) : ∃ vs' v ts' t, vs = vs' ++ [v] ∧ ts = ts' ++ [t] ∧ TmAll H vs' ts' ∧ TmAt H v t := by
  have r := h.rev
  cases e1 : vs.reverse with
  | nil => exact absurd (List.reverse_eq_nil_iff.mp e1) hv
  | cons v vr =>
    cases e2 : ts.reverse with
    | nil => rw [e1, e2] at r; cases r
    | cons t tr =>
      rw [e1, e2] at r
      cases r with
      | cons a q =>
        refine ⟨vr.reverse, v, tr.reverse, t, ?_, ?_, q.rev, a⟩
        · rw [← List.reverse_reverse (as := vs), e1, List.reverse_cons]
        · rw [← List.reverse_reverse (as := ts), e2, List.reverse_cons]

/-! ### readings that come often -/
/-- isinstance(v, tuple), v a term -/
def rIsiTer : List V → Hp → VK → Prop := fun xs H Q => ∃ (v : V) (t : Ter), xs = [v, .ty "tuple"] ∧ TmAt H v t ∧ Q (.bl (!t.isVar)) H
theorem call_isiTer {X : Cx} : CallR X (.builtin "isinstance") rIsiTer := by
  intro pins s σ H xs us Q I r h
  obtain ⟨v, t, rfl, h, q⟩ := h
  refine call_isi pins s σ H _ us Q I r ?_
  cases h with
  | int i => exact ⟨_, _, _, _, false, rfl, .ty _, .base (.int i), kit_ty (by decide +kernel), q⟩
  | str x => exact ⟨_, _, _, _, false, rfl, .ty _, .base (.str x), kit_ty (by decide +kernel), q⟩
  | ap e _ => exact ⟨_, _, _, _, true, rfl, .ty _, .base (.tup e), kit_ty (by decide +kernel), q⟩
theorem cut_1 (y : V) (ys : List V) : cutV (y :: ys) (some 1) none = ys := by
  unfold cutV
  rw [show HT.sIx (y :: ys).length 0 (some 1) = min 1 (y :: ys).length from HT.sIx_nat (y :: ys).length 0 1, HT.sIx_none, List.length_cons, show min 1 (ys.length + 1) = 1 by omega]
  show List.take (ys.length + 1 - 1) ys = ys
  rw [Nat.add_sub_cancel]
  exact List.take_length
/-- t[1:] of a tuple that is not empty -/
def rSl1 (K : PySem.W.Frag) : V → Option Int → Option Int → Hp → VK → Prop := fun x lo hi H Q => ∃ a y ys, x = .ref a ∧ lo = some 1 ∧ hi = none ∧ SqT K H a (y :: ys) ∧ ∀ p, H p = none → Q (.ref p) (upd H p (.tup ys))
theorem sl_1 {X : Cx} : SlR X (rSl1 X.K) := by
  intro pins s σ H x v vl vu lo hi sl Q I rx hs pl pu h
  obtain ⟨a, y, ys, rfl, rfl, rfl, e, q⟩ := h
  refine sl_tup pins s σ H _ v vl vu _ _ sl Q I rx hs pl pu ⟨a, _, rfl, e, fun ⟨z, _⟩ => ?_, fun p hp => ?_⟩
  · rw [show HT.sIx (y :: ys).length 0 (some 1) = min 1 (y :: ys).length from HT.sIx_nat (y :: ys).length 0 1, List.length_cons] at z
    omega
  · rw [cut_1]
    exact q p hp
/-- xs.pop(), the last item told -/
def rPopL : V → List V → Hp → VK → Prop := fun x xs H Q => ∃ (l : Addr) (vs : List V) (v : V), x = .ref l ∧ xs = [] ∧ H l = some (.lst (vs ++ [v])) ∧ Q v (upd H l (.lst vs))
theorem mt_popL {X : Cx} : MtR X "list.pop" rPopL := by
  intro pins s σ H x xs v us Q I rx rxs h
  obtain ⟨l, vs, y, rfl, rfl, e, q⟩ := h
  refine mt_pop pins s σ H _ _ v us Q I rx rxs ⟨l, _, y, rfl, rfl, e, ?_, ?_⟩
  · rw [List.length_append, List.length_singleton, Nat.add_sub_cancel]
    exact List.getElem?_concat_length
  · rw [List.dropLast_concat]
    exact q
theorem tyl {K : PySem.W.Frag} {H : Hp} {l : Addr} {vs : List V} (h : H l = some (.lst vs)) : tyV K "list" (.ref l) H := .inl ⟨rfl, _, .inl (.inl h)⟩
theorem tru_l {K : PySem.W.Frag} {H : Hp} {l : Addr} {vs : List V} (h : H l = some (.lst vs)) : TruV K (.ref l) H (!vs.isEmpty) := .inl ⟨vs, .inl (.inl h), rfl⟩
theorem small6 {n : Nat} (h : n ≤ 1000000) : n ≤ sizeLine := Nat.le_trans h (by decide)
theorem small6' {n : Nat} (h : n ≤ 1000000) : n < sizeLine := Nat.lt_of_le_of_lt h (by decide)
end Own
namespace Own
open PySem PySem.Spec PyProof.Rows L2 RT HT

/-! ### walks within a comprehension, the turn's body any -/
theorem walk_l {K : PySem.W.Frag} {a : Addr} {xs : List V} {H0 : Hp} {Qd : Hp → Prop} {body : (Hp → Prop) → V → Hp → Prop} (Pv : Nat → Hp → Prop) (h0 : Pv 0 H0) (hl : ∀ i H, i ≤ xs.length → Pv i H → SqL K H a xs)
    (hs : ∀ i x H, xs[i]? = some x → Pv i H → body (Pv (i + 1)) x H) (hd : ∀ H, Pv xs.length H → Qd H) :
    ∃ W : Nat → Nat → Hp → Prop, (∃ m, W 0 m H0) ∧ ∀ i m H, W i m H → ((Itl K a).stop i H ∧ Qd H) ∨ ((Itl K a).go i H ∧ ∃ Nx : Hp → Prop, (∀ H', Nx H' → ∃ m', m' < m ∧ W (i + 1) m' H') ∧ ∀ x H', (Itl K a).yld i H x H' → body Nx x H') := by
  refine ⟨fun i m H => m = xs.length - i ∧ i ≤ xs.length ∧ Pv i H, ⟨xs.length, by simp, Nat.zero_le _, h0⟩, ?_⟩
  rintro i m H ⟨rfl, hi, p⟩
  have q := hl i H hi p
  by_cases hlt : i < xs.length
  · refine .inr ⟨⟨xs, xs[i], q, by simp [hlt]⟩, Pv (i + 1), fun H' p' => ⟨xs.length - (i + 1), by omega, rfl, hlt, p'⟩, fun x H' y => ?_⟩
    obtain ⟨e, y⟩ := y
    subst e
    exact hs i x _ (y xs q) p
  · have e : i = xs.length := by omega
    subst e
    exact .inl ⟨⟨xs, q, Nat.le_refl _⟩, hd H p⟩
theorem walk_t {K : PySem.W.Frag} {a : Addr} {xs : List V} {H0 : Hp} {Qd : Hp → Prop} {body : (Hp → Prop) → V → Hp → Prop} (Pv : Nat → Hp → Prop) (h0 : Pv 0 H0) (hl : ∀ i H, i ≤ xs.length → Pv i H → SqT K H a xs)
    (hs : ∀ i x H, xs[i]? = some x → Pv i H → body (Pv (i + 1)) x H) (hd : ∀ H, Pv xs.length H → Qd H) :
    ∃ W : Nat → Nat → Hp → Prop, (∃ m, W 0 m H0) ∧ ∀ i m H, W i m H → ((Itt K a).stop i H ∧ Qd H) ∨ ((Itt K a).go i H ∧ ∃ Nx : Hp → Prop, (∀ H', Nx H' → ∃ m', m' < m ∧ W (i + 1) m' H') ∧ ∀ x H', (Itt K a).yld i H x H' → body Nx x H') := by
  refine ⟨fun i m H => m = xs.length - i ∧ i ≤ xs.length ∧ Pv i H, ⟨xs.length, by simp, Nat.zero_le _, h0⟩, ?_⟩
  rintro i m H ⟨rfl, hi, p⟩
  have q := hl i H hi p
  by_cases hlt : i < xs.length
  · refine .inr ⟨⟨xs, xs[i], q, by simp [hlt]⟩, Pv (i + 1), fun H' p' => ⟨xs.length - (i + 1), by omega, rfl, hlt, p'⟩, fun x H' y => ?_⟩
    obtain ⟨e, y⟩ := y
    subst e
    exact hs i x _ (y xs q) p
  · have e : i = xs.length := by omega
    subst e
    exact .inl ⟨⟨xs, q, Nat.le_refl _⟩, hd H p⟩

/-! ### what the functions of terms compute -/
def Ter.args : Ter → List Ter
  | .var _ => []
  | .ap _ as => as
def argsOf (ts : List Ter) : List Ter := ts.flatMap Ter.args
theorem argsOf_app (as bs : List Ter) : argsOf (as ++ bs) = argsOf as ++ argsOf bs := List.flatMap_append
theorem argsOf_take {ts : List Ter} {i : Nat} {t : Ter} (h : ts[i]? = some t) : argsOf (ts.take (i + 1)) = argsOf (ts.take i) ++ t.args := by
  rw [List.take_add_one, h, argsOf_app]
  show _ ++ ([t].flatMap Ter.args) = _
  rw [List.flatMap_cons, List.flatMap_nil, List.append_nil]
theorem sizes_argsOf : ∀ ts : List Ter, Ter.sizes (argsOf ts) + ts.length = Ter.sizes ts
  | [] => rfl
  | .var k :: r => by
    have ih := sizes_argsOf r
    show Ter.sizes (argsOf r) + (r.length + 1) = 1 + Ter.sizes r
    omega
  | .ap f as :: r => by
    have ih := sizes_argsOf r
    show Ter.sizes (as ++ argsOf r) + (r.length + 1) = Ter.sizes as + 1 + Ter.sizes r
    rw [Ter.sizes_app]
    omega
theorem nests_app : ∀ (as bs : List Ter), Ter.nests (as ++ bs) = max (Ter.nests as) (Ter.nests bs)
  | [], bs => by show Ter.nests bs = max 0 _; omega
  | a :: r, bs => by
    show max a.nest (Ter.nests (r ++ bs)) = max (max a.nest (Ter.nests r)) (Ter.nests bs)
    rw [nests_app r bs]
    omega
theorem Ter.nest_pos : ∀ t : Ter, 1 ≤ t.nest
  | .var _ => Nat.le_refl _
  | .ap _ _ => Nat.le_add_left _ _
theorem nests_argsOf : ∀ ts : List Ter, ts ≠ [] → Ter.nests (argsOf ts) + 1 = Ter.nests ts
  | [], h => absurd rfl h
  | [.var k], _ => rfl
  | [.ap f as], _ => by
    show Ter.nests (as ++ []) + 1 = max (Ter.nests as + 1) 0
    rw [List.append_nil]
    omega
  | .var k :: b :: r, _ => by
    have ih := nests_argsOf (b :: r) (by simp)
    have p := b.nest_pos
    have e : Ter.nests (b :: r) = max b.nest (Ter.nests r) := rfl
    show Ter.nests (argsOf (b :: r)) + 1 = max 1 (Ter.nests (b :: r))
    omega
  | .ap f as :: b :: r, _ => by
    have ih := nests_argsOf (b :: r) (by simp)
    show Ter.nests (as ++ argsOf (b :: r)) + 1 = max (Ter.nests as + 1) (Ter.nests (b :: r))
    rw [nests_app]
    omega
def hasK (acc : List Key) (k : Key) : Bool := acc.any fun x => decide (x = k)
theorem hasK_iff {acc : List Key} {k : Key} : hasK acc k = true ↔ k ∈ acc := by
  unfold hasK
  rw [List.any_eq_true]
  constructor
  · rintro ⟨x, hx, h⟩
    have h : x = k := of_decide_eq_true h
    exact h ▸ hx
  · intro h
    exact ⟨k, h, decide_eq_true rfl⟩
def addK (acc : List Key) (k : Key) : List Key := if hasK acc k = true then acc else acc ++ [k]
mutual
def Ter.into (acc : List Key) : Ter → List Key
  | .var k => addK acc k
  | .ap _ as => Ter.intos acc as
def Ter.intos (acc : List Key) : List Ter → List Key
  | [] => acc
  | a :: r => Ter.intos (Ter.into acc a) r
end
theorem intos_app : ∀ (as bs : List Ter) (acc : List Key), Ter.intos acc (as ++ bs) = Ter.intos (Ter.intos acc as) bs
  | [], _, _ => rfl
  | a :: r, bs, acc => intos_app r bs (Ter.into acc a)
def Ter.vars (t : Ter) : List Key := Ter.into [] t
def yes (k : Key) : Key × V := (k, .bl true)
theorem put_yes (acc : List Key) (k : Key) : putK (acc.map yes) k (.bl true) = (addK acc k).map yes := by
  unfold putK addK
  have e : ((acc.map yes).any fun kv => decide (kv.1 = k)) = hasK acc k := by
    rw [List.any_map]
    rfl
  rw [e]
  by_cases hk : hasK acc k = true
  · rw [if_pos hk, if_pos hk, List.map_map]
    apply List.map_congr_left
    intro x _
    show (if x = k then (x, V.bl true) else (x, V.bl true)) = (x, V.bl true)
    split <;> rfl
  · rw [if_neg hk, if_neg hk, List.map_append]
    rfl
theorem addK_len (acc : List Key) (k : Key) : (addK acc k).length ≤ acc.length + 1 := by
  unfold addK
  split
  · omega
  · rw [List.length_append, List.length_singleton]; omega
theorem yes_keys (acc : List Key) : (acc.map yes).map (fun kv => kV kv.1) = acc.map kV := by
  rw [List.map_map]
  rfl
theorem addK_ne (acc : List Key) (k : Key) : addK acc k ≠ [] := by
  unfold addK
  split
  · rename_i h
    intro z
    rw [z] at h
    exact absurd (show false = true from h) Bool.false_ne_true
  · simp
mutual
theorem into_ne : ∀ (t : Ter) (acc : List Key), acc ≠ [] ∨ t.ground = false → Ter.into acc t ≠ []
  | .var k, acc, _ => addK_ne acc k
  | .ap f as, acc, h => intos_ne as acc h
theorem intos_ne : ∀ (ts : List Ter) (acc : List Key), acc ≠ [] ∨ Ter.grounds ts = false → Ter.intos acc ts ≠ []
  | [], acc, h => h.resolve_right (by intro z; cases z)
  | a :: r, acc, h => by
    refine intos_ne r _ ?_
    rcases h with h | h
    · exact .inl (into_ne a acc (.inl h))
    · have h : (a.ground && Ter.grounds r) = false := h
      cases ha : a.ground with
      | false => exact .inl (into_ne a acc (.inr ha))
      | true =>
        rw [ha] at h
        exact .inr h
end
mutual
theorem into_ground : ∀ (t : Ter) (acc : List Key), t.ground = true → Ter.into acc t = acc
  | .var k, _, h => by cases h
  | .ap f as, acc, h => intos_ground as acc h
theorem intos_ground : ∀ (ts : List Ter) (acc : List Key), Ter.grounds ts = true → Ter.intos acc ts = acc
  | [], _, _ => rfl
  | a :: r, acc, h => by
    have h : (a.ground && Ter.grounds r) = true := h
    rw [Bool.and_eq_true] at h
    show Ter.intos (Ter.into acc a) r = acc
    rw [into_ground a acc h.1, intos_ground r acc h.2]
end
theorem vars_nil (t : Ter) : decide (t.vars = []) = t.ground := by
  cases h : t.ground with
  | true => exact decide_eq_true (into_ground t [] h)
  | false => exact decide_eq_false (into_ne t [] (.inr h))
end Own
namespace Own
open PySem PySem.Spec PyProof.Rows L2 RT HT

/-! ### a list of ints at d, whatever they are -/
def Ints (H : Hp) (d : Addr) : Prop := ∃ ms : List Int, ms.length ≤ 100000 ∧ H d = some (.lst (ms.map V.int))
theorem Ints.lst {H : Hp} {d : Addr} (h : Ints H d) : ∃ vs, H d = some (.lst vs) := by
  obtain ⟨ms, _, e⟩ := h
  exact ⟨_, e⟩
theorem But.tupsI {d : Addr} {H H' : Hp} (a : But d H H') (h : Ints H d) : Tups H H' := by
  obtain ⟨ms, _, e⟩ := h
  exact a.tups e
theorem Ints.ne {H : Hp} {d p : Addr} (h : Ints H d) (n : H p = none) : p ≠ d := by
  obtain ⟨ms, _, e⟩ := h
  exact (ne_of_none e n).symm
theorem Ints.of_but {H H' : Hp} {d p : Addr} (h : Ints H d) (b : But p H H') (n : d ≠ p) : Ints H' d := by
  obtain ⟨ms, l, e⟩ := h
  exact ⟨ms, l, b d _ n e⟩
theorem Ints.same {H H' : Hp} {d : Addr} (h : Ints H d) (b : Same H H') : Ints H' d := by
  obtain ⟨ms, l, e⟩ := h
  exact ⟨ms, l, b d _ e⟩

/-! ### words -/
abbrev LET : Str := "abcdefghijklmnopqrstuvwxyz"
abbrev SGN : Str := LET ++ ("ABCDEFGHIJKLMNOPQRSTUVWXYZ0123456789_" : Str)
abbrev RES : List Str := ["true", "false", "all", "some", "goal", "axiom"]
def chOk (c : Nat) : Bool := (decide (97 ≤ c) && decide (c ≤ 122)) || (decide (65 ≤ c) && decide (c ≤ 90)) || (decide (48 ≤ c) && decide (c ≤ 57)) || decide (c = 95)
def isLow (c : Nat) : Bool := decide (97 ≤ c) && decide (c ≤ 122)
/-- a word: a small letter, then signs -/
structure WordOk (x : Str) : Prop where
  head : ∃ c r, x.cps.toList = c :: r ∧ isLow c = true
  all : x.cps.toList.all chOk = true
  len : x.length ≤ 40
theorem let_len : LET.length = 26 := by decide +kernel
theorem sgn_len : SGN.length = 63 := by decide +kernel
theorem let_at {i : Nat} (h : i < 26) : ∃ c, LET.cps[i]? = some c ∧ isLow c = true ∧ chOk c = true := by
  have a : LET.cps.toList.all (fun c => isLow c && chOk c) = true := by decide +kernel
  have l : LET.cps.toList.length = 26 := by decide +kernel
  have hi : i < LET.cps.toList.length := by omega
  have b := List.all_eq_true.mp a _ (List.getElem_mem hi)
  rw [Bool.and_eq_true] at b
  exact ⟨_, by rw [← Array.getElem?_toList, List.getElem?_eq_getElem hi], b.1, b.2⟩
theorem sgn_at {i : Nat} (h : i < 63) : ∃ c, SGN.cps[i]? = some c ∧ chOk c = true := by
  have a : SGN.cps.toList.all chOk = true := by decide +kernel
  have l : SGN.cps.toList.length = 63 := by decide +kernel
  have hi : i < SGN.cps.toList.length := by omega
  exact ⟨_, by rw [← Array.getElem?_toList, List.getElem?_eq_getElem hi], List.all_eq_true.mp a _ (List.getElem_mem hi)⟩
theorem app_cps (x y : Str) : (x ++ y).cps.toList = x.cps.toList ++ y.cps.toList := by
  show (x.cps ++ y.cps).toList = _
  rw [Array.toList_append]
theorem app_len (x y : Str) : (x ++ y).length = x.length + y.length := by
  show (x.cps ++ y.cps).size = x.cps.size + y.cps.size
  rw [Array.size_append]
/-- part of a word: all but the length -/
structure WordIn (x : Str) (n : Nat) : Prop where
  head : ∃ c r, x.cps.toList = c :: r ∧ isLow c = true
  all : x.cps.toList.all chOk = true
  len : x.length ≤ n
theorem word1 {c : Nat} (h1 : isLow c = true) (h2 : chOk c = true) : WordIn ⟨#[c]⟩ 1 := ⟨⟨c, [], rfl, h1⟩, by show (chOk c && true) = true; rw [h2]; rfl, Nat.le_refl _⟩
theorem WordIn.add {x y : Str} {n m : Nat} (h : WordIn x n) (a : y.cps.toList.all chOk = true) (l : y.length ≤ m) : WordIn (x ++ y) (n + m) := by
  obtain ⟨c, r, e, hc⟩ := h.head
  refine ⟨⟨c, r ++ y.cps.toList, by rw [app_cps, e]; rfl, hc⟩, by rw [app_cps, List.all_append, h.all, a]; rfl, by rw [app_len]; have := h.len; omega⟩
theorem WordIn.ok {x : Str} {n : Nat} (h : WordIn x n) (l : n ≤ 40) : WordOk x := ⟨h.head, h.all, Nat.le_trans h.len l⟩
/-- words of a law: all right, no two alike, none reserved -/
structure Words (ws : List Str) : Prop where
  ok : ∀ x ∈ ws, WordOk x
  nd : ws.Nodup
  res : ∀ x ∈ ws, x ∉ RES
/-- how many of the blocked ones are as long as n or longer -/
def longer (B : List Str) (n : Nat) : Nat := (B.filter fun y => decide (n ≤ y.length)).length
theorem longer_le (B : List Str) (n : Nat) : longer B n ≤ B.length := List.length_filter_le _ _
theorem longer_lt : ∀ {B : List Str} {x : Str}, x ∈ B → longer B (x.length + 1) < longer B x.length := by
  intro B
  have mono : ∀ (B : List Str) (n : Nat), longer B (n + 1) ≤ longer B n := fun B n => by
    induction B with
    | nil => exact Nat.le_refl _
    | cons y r ih =>
      unfold longer at ih ⊢
      rw [List.filter_cons, List.filter_cons]
      by_cases h1 : n + 1 ≤ y.length
      · rw [if_pos (decide_eq_true h1), if_pos (decide_eq_true (by omega)), List.length_cons, List.length_cons]; omega
      · rw [if_neg (by rw [decide_eq_false h1]; decide)]
        split
        · rw [List.length_cons]; omega
        · exact ih
  induction B with
  | nil => intro x h; cases h
  | cons y r ih =>
    intro x h
    unfold longer at ih ⊢
    rw [List.filter_cons, List.filter_cons]
    rcases List.mem_cons.mp h with e | h
    · subst e
      rw [if_neg (by rw [decide_eq_false (by omega)]; decide), if_pos (decide_eq_true (Nat.le_refl _)), List.length_cons]
      have := mono r x.length
      unfold longer at this
      omega
    · have q := ih h
      by_cases h1 : x.length + 1 ≤ y.length
      · rw [if_pos (decide_eq_true h1), if_pos (decide_eq_true (by omega)), List.length_cons, List.length_cons]; omega
      · rw [if_neg (by rw [decide_eq_false h1]; decide)]
        split
        · rw [List.length_cons]; omega
        · exact q
theorem inV_str (x : Str) (ws : List Str) : inV (.str x) (ws.map V.str) = true ↔ x ∈ ws := by
  unfold inV
  rw [List.any_map, List.any_eq_true]
  constructor
  · rintro ⟨y, hy, h⟩
    have h : (y == x) = true := h
    exact eq_of_beq h ▸ hy
  · intro h
    exact ⟨x, h, show (x == x) = true from beq_self_eq_true x⟩
theorem flat_strs (ws : List Str) : (ws.map V.str).all flatV = true := by
  rw [List.all_map, List.all_eq_true]
  intro x _
  rfl
end Own
namespace Own
open PySem PySem.Spec PyProof.Rows L2 RT HT

/-! ### terms over words -/
mutual
def Ter.wf (W : Str → Nat → Prop) (U : Key → Prop) : Ter → Prop
  | .var k => U k
  | .ap f as => W f as.length ∧ Ter.wfs W U as
def Ter.wfs (W : Str → Nat → Prop) (U : Key → Prop) : List Ter → Prop
  | [] => True
  | a :: r => a.wf W U ∧ Ter.wfs W U r
end
theorem wfs_app {W : Str → Nat → Prop} {U : Key → Prop} : ∀ {as bs : List Ter}, Ter.wfs W U as → Ter.wfs W U bs → Ter.wfs W U (as ++ bs)
  | [], _, _, h => h
  | _ :: _, _, h, h2 => ⟨h.1, wfs_app h.2 h2⟩
theorem wfs_get {W : Str → Nat → Prop} {U : Key → Prop} : ∀ {as : List Ter} {i : Nat} {t : Ter}, Ter.wfs W U as → as[i]? = some t → t.wf W U
  | [], _, _, _, e => by simp at e
  | a :: r, 0, t, h, e => by
    simp at e
    exact e ▸ h.1
  | a :: r, i + 1, t, h, e => wfs_get (as := r) (i := i) h.2 (by simpa using e)
/-- the i-th word has i - 2 arguments -/
def symOf (ws : List Str) (f : Str) (n : Nat) : Prop := ∃ i : Nat, i < 6 ∧ ws[i]? = some f ∧ n = i - 2
def numVar (k : Key) : Prop := ∃ r : Int, k = .inl r ∧ 0 ≤ r ∧ r < 900
theorem sizes_snoc (as : List Ter) (t : Ter) : Ter.sizes (as ++ [t]) = Ter.sizes as + t.size := by
  rw [Ter.sizes_app]
  show _ + (t.size + 0) = _
  omega
theorem nests_snoc (as : List Ter) (t : Ter) : Ter.nests (as ++ [t]) = max (Ter.nests as) t.nest := by
  rw [nests_app]
  show max _ (max t.nest 0) = _
  omega
theorem grounds_app : ∀ (as bs : List Ter), Ter.grounds (as ++ bs) = (Ter.grounds as && Ter.grounds bs)
  | [], _ => rfl
  | a :: r, bs => by
    show (a.ground && Ter.grounds (r ++ bs)) = _
    rw [grounds_app r bs, ← Bool.and_assoc]
    rfl
theorem grounds_snoc (as : List Ter) (t : Ter) : Ter.grounds (as ++ [t]) = (Ter.grounds as && t.ground) := by
  rw [grounds_app]
  show (_ && (t.ground && true)) = _
  rw [Bool.and_true]
theorem pow4 (n : Nat) : 1 ≤ 4 ^ n := Nat.one_le_pow _ _ (by decide)
mutual
theorem nest_size : ∀ t : Ter, t.nest ≤ t.size
  | .var _ => Nat.le_refl _
  | .ap _ as => Nat.succ_le_succ (nests_sizes as)
theorem nests_sizes : ∀ ts : List Ter, Ter.nests ts ≤ Ter.sizes ts
  | [] => Nat.le_refl _
  | a :: r => by
    have h1 := nest_size a
    have h2 := nests_sizes r
    show max a.nest (Ter.nests r) ≤ a.size + Ter.sizes r
    omega
end
theorem nest_le_of : ∀ {ts : List Ter} {i : Nat} {t : Ter}, ts[i]? = some t → t.nest ≤ Ter.nests ts
  | [], _, _, e => by simp at e
  | a :: r, 0, t, e => by
    simp at e
    subst e
    exact Nat.le_max_left _ _
  | a :: r, i + 1, t, e => Nat.le_trans (nest_le_of (ts := r) (i := i) (by simpa using e)) (Nat.le_max_right _ _)
theorem size_le_of : ∀ {ts : List Ter} {i : Nat} {t : Ter}, ts[i]? = some t → t.size ≤ Ter.sizes ts
  | [], _, _, e => by simp at e
  | a :: r, 0, t, e => by
    simp at e
    subst e
    exact Nat.le_add_right _ _
  | a :: r, i + 1, t, e => Nat.le_trans (size_le_of (ts := r) (i := i) (by simpa using e)) (Nat.le_add_left _ _)

/-! ### data: the kind of a value -/
def kindOf : PyData → String
  | .none => "NoneType"
  | .bool _ => "bool"
  | .int _ => "int"
  | .str _ => "str"
  | .list _ => "list"
  | .tuple _ => "tuple"
  | .dict _ => "dict"
theorem tyx_dp {K : PySem.W.Frag} {H : Hp} {v : V} {x : PyData} (h : Dp K H v x) : TyX K H v (.type (kindOf x)) := by
  cases h with
  | non => exact .base .non
  | bl b => exact .base (.bl b)
  | int i => exact .base (.int i)
  | str y => exact .base (.str y)
  | lst h _ =>
    rcases h with (h | ⟨o, h⟩) | ⟨o, its, n, h, c, _⟩
    · exact .base (.lst h)
    · exact .base (.frz h)
    · exact .kList h c
  | tup h _ =>
    rcases h with (h | ⟨o, h⟩) | ⟨o, its, n, h, c, _⟩
    · exact .base (.tup h)
    · exact .fTuple h
    · exact .kTuple h c
def rIsiDat (K : PySem.W.Frag) : List V → Hp → VK → Prop := fun xs H Q => ∃ (v : V) (x : PyData) (c : String) (b : Bool), xs = [v, .ty c] ∧ Dp K H v x ∧ kitB (kindOf x) c = some b ∧ Q (.bl b) H
theorem call_isiDat {X : Cx} : CallR X (.builtin "isinstance") (rIsiDat X.K) := by
  intro pins s σ H xs us Q I r h
  obtain ⟨v, x, c, b, rfl, h, e, q⟩ := h
  exact call_isi pins s σ H _ us Q I r ⟨v, .ty c, _, _, b, rfl, .ty c, tyx_dp h, kit_ty e, q⟩
theorem Dp.len {K : PySem.W.Frag} {H : Hp} : ∀ {vs : List V} {xs : List PyData}, DpAll K H vs xs → vs.length = xs.length
  | _, _, .nil => rfl
  | _, _, .cons _ t => congrArg (· + 1) (Dp.len t)
theorem Dp.get {K : PySem.W.Frag} {H : Hp} : ∀ {vs : List V} {xs : List PyData} {i : Nat} {v : V}, DpAll K H vs xs → vs[i]? = some v → ∃ x, xs[i]? = some x ∧ Dp K H v x
  | _, _, _, _, .nil, e => by simp at e
  | _, _, 0, _, .cons a r, e => by
    simp at e
    subst e
    exact ⟨_, rfl, a⟩
  | _, _, i + 1, v, .cons a r, e => by
    obtain ⟨t, h1, h2⟩ := Dp.get (i := i) (v := v) r (by simpa using e)
    exact ⟨t, by simpa using h1, h2⟩
theorem depth_le_of : ∀ {xs : List PyData} {i : Nat} {x : PyData}, xs[i]? = some x → x.depth ≤ PyData.depthAll xs
  | [], _, _, e => by simp at e
  | a :: r, 0, t, e => by
    simp at e
    subst e
    exact Nat.le_max_left _ _
  | a :: r, i + 1, t, e => Nat.le_trans (depth_le_of (xs := r) (i := i) (by simpa using e)) (Nat.le_max_right _ _)
mutual
theorem Dp.same {K : PySem.W.Frag} {H H' : Hp} (m : Same H H') : ∀ (x : PyData) (v : V), Dp K H v x → Dp K H' v x
  | .none, _, h => by cases h; exact .non
  | .bool b, _, h => by cases h; exact .bl b
  | .int i, _, h => by cases h; exact .int i
  | .str x, _, h => by cases h; exact .str x
  | .list ds, _, h => by
    cases h with
    | lst e hs => exact .lst (m.seq e) (Dp.sameA m ds _ hs)
  | .tuple ds, _, h => by
    cases h with
    | tup e hs =>
      refine .tup ?_ (Dp.sameA m ds _ hs)
      rcases e with (e | ⟨o, e⟩) | e
      · exact .inl (.inl (m _ _ e))
      · exact .inl (.inr ⟨o, m _ _ e⟩)
      · exact .inr e
  | .dict _, _, h => by cases h
theorem Dp.sameA {K : PySem.W.Frag} {H H' : Hp} (m : Same H H') : ∀ (xs : List PyData) (vs : List V), DpAll K H vs xs → DpAll K H' vs xs
  | [], _, h => by cases h; exact .nil
  | x :: xs, _, h => by
    cases h with
    | cons a r => exact .cons (Dp.same m x _ a) (Dp.sameA m xs _ r)
end
def isTupD : PyData → Bool
  | .tuple _ => true
  | _ => false
def isListD : PyData → Bool
  | .list _ => true
  | _ => false
def isBoolD : PyData → Bool
  | .bool _ => true
  | _ => false
def isIntD : PyData → Bool
  | .bool _ => true
  | .int _ => true
  | _ => false
def isStrD : PyData → Bool
  | .str _ => true
  | _ => false
theorem k_tup (x : PyData) : kitB (kindOf x) "tuple" = some (isTupD x) := by
  cases x <;> (unfold kindOf isTupD; dsimp only; decide +kernel)
theorem k_list (x : PyData) : kitB (kindOf x) "list" = some (isListD x) := by
  cases x <;> (unfold kindOf isListD; dsimp only; decide +kernel)
theorem k_bool (x : PyData) : kitB (kindOf x) "bool" = some (isBoolD x) := by
  cases x <;> (unfold kindOf isBoolD; dsimp only; decide +kernel)
theorem k_int (x : PyData) : kitB (kindOf x) "int" = some (isIntD x) := by
  cases x <;> (unfold kindOf isIntD; dsimp only; decide +kernel)
theorem k_str (x : PyData) : kitB (kindOf x) "str" = some (isStrD x) := by
  cases x <;> (unfold kindOf isStrD; dsimp only; decide +kernel)
/-- nested less than n deep, no dict, no item too long -/
def fitsD : Nat → PyData → Prop
  | 0, _ => False
  | n + 1, .list ds => ds.length ≤ 1000000 ∧ ∀ d ∈ ds, fitsD n d
  | n + 1, .tuple ds => ds.length ≤ 1000000 ∧ ∀ d ∈ ds, fitsD n d
  | _ + 1, .dict _ => False
  | _ + 1, _ => True
/-- a[i], a a list or a tuple -/
def rIxLT (K : PySem.W.Frag) : R2 := fun x y H Q => ∃ (p : Addr) (xs : List V) (i : Int) (v : V), x = .ref p ∧ y = .int i ∧ (SqL K H p xs ∨ SqT K H p xs) ∧ atI xs i = some v ∧ Q v H
theorem ix_lt {X : Cx} : IxR X (rIxLT X.K) := by
  intro value slice pins s σ H x y v u Q I rx ry h hs
  obtain ⟨p, xs, i, z, ex, ey, h, e, q⟩ := h
  rcases h with h | h
  · exact ix_list value slice pins s σ H x y v u Q I rx ry ⟨p, xs, i, z, ex, ey, h, e, q⟩ hs
  · exact ix_tup value slice pins s σ H x y v u Q I rx ry ⟨p, xs, i, z, ex, ey, h, e, q⟩ hs
theorem dp_ints {K : PySem.W.Frag} {H : Hp} : ∀ ns : List Int, DpAll K H (ns.map V.int) (ns.map PyData.int)
  | [] => .nil
  | n :: r => .cons (.int n) (dp_ints r)
end Own
namespace Own
open PySem PySem.Spec PyProof.Rows L2 RT HT

def isNum : Key → Prop
  | .inl _ => True
  | .inr _ => False
theorem addK_all {R : Key → Prop} {acc : List Key} {k : Key} (h : ∀ x ∈ acc, R x) (hk : R k) : ∀ x ∈ addK acc k, R x := by
  unfold addK
  split
  · exact h
  · intro x hx
    rcases List.mem_append.mp hx with hx | hx
    · exact h x hx
    · rw [List.mem_singleton.mp hx]; exact hk
mutual
theorem into_all {W : Str → Nat → Prop} {U R : Key → Prop} (ur : ∀ k, U k → R k) : ∀ (t : Ter) (acc : List Key), t.wf W U → (∀ x ∈ acc, R x) → ∀ x ∈ Ter.into acc t, R x
  | .var k, acc, h, a => addK_all a (ur k h)
  | .ap f as, acc, h, a => intos_all ur as acc h.2 a
theorem intos_all {W : Str → Nat → Prop} {U R : Key → Prop} (ur : ∀ k, U k → R k) : ∀ (ts : List Ter) (acc : List Key), Ter.wfs W U ts → (∀ x ∈ acc, R x) → ∀ x ∈ Ter.intos acc ts, R x
  | [], _, _, a => a
  | t :: r, acc, h, a => intos_all ur r _ h.2 (into_all ur t acc h.1 a)
end
/-- a key as data -/
def kD : Key → PyData
  | .inl i => .int i
  | .inr x => .str x
def keyFine : Key → Prop
  | .inl _ => True
  | .inr x => PyData.strOk x = true
theorem dp_keys {K : PySem.W.Frag} {H : Hp} : ∀ ks : List Key, DpAll K H (ks.map kV) (ks.map kD)
  | [] => .nil
  | .inl i :: r => .cons (.int i) (dp_keys r)
  | .inr x :: r => .cons (.str x) (dp_keys r)
theorem lay_keys : ∀ ks : List Key, (∀ k ∈ ks, keyFine k) → PyData.canLayAll0 (ks.map kD) = true ∧ PyData.depthAll (ks.map kD) = 0
  | [], _ => ⟨rfl, rfl⟩
  | .inl i :: r, h => by
    obtain ⟨h1, h2⟩ := lay_keys r fun k hk => h k (List.mem_cons_of_mem _ hk)
    exact ⟨by show (true && PyData.canLayAll0 (r.map kD)) = true; rw [h1]; rfl, by show max 0 (PyData.depthAll (r.map kD)) = 0; rw [h2]; rfl⟩
  | .inr x :: r, h => by
    obtain ⟨h1, h2⟩ := lay_keys r fun k hk => h k (List.mem_cons_of_mem _ hk)
    have hx : PyData.strOk x = true := h (.inr x) List.mem_cons_self
    exact ⟨by show (PyData.strOk x && PyData.canLayAll0 (r.map kD)) = true; rw [h1, hx]; rfl, by show max 0 (PyData.depthAll (r.map kD)) = 0; rw [h2]; rfl⟩
theorem shaped_keys {ks : List Key} (h : ∀ k ∈ ks, keyFine k) : SeqAt.shaped (.list (ks.map kD)) = true := by
  obtain ⟨h1, h2⟩ := lay_keys ks h
  show (PyData.canLayAll0 (ks.map kD) && decide (PyData.depthAll (ks.map kD) + 1 ≤ 64)) = true
  rw [h1, h2]
  rfl
theorem eqv_nil (ks : List Key) : PyData.eqv (.list (ks.map kD)) (.list []) = decide (ks = []) := by
  cases ks with
  | nil => rfl
  | cons a r => exact (decide_eq_false (by simp)).symm
theorem num_fine (k : Key) (h : numVar k) : keyFine k := by
  obtain ⟨r, rfl, _⟩ := h
  exact trivial
end Own
namespace Own
open PySem PySem.Spec PyProof.Rows L2 RT HT

theorem kV_inj {a b : Key} (h : kV a = kV b) : a = b := by
  cases a <;> cases b <;> simp [kV] at h <;> simp [h]
theorem flat_keys (ks : List Key) : (ks.map kV).all flatV = true := by
  rw [List.all_map, List.all_eq_true]
  intro k _
  cases k <;> rfl
theorem eqV_key (a b : Key) : eqV (kV a) (kV b) = decide (a = b) := by
  cases a with
  | inl i =>
    cases b with
    | inl j =>
      rw [key_ll]
      rfl
    | inr y => rw [key_lr]; rfl
  | inr x =>
    cases b with
    | inl j => rw [key_rl]; rfl
    | inr y =>
      rw [key_rr]
      show (x == y) = decide (x = y)
      rfl
theorem inV_key (k : Key) (ks : List Key) : inV (kV k) (ks.map kV) = hasK ks k := by
  unfold inV hasK
  rw [List.any_map]
  congr 1
  funext x
  exact eqV_key x k
theorem flat_key (k : Key) : flatV (kV k) = true := by cases k <;> rfl
/-- keys put in one by one -/
def addKs (acc : List Key) (ks : List Key) : List Key := ks.foldl addK acc
theorem hasK_addK (acc : List Key) (k x : Key) : hasK (addK acc k) x = (hasK acc x || decide (k = x)) := by
  unfold addK
  by_cases h : hasK acc k = true
  · rw [if_pos h]
    by_cases e : k = x
    · subst e
      rw [h, Bool.true_or]
    · rw [decide_eq_false e, Bool.or_false]
  · rw [if_neg h]
    unfold hasK
    rw [List.any_append]
    simp
theorem hasK_addKs : ∀ (ks acc : List Key) (x : Key), hasK (addKs acc ks) x = (hasK acc x || hasK ks x)
  | [], acc, x => by show hasK acc x = (hasK acc x || false); rw [Bool.or_false]
  | k :: r, acc, x => by
    show hasK (addKs (addK acc k) r) x = _
    rw [hasK_addKs r, hasK_addK, Bool.or_assoc]
    rfl
theorem addKs_addK (acc b : List Key) (k : Key) : addKs acc (addK b k) = addK (addKs acc b) k := by
  by_cases h : hasK b k = true
  · have e : addK b k = b := by unfold addK; rw [if_pos h]
    have h2 : hasK (addKs acc b) k = true := by rw [hasK_addKs, h, Bool.or_true]
    rw [e]
    unfold addK
    rw [if_pos h2]
  · have e : addK b k = b ++ [k] := by unfold addK; rw [if_neg h]
    rw [e]
    unfold addKs
    rw [List.foldl_append]
    rfl
mutual
theorem addKs_into (acc : List Key) : ∀ (t : Ter) (b : List Key), addKs acc (Ter.into b t) = Ter.into (addKs acc b) t
  | .var k, b => addKs_addK acc b k
  | .ap _ as, b => addKs_intos acc as b
theorem addKs_intos (acc : List Key) : ∀ (ts : List Ter) (b : List Key), addKs acc (Ter.intos b ts) = Ter.intos (addKs acc b) ts
  | [], _ => rfl
  | t :: r, b => by
    show addKs acc (Ter.intos (Ter.into b t) r) = _
    rw [addKs_intos acc r, addKs_into acc t]
    rfl
end
theorem into_met (acc : List Key) (t : Ter) : addKs acc t.vars = Ter.into acc t := addKs_into acc t []
theorem intos_snoc (acc : List Key) (as : List Ter) (t : Ter) : Ter.intos acc (as ++ [t]) = Ter.into (Ter.intos acc as) t := by
  rw [intos_app]
  rfl
mutual
theorem into_len : ∀ (t : Ter) (acc : List Key), (Ter.into acc t).length ≤ acc.length + t.size
  | .var k, acc => addK_len acc k
  | .ap _ as, acc => Nat.le_trans (intos_len as acc) (by show _ ≤ acc.length + (Ter.sizes as + 1); omega)
theorem intos_len : ∀ (ts : List Ter) (acc : List Key), (Ter.intos acc ts).length ≤ acc.length + Ter.sizes ts
  | [], acc => by show acc.length ≤ acc.length + 0; omega
  | t :: r, acc => by
    have h1 := into_len t acc
    have h2 := intos_len r (Ter.into acc t)
    show (Ter.intos (Ter.into acc t) r).length ≤ acc.length + (t.size + Ter.sizes r)
    omega
end
theorem fits_keys {ks : List Key} (n : Nat) (h : ks.length ≤ 1000000) : fitsD (n + 2) (.list (ks.map kD)) := by
  refine ⟨by rw [List.length_map]; exact h, fun d hd => ?_⟩
  obtain ⟨k, _, rfl⟩ := List.mem_map.mp hd
  cases k <;> exact trivial
/-- xs.pop(i) etc. read the list at its place; t[0] of an application -/
theorem head_at {f : V} {xs : List V} : atI (f :: xs) 0 = some f := atI_nat (j := 0) rfl
end Own
namespace Own
open PySem PySem.Spec PyProof.Rows L2 RT HT

/-! ### texts -/
theorem strE {a b : Str} (h : a.cps.toList = b.cps.toList) : a = b := by
  cases a with
  | mk x =>
    cases b with
    | mk y => exact congrArg Str.mk (Array.toList_inj.mp h)
theorem sApp (a b c : Str) : (a ++ b) ++ c = a ++ (b ++ c) := strE (by simp only [app_cps, List.append_assoc])
theorem sEmp (a : Str) : Str.empty ++ a = a := strE (by rw [app_cps]; rfl)
theorem eqS {a b : Str} {A B : Prop} (h : (a == b) = true) (k : A) : if decide (V.str a = V.str b) = true then A else B := by
  rw [dec_str, h]
  exact iteT k
theorem neS {a b : Str} {A B : Prop} (h : (a == b) = false) (k : B) : if decide (V.str a = V.str b) = true then A else B := by
  rw [dec_str, h]
  exact iteF k

/-! ### terms as data -/
mutual
def Ter.dat : Ter → PyData
  | .var k => kD k
  | .ap f as => .tuple (.str f :: Ter.dats as)
def Ter.dats : List Ter → List PyData
  | [] => []
  | a :: r => a.dat :: Ter.dats r
end
mutual
theorem dp_ter {K : PySem.W.Frag} {H : Hp} : ∀ (t : Ter) (v : V), TmAt H v t → Dp K H v t.dat
  | .var k, _, h => by
    cases h with
    | int i => exact .int i
    | str x => exact .str x
  | .ap f as, _, h => by
    cases h with
    | ap e hs => exact .tup (.inl (.inl e)) (.cons (.str f) (dp_ters as _ hs))
theorem dp_ters {K : PySem.W.Frag} {H : Hp} : ∀ (ts : List Ter) (vs : List V), TmAll H vs ts → DpAll K H vs (Ter.dats ts)
  | [], _, h => by cases h; exact .nil
  | t :: r, _, h => by
    cases h with
    | cons a b => exact .cons (dp_ter t _ a) (dp_ters r _ b)
end
def symFine (f : Str) (_ : Nat) : Prop := PyData.strOk f = true
mutual
theorem lay_ter : ∀ t : Ter, t.wf symFine keyFine → PyData.canLay0 t.dat = true ∧ PyData.depth t.dat ≤ t.nest
  | .var (.inl _), _ => ⟨rfl, Nat.zero_le _⟩
  | .var (.inr x), h => ⟨h, Nat.zero_le _⟩
  | .ap f as, h => by
    obtain ⟨h1, h2⟩ := lay_ters as h.2
    refine ⟨?_, ?_⟩
    · show (PyData.strOk f && PyData.canLayAll0 (Ter.dats as)) = true
      rw [show PyData.strOk f = true from h.1, h1]
      rfl
    · show max 0 (PyData.depthAll (Ter.dats as)) + 1 ≤ Ter.nests as + 1
      omega
theorem lay_ters : ∀ ts : List Ter, Ter.wfs symFine keyFine ts → PyData.canLayAll0 (Ter.dats ts) = true ∧ PyData.depthAll (Ter.dats ts) ≤ Ter.nests ts
  | [], _ => ⟨rfl, Nat.le_refl _⟩
  | t :: r, h => by
    obtain ⟨h1, h2⟩ := lay_ter t h.1
    obtain ⟨h3, h4⟩ := lay_ters r h.2
    refine ⟨?_, ?_⟩
    · show (PyData.canLay0 t.dat && PyData.canLayAll0 (Ter.dats r)) = true
      rw [h1, h3]
      rfl
    · show max t.dat.depth (PyData.depthAll (Ter.dats r)) ≤ max t.nest (Ter.nests r)
      omega
end
theorem shaped_ter {t : Ter} (h : t.wf symFine keyFine) (n : t.nest ≤ 64) : SeqAt.shaped t.dat = true := by
  obtain ⟨h1, h2⟩ := lay_ter t h
  unfold SeqAt.shaped
  rw [h1, decide_eq_true (Nat.le_trans h2 n)]
  rfl
mutual
theorem wf_mono {W W' : Str → Nat → Prop} {U U' : Key → Prop} (w : ∀ f n, W f n → W' f n) (u : ∀ k, U k → U' k) : ∀ t : Ter, t.wf W U → t.wf W' U'
  | .var k, h => u k h
  | .ap f as, h => ⟨w f _ h.1, wfs_mono w u as h.2⟩
theorem wfs_mono {W W' : Str → Nat → Prop} {U U' : Key → Prop} (w : ∀ f n, W f n → W' f n) (u : ∀ k, U k → U' k) : ∀ ts : List Ter, Ter.wfs W U ts → Ter.wfs W' U' ts
  | [], _ => trivial
  | t :: r, h => ⟨wf_mono w u t h.1, wfs_mono w u r h.2⟩
end
theorem wordok_str {x : Str} (h : WordOk x) : PyData.strOk x = true := by
  have a := h.all
  unfold PyData.strOk
  rw [← Array.all_toList, List.all_eq_true]
  intro c hc
  have q := List.all_eq_true.mp a c hc
  unfold chOk at q
  simp only [Bool.or_eq_true, Bool.and_eq_true, decide_eq_true_eq] at q
  exact decide_eq_true (by omega)
def trueT : Ter := .ap "true" []
def isTrueT (t : Ter) : Bool := PyData.eqv t.dat trueT.dat

/-! ### the written form of terms -/
/-- what may be written: short words, small numbers -/
def shSym (f : Str) (_ : Nat) : Prop := f.length ≤ 40 ∧ PyData.strOk f = true
def shKey : Key → Prop
  | .inl r => 0 ≤ r ∧ r < 900
  | .inr x => x.length ≤ 40 ∧ PyData.strOk x = true
theorem sh_fine : ∀ t : Ter, t.wf shSym shKey → t.wf symFine keyFine := wf_mono (fun _ _ h => h.2) (fun k h => by
  cases k with
  | inl r => trivial
  | inr x => exact h.2)
mutual
def showT : Ter → Str
  | .var (.inl i) => ("X" : Str) ++ (toString i : String)
  | .var (.inr x) => x
  | .ap f [] => f
  | .ap f (a :: r) => f ++ (("(" : Str) ++ (Txt.join "," (showTs (a :: r)) ++ (")" : Str)))
def showTs : List Ter → List Str
  | [] => []
  | a :: r => showT a :: showTs r
end
theorem showTs_len : ∀ ts : List Ter, (showTs ts).length = ts.length
  | [] => rfl
  | _ :: r => congrArg (· + 1) (showTs_len r)
theorem showTs_app : ∀ as bs : List Ter, showTs (as ++ bs) = showTs as ++ showTs bs
  | [], _ => rfl
  | a :: r, bs => congrArg (showT a :: ·) (showTs_app r bs)
theorem num_len (r : Int) (h0 : 0 ≤ r) (h1 : r < 900) : ((toString r : String) : Str).length ≤ 4 := by
  have a : ∀ r : Fin 900, (((toString ((r.val : Nat) : Int)) : String) : Str).length ≤ 4 := by decide +kernel
  have e : r = ((r.toNat : Nat) : Int) := by omega
  rw [e]
  exact a ⟨r.toNat, by omega⟩
end Own
namespace Own
open PySem PySem.Spec PyProof.Rows L2 RT HT

def tlen (ys : List Str) : Nat := (ys.map (·.length)).sum
theorem tlen_cons (y : Str) (ys : List Str) : tlen (y :: ys) = y.length + tlen ys := by
  unfold tlen
  rw [List.map_cons, List.sum_cons]
theorem join_len (sep : Str) : ∀ ys : List Str, (Txt.join sep ys).length ≤ tlen ys + ys.length * sep.length
  | [] => by rw [TL.join_eq]; exact Nat.zero_le _
  | [x] => by
    rw [TL.join_eq, tlen_cons]
    show x.length ≤ _
    omega
  | x :: y :: r => by
    have ih := join_len sep (y :: r)
    rw [TL.join_eq] at ih ⊢
    show (x ++ sep ++ Str.join sep (y :: r)).length ≤ _
    rw [app_len, app_len, tlen_cons, List.length_cons, Nat.succ_mul]
    omega
theorem len1 : ("X" : Str).length = 1 ∧ ("(" : Str).length = 1 ∧ (")" : Str).length = 1 ∧ ("," : Str).length = 1 := by decide +kernel
mutual
theorem showT_len : ∀ t : Ter, t.wf shSym shKey → (showT t).length + 1 ≤ 60 * t.size
  | .var (.inl i), h => by
    have q := num_len i h.1 h.2
    show (("X" : Str) ++ (toString i : String)).length + 1 ≤ 60
    rw [app_len, len1.1]
    omega
  | .var (.inr x), h => by
    have q : x.length ≤ 40 := h.1
    show x.length + 1 ≤ 60
    omega
  | .ap f [], h => by
    have q : f.length ≤ 40 := h.1.1
    show f.length + 1 ≤ 60
    omega
  | .ap f (a :: r), h => by
    have q : f.length ≤ 40 := h.1.1
    have q2 := showTs_len2 (a :: r) h.2
    have q3 := join_len "," (showTs (a :: r))
    rw [showTs_len, len1.2.2.2] at q3
    show (f ++ (("(" : Str) ++ (Txt.join "," (showTs (a :: r)) ++ (")" : Str)))).length + 1 ≤ 60 * (Ter.sizes (a :: r) + 1)
    rw [app_len, app_len, app_len, len1.2.1, len1.2.2.1]
    omega
theorem showTs_len2 : ∀ ts : List Ter, Ter.wfs shSym shKey ts → tlen (showTs ts) + ts.length ≤ 60 * Ter.sizes ts
  | [], _ => Nat.le_refl _
  | t :: r, h => by
    have q1 := showT_len t h.1
    have q2 := showTs_len2 r h.2
    show tlen (showT t :: showTs r) + (r.length + 1) ≤ 60 * (t.size + Ter.sizes r)
    rw [tlen_cons]
    omega
end
/-! ### literals -/
def showL (b : Bool) (l r : Ter) : Str :=
  if isTrueT r = true then (if b = true then showT l else ("~" : Str) ++ showT l) else showT l ++ ((if b = true then (" = " : Str) else (" != " : Str)) ++ showT r)
def Lit := Bool × Ter × Ter
def Lit.ok (x : Lit) : Prop := x.2.1.wf shSym shKey ∧ x.2.2.wf shSym shKey ∧ x.2.1.nest ≤ 60 ∧ x.2.2.nest ≤ 60 ∧ x.2.1.size ≤ 1000 ∧ x.2.2.size ≤ 1000
inductive LitAt (H : Hp) : V → Lit → Prop
  | mk {p : Addr} {b : Bool} {x y : V} {l r : Ter} : H p = some (.tup [.bl b, x, y]) → TmAt H x l → TmAt H y r → LitAt H (.ref p) (b, l, r)
theorem LitAt.mono {H H' : Hp} (m : Tups H H') {v : V} {x : Lit} (h : LitAt H v x) : LitAt H' v x := by
  cases h with
  | mk e a b => exact .mk (m _ _ e) (TmAt.mono m _ _ a) (TmAt.mono m _ _ b)
inductive LitAll (H : Hp) : List V → List Lit → Prop
  | nil : LitAll H [] []
  | cons {v : V} {vs : List V} {x : Lit} {xs : List Lit} : LitAt H v x → LitAll H vs xs → LitAll H (v :: vs) (x :: xs)
theorem LitAll.mono {H H' : Hp} (m : Tups H H') : ∀ {vs : List V} {xs : List Lit}, LitAll H vs xs → LitAll H' vs xs
  | _, _, .nil => .nil
  | _, _, .cons a r => .cons (a.mono m) (r.mono m)
theorem LitAll.app {H : Hp} : ∀ {vs ws : List V} {xs ys : List Lit}, LitAll H vs xs → LitAll H ws ys → LitAll H (vs ++ ws) (xs ++ ys)
  | _, _, _, _, .nil, h => h
  | _, _, _, _, .cons a r, h => .cons a (r.app h)
theorem LitAll.len {H : Hp} : ∀ {vs : List V} {xs : List Lit}, LitAll H vs xs → vs.length = xs.length
  | _, _, .nil => rfl
  | _, _, .cons _ t => congrArg (· + 1) t.len
theorem LitAll.get {H : Hp} : ∀ {vs : List V} {xs : List Lit} {i : Nat} {v : V}, LitAll H vs xs → vs[i]? = some v → ∃ x, xs[i]? = some x ∧ LitAt H v x
  | _, _, _, _, .nil, e => by simp at e
  | _, _, 0, _, .cons a r, e => by
    simp at e
    subst e
    exact ⟨_, rfl, a⟩
  | _, _, i + 1, v, .cons a r, e => by
    obtain ⟨t, h1, h2⟩ := LitAll.get (i := i) (v := v) r (by simpa using e)
    exact ⟨t, by simpa using h1, h2⟩
def showC (c : List Lit) : List Str := c.map fun x => showL x.1 x.2.1 x.2.2
theorem showL_len {b : Bool} {l r : Ter} (h1 : l.wf shSym shKey) (h2 : r.wf shSym shKey) (s1 : l.size ≤ 1000) (s2 : r.size ≤ 1000) : (showL b l r).length ≤ 200000 := by
  have q1 := showT_len l h1
  have q2 := showT_len r h2
  have z1 : ("~" : Str).length = 1 := by decide +kernel
  have z2 : (" = " : Str).length = 3 := by decide +kernel
  have z3 : (" != " : Str).length = 4 := by decide +kernel
  unfold showL
  split
  · split
    · omega
    · rw [app_len, z1]; omega
  · rw [app_len, app_len]
    split
    · rw [z2]; omega
    · rw [z3]; omega
/-! ### formulas -/
inductive Op | and | or | imp | iff
def Op.word : Op → Str
  | .and => "and"
  | .or => "or"
  | .imp => "implies"
  | .iff => "iff"
def Op.sign : Op → Str
  | .and => "&"
  | .or => "|"
  | .imp => "->"
  | .iff => "<->"
def qWord (a : Bool) : Str := if a = true then "all" else "some"
inductive Fm where
  | tt (b : Bool)
  | eq (l r : Ter)
  | neg (f : Fm)
  | bin (o : Op) (f g : Fm)
  | qu (a : Bool) (x : Str) (f : Fm)
def Fm.ter : Fm → Ter
  | .tt b => .ap (if b = true then "true" else "false") []
  | .eq l r => .ap "equal" [l, r]
  | .neg f => .ap "not" [f.ter]
  | .bin o f g => .ap o.word [f.ter, g.ter]
  | .qu a x f => .ap (qWord a) [.var (.inr x), f.ter]
def Fm.high : Fm → Nat
  | .tt _ => 1
  | .eq _ _ => 1
  | .neg f => f.high + 1
  | .bin _ f g => max f.high g.high + 1
  | .qu _ _ f => f.high + 1
def Fm.all (R : Ter → Prop) (S : Str → Prop) : Fm → Prop
  | .tt _ => True
  | .eq l r => R l ∧ R r
  | .neg f => f.all R S
  | .bin _ f g => f.all R S ∧ g.all R S
  | .qu _ x f => S x ∧ f.all R S
def showF : Fm → Str
  | .tt b => if b = true then "true" else "false"
  | .eq l r => showL true l r
  | .neg (.eq l r) => showL false l r
  | .neg f => ("~" : Str) ++ showF f
  | .bin o f g => ("(" : Str) ++ (showF f ++ ((" " : Str) ++ (o.sign ++ ((" " : Str) ++ (showF g ++ (")" : Str))))))
  | .qu a x f => ("(" : Str) ++ (qWord a ++ ((" " : Str) ++ (x ++ ((": " : Str) ++ (showF f ++ (")" : Str))))))
end Own
namespace Own
open PySem PySem.Spec PyProof.Rows L2 RT HT

def fmTer (t : Ter) : Prop := t.wf shSym shKey ∧ t.nest ≤ 60 ∧ t.size ≤ 200
def fmStr (x : Str) : Prop := x.length ≤ 40
theorem showL_len2 {b : Bool} {l r : Ter} (h1 : l.wf shSym shKey) (h2 : r.wf shSym shKey) (s1 : l.size ≤ 200) (s2 : r.size ≤ 200) : (showL b l r).length ≤ 25000 := by
  have q1 := showT_len l h1
  have q2 := showT_len r h2
  have z1 : ("~" : Str).length = 1 := by decide +kernel
  have z2 : (" = " : Str).length = 3 := by decide +kernel
  have z3 : (" != " : Str).length = 4 := by decide +kernel
  unfold showL
  split
  · split
    · omega
    · rw [app_len, z1]; omega
  · rw [app_len, app_len]
    split
    · rw [z2]; omega
    · rw [z3]; omega
theorem lens : ("(" : Str).length = 1 ∧ (")" : Str).length = 1 ∧ (" " : Str).length = 1 ∧ (": " : Str).length = 2 ∧ ("~" : Str).length = 1 := by decide +kernel
theorem sign_len (o : Op) : o.sign.length ≤ 3 := by cases o <;> decide +kernel
theorem q_len (a : Bool) : (qWord a).length ≤ 4 := by cases a <;> decide +kernel
theorem two_max (a b : Nat) : 2 ^ a ≤ 2 ^ max a b ∧ 2 ^ b ≤ 2 ^ max a b := ⟨Nat.pow_le_pow_right (by decide) (Nat.le_max_left _ _), Nat.pow_le_pow_right (by decide) (Nat.le_max_right _ _)⟩
theorem showF_len : ∀ f : Fm, f.all fmTer fmStr → (showF f).length + 60 ≤ 25100 * 2 ^ f.high
  | .tt b, _ => by
    show (if b = true then ("true" : Str) else "false").length + 60 ≤ 25100 * 2 ^ 1
    have z1 : ("true" : Str).length = 4 := by decide +kernel
    have z2 : ("false" : Str).length = 5 := by decide +kernel
    split <;> omega
  | .eq l r, h => by
    have q := showL_len2 (b := true) h.1.1 h.2.1 h.1.2.2 h.2.2.2
    show (showL true l r).length + 60 ≤ 25100 * 2 ^ 1
    omega
  | .neg (.eq l r), h => by
    have q := showL_len2 (b := false) h.1.1 h.2.1 h.1.2.2 h.2.2.2
    show (showL false l r).length + 60 ≤ 25100 * 2 ^ 2
    omega
  | .neg (.tt b), h => neg_len (.tt b) (showF_len (.tt b) h)
  | .neg (.neg f), h => neg_len (.neg f) (showF_len (.neg f) h)
  | .neg (.bin o f g), h => neg_len (.bin o f g) (showF_len (.bin o f g) h)
  | .neg (.qu a x f), h => neg_len (.qu a x f) (showF_len (.qu a x f) h)
  | .bin o f g, h => by
    have q1 := showF_len f h.1
    have q2 := showF_len g h.2
    obtain ⟨z1, z2, z3, z4, z5⟩ := lens
    have z6 := sign_len o
    obtain ⟨m1, m2⟩ := two_max f.high g.high
    show (("(" : Str) ++ (showF f ++ ((" " : Str) ++ (o.sign ++ ((" " : Str) ++ (showF g ++ (")" : Str))))))).length + 60 ≤ 25100 * 2 ^ (max f.high g.high + 1)
    rw [app_len, app_len, app_len, app_len, app_len, app_len, Nat.pow_succ]
    omega
  | .qu a x f, h => by
    have q1 := showF_len f h.2
    have q2 : x.length ≤ 40 := h.1
    obtain ⟨z1, z2, z3, z4, z5⟩ := lens
    have z6 := q_len a
    have p : 1 ≤ 2 ^ f.high := Nat.one_le_two_pow
    show (("(" : Str) ++ (qWord a ++ ((" " : Str) ++ (x ++ ((": " : Str) ++ (showF f ++ (")" : Str))))))).length + 60 ≤ 25100 * 2 ^ (f.high + 1)
    rw [app_len, app_len, app_len, app_len, app_len, app_len, Nat.pow_succ]
    omega
where
  neg_len (f : Fm) (h : (showF f).length + 60 ≤ 25100 * 2 ^ f.high) : (("~" : Str) ++ showF f).length + 60 ≤ 25100 * 2 ^ (f.high + 1) := by
    obtain ⟨z1, z2, z3, z4, z5⟩ := lens
    have p : 1 ≤ 2 ^ f.high := Nat.one_le_two_pow
    rw [app_len, Nat.pow_succ]
    omega
def Fm.isEq : Fm → Bool
  | .eq _ _ => true
  | _ => false
theorem showF_neg {f : Fm} (h : f.isEq = false) : showF (.neg f) = ("~" : Str) ++ showF f := by
  cases f with
  | eq l r => cases h
  | _ => rfl
theorem zB {n : Nat} (h : n ≤ 16000000) : n ≤ sizeLine := Nat.le_trans h (by decide)
def Fm.head : Fm → Str
  | .tt b => if b = true then "true" else "false"
  | .eq _ _ => "equal"
  | .neg _ => "not"
  | .bin o _ _ => o.word
  | .qu a _ _ => qWord a
def Fm.tail : Fm → List Ter
  | .tt _ => []
  | .eq l r => [l, r]
  | .neg f => [f.ter]
  | .bin _ f g => [f.ter, g.ter]
  | .qu _ x f => [.var (.inr x), f.ter]
theorem fm_ter (f : Fm) : f.ter = .ap f.head f.tail := by cases f <;> rfl
theorem fm_at {H : Hp} {v : V} {f : Fm} (h : TmAt H v f.ter) : ∃ a xs, v = .ref a ∧ H a = some (.tup (.str f.head :: xs)) ∧ TmAll H xs f.tail := by
  rw [fm_ter] at h
  cases h with
  | ap e hs => exact ⟨_, _, rfl, e, hs⟩
theorem headN {f : Fm} {s : Str} {b : Bool} (w : Str) (h : f.head = w) (d : (w == s) = b) : (f.head == s) = b := by
  rw [h]
  exact d
theorem head_eq (f : Fm) : (f.head == ("equal" : Str)) = f.isEq := by
  cases f with
  | tt b => cases b <;> decide +kernel
  | eq l r => exact headN (b := true) "equal" rfl (by decide +kernel)
  | neg f => exact headN (b := false) "not" rfl (by decide +kernel)
  | bin o f g => exact headN (b := false) o.word rfl (by cases o <;> decide +kernel)
  | qu a x f => exact headN (b := false) (qWord a) rfl (by cases a <;> decide +kernel)
theorem all_two {H : Hp} {xs : List V} {a b : Ter} (h : TmAll H xs [a, b]) : ∃ x y, xs = [x, y] ∧ TmAt H x a ∧ TmAt H y b := by
  cases h with
  | cons h1 h2 =>
    cases h2 with
    | cons h3 h4 =>
      cases h4
      exact ⟨_, _, rfl, h1, h3⟩
theorem all_one {H : Hp} {xs : List V} {a : Ter} (h : TmAll H xs [a]) : ∃ x, xs = [x] ∧ TmAt H x a := by
  cases h with
  | cons h1 h2 =>
    cases h2
    exact ⟨_, rfl, h1⟩
theorem all_nil {H : Hp} {xs : List V} (h : TmAll H xs []) : xs = [] := by cases h; rfl
theorem at_1 {x y : V} {zs : List V} : atI (x :: y :: zs) 1 = some y := atI_nat (j := 1) rfl
theorem at_2 {x y z : V} {zs : List V} : atI (x :: y :: z :: zs) 2 = some z := atI_nat (j := 2) rfl
end Own
namespace Own
open PySem PySem.Spec PyProof.Rows L2 RT HT

abbrev NAMES5 : List Str := ["X", "Y", "Zeta", "X1", "W_0"]
def nameVar (k : Key) : Prop := ∃ x, k = .inr x ∧ x ∈ NAMES5
theorem name_sh (k : Key) (h : nameVar k) : shKey k := by
  obtain ⟨x, rfl, hx⟩ := h
  have a : ∀ x ∈ NAMES5, x.length ≤ 40 ∧ PyData.strOk x = true := by decide +kernel
  exact a x hx
theorem num_sh (k : Key) (h : numVar k) : shKey k := by
  obtain ⟨r, rfl, h0, h1⟩ := h
  exact ⟨h0, h1⟩
theorem sym_sh {ws : List Str} (hw : Words ws) (f : Str) (n : Nat) (h : symOf ws f n) : shSym f n := by
  obtain ⟨i, _, e, _⟩ := h
  have o := hw.ok f (List.mem_of_getElem? e)
  exact ⟨o.len, wordok_str o⟩
theorem word_sh {ws : List Str} (hw : Words ws) {f : Str} {n : Nat} (h : f ∈ ws) : shSym f n := ⟨(hw.ok f h).len, wordok_str (hw.ok f h)⟩
theorem true_sh : trueT.wf shSym shKey := ⟨⟨by decide +kernel, by decide +kernel⟩, trivial⟩
/-- the law's own joining of a literal -/
theorem joinC (c : List Lit) : showC c = c.map fun x => showL x.1 x.2.1 x.2.2 := rfl
theorem showC_snoc (c : List Lit) (x : Lit) : showC (c ++ [x]) = showC c ++ [showL x.1 x.2.1 x.2.2] := by
  unfold showC
  rw [List.map_append]
  rfl
end Own
namespace Own
open PySem PySem.Spec PyProof.Rows L2 HT
/-! ### terms with the places where they stand, and what a match binds -/
inductive DTer where
  | var (k : Key)
  | ap (p : Addr) (f : Str) (as : List DTer)
def DTer.val : DTer → V
  | .var k => kV k
  | .ap p _ _ => .ref p
mutual
def DTer.ter : DTer → Ter
  | .var k => .var k
  | .ap _ f as => .ap f (DTer.ters as)
def DTer.ters : List DTer → List Ter
  | [] => []
  | a :: r => a.ter :: DTer.ters r
end
mutual
def DAt (H : Hp) : DTer → Prop
  | .var _ => True
  | .ap p f as => H p = some (.tup (.str f :: as.map DTer.val)) ∧ DAts H as
def DAts (H : Hp) : List DTer → Prop
  | [] => True
  | a :: r => DAt H a ∧ DAts H r
end
mutual
theorem DAt.mono {H H' : Hp} (m : Tups H H') : ∀ d : DTer, DAt H d → DAt H' d
  | .var _, _ => trivial
  | .ap p f as, h => ⟨m _ _ h.1, DAts.mono m as h.2⟩
theorem DAts.mono {H H' : Hp} (m : Tups H H') : ∀ ds : List DTer, DAts H ds → DAts H' ds
  | [], _ => trivial
  | a :: r, h => ⟨DAt.mono m a h.1, DAts.mono m r h.2⟩
end
mutual
theorem DAt.tm {H : Hp} : ∀ d : DTer, DAt H d → TmAt H d.val d.ter
  | .var (.inl i), _ => .int i
  | .var (.inr x), _ => .str x
  | .ap p f as, h => .ap h.1 (DAts.tm as h.2)
theorem DAts.tm {H : Hp} : ∀ ds : List DTer, DAts H ds → TmAll H (ds.map DTer.val) (DTer.ters ds)
  | [], _ => .nil
  | a :: r, h => .cons (DAt.tm a h.1) (DAts.tm r h.2)
end
mutual
theorem TmAt.deco {H : Hp} : ∀ (t : Ter) (v : V), TmAt H v t → ∃ d : DTer, d.val = v ∧ d.ter = t ∧ DAt H d
  | .var k, v, h => by
    cases h with
    | int i => exact ⟨.var (.inl i), rfl, rfl, trivial⟩
    | str x => exact ⟨.var (.inr x), rfl, rfl, trivial⟩
  | .ap f as, v, h => by
    cases h with
    | @ap p _ xs _ e hs =>
      obtain ⟨ds, e1, e2, h2⟩ := TmAll.deco as xs hs
      subst e1
      subst e2
      exact ⟨.ap p f ds, rfl, rfl, e, h2⟩
theorem TmAll.deco {H : Hp} : ∀ (ts : List Ter) (vs : List V), TmAll H vs ts → ∃ ds : List DTer, ds.map DTer.val = vs ∧ DTer.ters ds = ts ∧ DAts H ds
  | [], vs, h => by
    cases h
    exact ⟨[], rfl, rfl, trivial⟩
  | t :: ts, vs, h => by
    cases h with
    | cons a r =>
      obtain ⟨d, e1, e2, h1⟩ := TmAt.deco t _ a
      obtain ⟨ds, e3, e4, h2⟩ := TmAll.deco ts _ r
      subst e1
      subst e2
      subst e3
      subst e4
      exact ⟨d :: ds, rfl, rfl, h1, h2⟩
end
theorem ters_len : ∀ ds : List DTer, (DTer.ters ds).length = ds.length
  | [] => rfl
  | _ :: r => congrArg (· + 1) (ters_len r)
theorem ters_get : ∀ (ds : List DTer) (i : Nat), (DTer.ters ds)[i]? = (ds[i]?).map DTer.ter
  | [], i => by simp [DTer.ters]
  | a :: r, 0 => by simp [DTer.ters]
  | a :: r, i + 1 => by simp [DTer.ters, ters_get r i]
theorem DAts.get {H : Hp} : ∀ {ds : List DTer} {i : Nat} {d : DTer}, DAts H ds → ds[i]? = some d → DAt H d
  | [], _, _, _, e => by simp at e
  | a :: r, 0, d, h, e => by simp at e; exact e ▸ h.1
  | a :: r, i + 1, d, h, e => DAts.get (ds := r) (i := i) h.2 (by simpa using e)
abbrev Bd := List (Key × DTer)
def bKvs (B : Bd) : List (Key × V) := B.map fun e => (e.1, e.2.val)
def look (B : Bd) (k : Key) : Option DTer := (B.find? fun e => decide (e.1 = k)).map (·.2)
theorem look_val : ∀ (B : Bd) (k : Key), valV (bKvs B) k = (look B k).map DTer.val
  | [], k => rfl
  | e :: r, k => by
    by_cases h : e.1 = k
    · rw [show bKvs (e :: r) = (e.1, e.2.val) :: bKvs r from rfl, valV_pos (p := (e.1, e.2.val)) h]
      unfold look
      rw [List.find?_cons, decide_eq_true h]
      rfl
    · rw [show bKvs (e :: r) = (e.1, e.2.val) :: bKvs r from rfl, valV_neg (p := (e.1, e.2.val)) h, look_val r k]
      unfold look
      rw [List.find?_cons, decide_eq_false h]
theorem look_mem {B : Bd} {k : Key} {u : DTer} (h : look B k = some u) : (k, u) ∈ B := by
  unfold look at h
  cases e : B.find? fun e => decide (e.1 = k) with
  | none => rw [e] at h; cases h
  | some p =>
    rw [e] at h
    have h1 := List.find?_some e
    have h2 := List.mem_of_find?_eq_some e
    have h3 : p.1 = k := of_decide_eq_true h1
    have h4 : p.2 = u := Option.some.inj h
    rw [← h3, ← h4]
    exact h2
mutual
def mtch : Ter → DTer → Bd → Bool × Bd
  | .var k, u, B => match look B k with
    | some s => (PyData.eqv s.ter.dat u.ter.dat, B)
    | none => (true, B ++ [(k, u)])
  | .ap g as, u, B => match u with
    | .var _ => (false, B)
    | .ap _ h bs => if g = h ∧ as.length = bs.length then mtchs as bs B else (false, B)
def mtchs : List Ter → List DTer → Bd → Bool × Bd
  | [], _, B => (true, B)
  | a :: as, us, B => match us with
    | [] => (true, B)
    | b :: bs => if (mtch a b B).1 = true then mtchs as bs (mtch a b B).2 else (false, (mtch a b B).2)
end
theorem val_of_mem : ∀ {kvs : List (Key × V)} {e : Key × V}, (kvs.map (·.1)).Nodup → e ∈ kvs → valV kvs e.1 = some e.2
  | [], _, _, h => by cases h
  | p :: r, e, hn, h => by
    have hn : p.1 ∉ r.map (·.1) ∧ (r.map (·.1)).Nodup := List.nodup_cons.mp hn
    rcases List.mem_cons.mp h with rfl | h
    · exact valV_pos rfl
    · have n : ¬ p.1 = e.1 := fun z => hn.1 (z ▸ List.mem_map_of_mem h)
      rw [valV_neg n]
      exact val_of_mem hn.2 h
/-- small symbols of at most two arguments -/
def s7 (f : Str) (n : Nat) : Prop := shSym f n ∧ n ≤ 2
theorem s7_sh : ∀ t : Ter, t.wf s7 numVar → t.wf shSym shKey := wf_mono (fun _ _ h => h.1) (fun k h => by
  obtain ⟨r, rfl, h1, h2⟩ := h
  exact ⟨h1, h2⟩)
structure Gd (H : Hp) (u : DTer) (N : Nat) : Prop where
  at_ : DAt H u
  wf : u.ter.wf s7 numVar
  ne : u.ter.nest ≤ N
theorem Gd.mono {H H' : Hp} {u : DTer} {N : Nat} (g : Gd H u N) (m : Tups H H') : Gd H' u N := ⟨DAt.mono m _ g.at_, g.wf, g.ne⟩
structure BOk (H : Hp) (B : Bd) (N : Nat) : Prop where
  nd : (B.map (·.1)).Nodup
  al : ∀ e ∈ B, (∃ i, e.1 = .inl i ∧ 0 ≤ i) ∧ Gd H e.2 N
theorem BOk.mono {H H' : Hp} {B : Bd} {N : Nat} (g : BOk H B N) (m : Tups H H') : BOk H' B N := ⟨g.nd, fun e h => ⟨(g.al e h).1, (g.al e h).2.mono m⟩⟩
theorem look_none {B : Bd} {k : Key} (h : look B k = none) : k ∉ B.map (·.1) := by
  intro z
  obtain ⟨e, he, h2⟩ := List.mem_map.mp z
  unfold look at h
  cases q : B.find? fun e => decide (e.1 = k) with
  | none =>
    have := List.find?_eq_none.mp q e he
    exact this (decide_eq_true h2)
  | some p => rw [q] at h; cases h
theorem BOk.snoc {H : Hp} {B : Bd} {N : Nat} (g : BOk H B N) {i : Int} (hi : 0 ≤ i) {u : DTer} (hu : Gd H u N) (h : look B (.inl i) = none) : BOk H (B ++ [(.inl i, u)]) N := by
  refine ⟨?_, fun e he => ?_⟩
  · rw [List.map_append]
    exact nd_snoc g.nd (look_none h)
  · rcases List.mem_append.mp he with he | he
    · exact g.al e he
    · rcases List.mem_cons.mp he with rfl | he
      · exact ⟨⟨i, rfl, hi⟩, hu⟩
      · cases he
mutual
theorem mtch_ok {H : Hp} {N : Nat} : ∀ (p : Ter) (u : DTer) (B : Bd), p.wf s7 numVar → Gd H u N → BOk H B N → BOk H (mtch p u B).2 N ∧ (mtch p u B).2.length ≤ B.length + p.size
  | .var k, u, B, hp, hu, hB => by
    obtain ⟨r, rfl, h1, h2⟩ := hp
    unfold mtch
    cases e : look B (.inl r) with
    | some s => exact ⟨hB, Nat.le_add_right _ _⟩
    | none => exact ⟨hB.snoc h1 hu e, by rw [List.length_append]; exact Nat.le_refl _⟩
  | .ap g as, u, B, hp, hu, hB => by
    unfold mtch
    cases u with
    | var k => exact ⟨hB, Nat.le_add_right _ _⟩
    | ap q h bs =>
      show BOk H (if g = h ∧ as.length = bs.length then mtchs as bs B else (false, B)).2 N ∧ (if g = h ∧ as.length = bs.length then mtchs as bs B else (false, B)).2.length ≤ _
      by_cases c : g = h ∧ as.length = bs.length
      · rw [if_pos c]
        have hn : Ter.nests (DTer.ters bs) + 1 ≤ N := hu.ne
        obtain ⟨a, b⟩ := mtchs_ok as bs B hp.2 hu.at_.2 hu.wf.2 (by omega) hB
        exact ⟨a, Nat.le_trans b (Nat.add_le_add_left (Nat.le_succ _) _)⟩
      · rw [if_neg c]
        exact ⟨hB, Nat.le_add_right _ _⟩
theorem mtchs_ok {H : Hp} {N : Nat} : ∀ (ps : List Ter) (us : List DTer) (B : Bd), Ter.wfs s7 numVar ps → DAts H us → Ter.wfs s7 numVar (DTer.ters us) → Ter.nests (DTer.ters us) ≤ N → BOk H B N → BOk H (mtchs ps us B).2 N ∧ (mtchs ps us B).2.length ≤ B.length + Ter.sizes ps
  | [], _, B, _, _, _, _, hB => ⟨hB, Nat.le_add_right _ _⟩
  | a :: as, [], B, _, _, _, _, hB => ⟨hB, Nat.le_add_right _ _⟩
  | a :: as, b :: bs, B, hp, hu, hw, hn, hB => by
    have hn : max b.ter.nest (Ter.nests (DTer.ters bs)) ≤ N := hn
    have z : Ter.sizes (a :: as) = a.size + Ter.sizes as := rfl
    obtain ⟨x, y⟩ := mtch_ok a b B hp.1 ⟨hu.1, hw.1, by omega⟩ hB
    show BOk H (if (mtch a b B).1 = true then mtchs as bs (mtch a b B).2 else (false, (mtch a b B).2)).2 N ∧ (if (mtch a b B).1 = true then mtchs as bs (mtch a b B).2 else (false, (mtch a b B).2)).2.length ≤ _
    by_cases c : (mtch a b B).1 = true
    · rw [if_pos c]
      obtain ⟨x2, y2⟩ := mtchs_ok as bs _ hp.2 hu.2 hw.2 (by omega) x
      exact ⟨x2, by omega⟩
    · rw [if_neg c]
      exact ⟨x, by show (mtch a b B).2.length ≤ _; omega⟩
end
mutual
theorem ter_refl : ∀ t : Ter, PyData.eqv t.dat t.dat = true
  | .var (.inl i) => by show PyData.eqv (.int i) (.int i) = true; simp [PyData.eqv]
  | .var (.inr x) => by show PyData.eqv (.str x) (.str x) = true; simp [PyData.eqv]
  | .ap f as => by
    show PyData.eqv (.tuple (.str f :: Ter.dats as)) (.tuple (.str f :: Ter.dats as)) = true
    rw [PyData.eqv, PyData.eqvAll, ters_refl as]
    simp [PyData.eqv]
theorem ters_refl : ∀ ts : List Ter, PyData.eqvAll (Ter.dats ts) (Ter.dats ts) = true
  | [] => rfl
  | t :: r => by
    show PyData.eqvAll (t.dat :: Ter.dats r) (t.dat :: Ter.dats r) = true
    rw [PyData.eqvAll, ter_refl t, ters_refl r]
    rfl
end
theorem Gd.fine {H : Hp} {u : DTer} (g : Gd H u 40) : SeqAt.shaped u.ter.dat = true := shaped_ter (sh_fine _ (s7_sh _ g.wf)) (by have := g.ne; omega)
theorem But.tupsK {d : Addr} {H H' : Hp} {kvs : List (Key × V)} (a : But d H H') (h : H d = some (.dK kvs)) : Tups H H' := fun b xs e => a b _ (ne_of e h (by intro z; cases z)) e
end Own
namespace Own
open PySem PySem.Spec PyProof.Rows L2 HT
/-! ### < of data; sorted over a dict with tuple keys -/
section
variable {X : Cx}
def rLtD (K : PySem.W.Frag) : R2 := fun x y H Q => ∃ d e, Dp K H x d ∧ Dp K H y e ∧ PySem.W.alike d e = true ∧ d ≠ .none ∧ d.depth ≤ 64 ∧ Q (.bl (PySem.W.dataLt d e)) H
theorem op_ltD (hu : X.A.units + 64 < cLine) : OpR X (compareOp .Lt) (rLtD X.K) := by
  intro pins s σ H x y v u Q I rx ry h
  obtain ⟨d, e, hd, he, ha, hn, h64, q⟩ := h
  obtain ⟨as, r1⟩ := Dp.reads I d x v hd rx
  obtain ⟨bs, r2⟩ := Dp.reads I e y u he ry
  exact PySem.W.lt_data r1 r2 ha hn (by omega) ⟨.bl _, H, I, rfl, q⟩
/-- a key tuple as data -/
def keyD (k : List Key) : PyData := .tuple (k.map kD)
def keysLe : Addr × List Key → Addr × List Key → Bool := PySem.W.dataLe false fun z => keyD z.2
def rSortedDT (K : PySem.W.Frag) : List V → Hp → VK → Prop := fun vs H Q => ∃ (a : Addr) (kvs : List (List Key × V)), vs = [V.ref a] ∧ H a = some (.dT kvs) ∧ kvs.length ≤ 100000 ∧
  PySem.W.AllAlike (kvs.map fun p => keyD p.1) ∧ (∀ p ∈ kvs, ∃ x r, p.1 = x :: r) ∧ (∀ p ∈ kvs, (keyD p.1).depth ≤ 60) ∧
  ∀ (ps : List (Addr × List Key)) (p : Addr), ps.map (·.2) = kvs.map (·.1) → (∀ z ∈ ps, H z.1 = some (.tup (z.2.map kV))) → H p = none → Q (.ref p) (upd H p (.lst ((ps.mergeSort keysLe).map fun z => V.ref z.1)))
theorem dp_key {K : PySem.W.Frag} {H : Hp} : ∀ k : List Key, DpAll K H (k.map kV) (k.map kD)
  | [] => .nil
  | .inl i :: r => .cons (.int i) (dp_key r)
  | .inr x :: r => .cons (.str x) (dp_key r)
theorem cr_sortedDT (hc : X.calm = true) (hu : X.A.units + 64 < cLine) : CallR X (.builtin "sorted") (rSortedDT X.K) := by
  intro pins s σ H xs us Q I r h
  obtain ⟨a, kvs, rfl, hd, hlen, hal, hne, hdep, q⟩ := h
  obtain ⟨u, rfl, rx⟩ := r.one
  cases rx
  obtain ⟨z, hs, ks, pr, o, es, ep, ho, hx, hdt, he, hn⟩ := (show ObjOk X.prog X.w H s.heap a (.dT kvs) from I.hok _ _ hd)
  have l1 : es.size = ks.length := size_of_entries he
  have l2 : kvs.length = ks.length := Paired.length pr
  refine Calls.call_function_entry PyProof.Rows.kind_sorted PyProof.Rows.plain_sorted PyProof.Rows.entry_sorted (PyProof.Rows.args_sorted1 _) ?_
  unfold Builtin.«sorted»
  refine wpAny_bind (m := checkCount "sorted" 1 1 _) (wpAny_pure ?_)
  refine wpAny_bind (PySem.W.kdu_collect (A := X.A.in1) (kdl_raw hs hx hdt) (I.ok.hd hc) ho (by rw [l1, ← l2]; exact Nat.le_trans hlen (by decide)) fun h' tk acc' kp it => ?_)
  have ea : acc'.toList = (ks.map fun x => x.2.1).map Value.ref := by
    rw [List.map_map]
    have hl : acc'.toList.length = ks.length := by rw [Array.length_toList, it.1]; exact l1
    apply List.ext_getElem?
    intro j
    rw [List.getElem?_map]
    cases hj : acc'.toList[j]? with
    | none =>
      have h1 := List.getElem?_eq_none_iff.mp hj
      rw [List.getElem?_eq_none (by omega)]
      all_goals rfl
    | some v =>
      obtain ⟨en, hen, hv⟩ := it.2 j v (by rw [← Array.getElem?_toList]; exact hj)
      have qe := entry_at he j
      rw [hen] at qe
      cases hb : ks[j]? with
      | none =>
        rw [hb] at qe
        exact nomatch (show some en = none from qe)
      | some b =>
        rw [hb] at qe
        have e2 : en = entryOfKey (tupleKind (mixKind X.prog X.w)) b := Option.some.inj qe
        rw [hv, e2]
        all_goals rfl
  -- the keys with their places
  generalize hps : (ks.map fun x => (x.2.1, x.1)) = ps
  have e1 : ps.map (·.2) = kvs.map (·.1) := by
    rw [← hps, List.map_map]
    clear hps q ea it he hdt l1 l2 hal hne hdep hlen hd z hn
    induction pr with
    | nil => rfl
    | cons h t ih => rw [List.map_cons, List.map_cons, ih]; exact congrArg (· :: _) h.1.symm
  have e2 : ∀ z ∈ ps, H z.1 = some (.tup (z.2.map kV)) := by
    rw [← hps]
    clear hps q ea it he hdt l1 l2 hal hne hdep hlen hd e1 z hn
    induction pr with
    | nil => intro z hz; cases hz
    | cons h t ih =>
      intro z hz
      rcases List.mem_cons.mp hz with rfl | hz
      · show H _ = some (.tup (_))
        rw [h.2.1, h.1]
      · exact ih z hz
  have e3 : (ks.map fun x => x.2.1) = ps.map (·.1) := by rw [← hps, List.map_map]; rfl
  have lps : ps.length = kvs.length := by rw [← hps, List.length_map, l2]
  have hvs : acc'.toList = ps.map fun z => Value.ref z.1 := by rw [ea, e3, List.map_map]; rfl
  have hsz : acc'.toList.length ≤ sizeLine := by rw [hvs, List.length_map, lps]; exact Nat.le_trans hlen (by decide)
  have er : ∀ (h'' : Heap), (∀ b ob, s.heap.get? b = some ob → h''.get? b = some ob) → PySem.W.EachIs (fun v b => ∃ as, Reads h'' v (keyD b.2) as) acc'.toList ps := fun h'' k => by
    rw [hvs]
    have : ∀ qs : List (Addr × List Key), (∀ z ∈ qs, H z.1 = some (.tup (z.2.map kV))) → PySem.W.EachIs (fun v b => ∃ as, Reads h'' v (keyD b.2) as) (qs.map fun z => Value.ref z.1) qs := fun qs => by
      induction qs with
      | nil => exact fun _ => .nil
      | cons z r ih =>
        intro hq
        obtain ⟨as, rd⟩ := Dp.reads I (keyD z.2) (.ref z.1) (.ref z.1) (.tup (.inl (.inl (hq z List.mem_cons_self))) (dp_key _)) rfl
        exact .cons ⟨as, PyProof.Rows.Reads.keeps k rd⟩ (ih fun y hy => hq y (List.mem_cons_of_mem _ hy))
    exact this ps e2
  have I1 : Inv X pins σ H { s with heap := h', toks := tk } := I.kept kp
  refine wpAny_bind (wpAny_newList ?_ hsz)
  have hoL : (h'.push (seqObj "list" acc'.toList.toArray 0)).get? h'.objs.size = some (seqObj "list" acc'.toList.toArray 0) := Heap.get?_push_size _ rfl
  show wpAny _ _ _ _ _ { s with heap := h'.push (seqObj "list" acc'.toList.toArray 0), toks := tk }
  have hk2 : ∀ b ob, s.heap.get? b = some ob → (PySem.W.sortingHeap (h'.push (seqObj "list" acc'.toList.toArray 0)) h'.objs.size acc'.toList).get? b = some ob := fun b ob e => by
    have e4 := kp b ob e
    exact PySem.W.sortingHeap_old (Nat.ne_of_lt (Heap.lt_size e4)) (Heap.get?_push_of_some _ e4)
  have er2 := er _ hk2
  have hmm : ∀ z ∈ ps, ∃ p ∈ kvs, p.1 = z.2 := fun z hz => by
    have : z.2 ∈ kvs.map (·.1) := by rw [← e1]; exact List.mem_map_of_mem hz
    obtain ⟨p, hp, e⟩ := List.mem_map.mp this
    exact ⟨p, hp, e⟩
  have hal2 : PySem.W.AllAlike (ps.map fun z => keyD z.2) := fun d hd d' hd' => by
    obtain ⟨z, hz, rfl⟩ := List.mem_map.mp hd
    obtain ⟨z', hz', rfl⟩ := List.mem_map.mp hd'
    obtain ⟨p, hp, e⟩ := hmm z hz
    obtain ⟨p', hp', e'⟩ := hmm z' hz'
    rw [← e, ← e']
    exact hal _ (List.mem_map_of_mem (f := fun p : List Key × V => keyD p.1) hp) _ (List.mem_map_of_mem (f := fun p : List Key × V => keyD p.1) hp')
  have hso : PySem.W.Sortable (ps.map fun z => keyD z.2) := .inl fun d hd => by
    obtain ⟨z, hz, rfl⟩ := List.mem_map.mp hd
    obtain ⟨p, hp, e⟩ := hmm z hz
    obtain ⟨x, r, e5⟩ := hne p hp
    refine ⟨kD x, r.map kD, ?_⟩
    show PyData.tuple (z.2.map kD) = _
    rw [← e, e5]
    rfl
  have S := PySem.W.SortsAt.data (prog := X.prog) (w := X.w) (A := X.A.in1.in1) (s := { s with heap := PySem.W.sortingHeap (h'.push (seqObj "list" acc'.toList.toArray 0)) h'.objs.size acc'.toList, toks := tk }) (PySem.W.each_map (R := fun v d => ∃ as, Reads (PySem.W.sortingHeap (h'.push (seqObj "list" acc'.toList.toArray 0)) h'.objs.size acc'.toList) v d as) (fun z : Addr × List Key => keyD z.2) er2) hal2 hso (fun d hd => by
    obtain ⟨z, hz, rfl⟩ := List.mem_map.mp hd
    obtain ⟨p, hp, e⟩ := hmm z hz
    have := hdep p hp
    rw [e] at this
    show X.A.units + 2 + _ < cLine
    omega)
  have out := PySem.W.sortVals_data (R := fun v (z : Addr × List Key) => v = Value.ref z.1) false (show PySem.W.EachIs (fun v (z : Addr × List Key) => v = Value.ref z.1) acc'.toList ps from by
    rw [hvs]
    clear hps e1 e2 e3 lps hvs er er2 hmm hal2 hso S
    induction ps with
    | nil => exact .nil
    | cons z r ih => exact .cons rfl ih) er2 hal2
  refine wpAny_bind (wpAny_holding (wpAny_call_entry PyProof.Rows.slot_list_sort ⟨_, hoL, rfl⟩ PyProof.Rows.entry_list_sort
    (PySem.W.list_sort_vals (s := { s with heap := h'.push (seqObj "list" acc'.toList.toArray 0), toks := tk }) hoL S hsz ⟨_, rfl, ?_⟩)
    (PyProof.Rows.args_list_sort _)))
  generalize (PySem.W.sortVals (PySem.W.dataKind (PySem.W.sortingHeap (h'.push (seqObj "list" acc'.toList.toArray 0)) h'.objs.size acc'.toList) (ps.map fun z => keyD z.2)) false acc'.toList acc'.toList) = ov at out
  obtain ⟨e', he'⟩ := PyProof.Rows.sortedHeap_at (vs := acc'.toList) (out := ov.toArray) hoL
  have hov : ov = (ps.mergeSort keysLe).map fun z => Value.ref z.1 := by
    have : ∀ (vs : List Value) (qs : List (Addr × List Key)), PySem.W.EachIs (fun v (z : Addr × List Key) => v = Value.ref z.1) vs qs → vs = qs.map fun z => Value.ref z.1 := fun vs qs h => by
      induction h with
      | nil => rfl
      | cons a _ ih => rw [List.map_cons, ← ih, a]
    exact this _ _ out
  have lov : ((ps.mergeSort keysLe).map fun z => V.ref z.1).length ≤ sizeLine := by
    rw [List.length_map, List.length_mergeSort, lps]
    exact Nat.le_trans hlen (by decide)
  have rv : Vals ((ps.mergeSort keysLe).map fun z => V.ref z.1) ov := by
    rw [hov]
    have := vals_refs ((ps.mergeSort keysLe).map (·.1))
    rw [List.map_map, List.map_map] at this
    exact this
  refine wpAny_pure ⟨_, rfl, .ref h'.objs.size, upd H h'.objs.size (.lst ((ps.mergeSort keysLe).map fun z => V.ref z.1)), I1.laid (t' := tk) (fun b u e => ?_) (Nat.le_refl _)
    (show ObjOk X.prog X.w _ _ _ (.lst ((ps.mergeSort keysLe).map fun z => V.ref z.1)) from ⟨lov, ov, e', rv, he'⟩), rfl, q ps _ e1 e2 (I1.hok.fresh (Nat.le_refl _))⟩
  have hb : b < h'.objs.size := Heap.lt_size e
  rw [PyProof.Rows.sortedHeap_old (Nat.ne_of_lt hb) (by rw [size_push']; exact Nat.lt_succ_of_lt hb)]
  exact Heap.get?_push_of_some _ e
end
end Own
namespace Own
open PySem PySem.Spec PyProof.Rows L2 HT
/-! ### pairs of a symbol and its number of arguments -/
abbrev Pr := Str × Nat
def prD (p : Pr) : PyData := .tuple [.str p.1, .int p.2]
def prV (p : Pr) : List V := [.str p.1, .int (p.2 : Int)]
def prK (p : Pr) : List Key := [.inr p.1, .inl (p.2 : Int)]
theorem prK_inj {p q : Pr} (h : prK p = prK q) : p = q := by
  obtain ⟨a, b⟩ := p
  obtain ⟨c, d⟩ := q
  unfold prK at h
  simp only [List.cons.injEq, Sum.inr.injEq, Sum.inl.injEq, and_true] at h
  obtain ⟨h1, h2⟩ := h
  exact Prod.ext h1 (by show b = d; omega)
theorem keyD_pr (p : Pr) : keyD (prK p) = prD p := rfl
theorem prK_V (p : Pr) : (prK p).map kV = prV p := rfl
inductive PrAt (H : Hp) : V → Pr → Prop
  | mk {a : Addr} {p : Pr} : H a = some (.tup (prV p)) → PrAt H (.ref a) p
inductive PrAll (H : Hp) : List V → List Pr → Prop
  | nil : PrAll H [] []
  | cons {v : V} {p : Pr} {vs : List V} {ps : List Pr} : PrAt H v p → PrAll H vs ps → PrAll H (v :: vs) (p :: ps)
theorem PrAt.mono {H H' : Hp} (m : Tups H H') {v : V} {p : Pr} (h : PrAt H v p) : PrAt H' v p := by
  cases h with
  | mk e => exact .mk (m _ _ e)
theorem PrAll.mono {H H' : Hp} (m : Tups H H') : ∀ {vs : List V} {ps : List Pr}, PrAll H vs ps → PrAll H' vs ps
  | _, _, .nil => .nil
  | _, _, .cons a r => .cons (a.mono m) (r.mono m)
theorem PrAll.len {H : Hp} : ∀ {vs : List V} {ps : List Pr}, PrAll H vs ps → vs.length = ps.length
  | _, _, .nil => rfl
  | _, _, .cons _ r => congrArg (· + 1) r.len
theorem PrAll.app {H : Hp} : ∀ {vs ws : List V} {ps qs : List Pr}, PrAll H vs ps → PrAll H ws qs → PrAll H (vs ++ ws) (ps ++ qs)
  | _, _, _, _, .nil, b => b
  | _, _, _, _, .cons a r, b => .cons a (r.app b)
theorem PrAll.get {H : Hp} : ∀ {vs : List V} {ps : List Pr} {i : Nat} {v : V}, PrAll H vs ps → vs[i]? = some v → ∃ p, ps[i]? = some p ∧ PrAt H v p
  | _, _, _, _, .nil, h => by cases h
  | _, _, 0, _, .cons a r, h => by
    cases (show some _ = some _ from h)
    exact ⟨_, rfl, a⟩
  | _, _, i + 1, _, .cons a r, h => r.get (i := i) h
theorem PrAll.erase {H : Hp} : ∀ {vs : List V} {ps : List Pr} (i : Nat), PrAll H vs ps → PrAll H (vs.eraseIdx i) (ps.eraseIdx i)
  | _, _, _, .nil => .nil
  | _, _, 0, .cons a r => r
  | _, _, i + 1, .cons a r => .cons a (r.erase i)
theorem dp_pr {K : PySem.W.Frag} {H : Hp} {v : V} {p : Pr} (h : PrAt H v p) : Dp K H v (prD p) := by
  cases h with
  | mk e => exact .tup (.inl (.inl e)) (.cons (.str _) (.cons (.int _) .nil))
theorem dp_prs {K : PySem.W.Frag} {H : Hp} : ∀ {vs : List V} {ps : List Pr}, PrAll H vs ps → DpAll K H vs (ps.map prD)
  | _, _, .nil => .nil
  | _, _, .cons a r => .cons (dp_pr a) (dp_prs r)
/-! ### the order -/
def prLt (p q : Pr) : Bool := PySem.W.dataLt (prD p) (prD q)
theorem eqv_pr (p q : Pr) : PyData.eqv (prD p) (prD q) = decide (p = q) := by
  obtain ⟨a, b⟩ := p
  obtain ⟨c, d⟩ := q
  have e : PyData.eqv (prD (a, b)) (prD (c, d)) = ((a == c) && (((b : Int) == (d : Int)) && true)) := rfl
  rw [e, Bool.and_true]
  by_cases h1 : a = c
  · by_cases h2 : b = d
    · subst h1 h2
      simp
    · have h3 : ¬ ((b : Int) = (d : Int)) := fun z => h2 (by omega)
      rw [beq_eq_false_iff_ne.mpr h3, Bool.and_false]
      exact (decide_eq_false fun z => h2 (congrArg Prod.snd z)).symm
  · rw [beq_eq_false_iff_ne.mpr h1, Bool.false_and]
    exact (decide_eq_false fun z => h1 (congrArg Prod.fst z)).symm
theorem prLt_irr (p : Pr) : prLt p p = false := PySem.W.dataLt_self _
theorem prLt_tr {p q r : Pr} (h1 : prLt p q = true) (h2 : prLt q r = true) : prLt p r = true := PyProof.Rows.lex_trans _ _ _ h1 h2
theorem prLt_asym {p q : Pr} (h1 : prLt p q = true) : prLt q p = false := by
  cases h : prLt q p with
  | false => rfl
  | true => exact absurd ((prLt_irr p).symm.trans (prLt_tr h1 h)) (by decide)
theorem prLt_tot {p q : Pr} (h : p ≠ q) (h1 : prLt p q = false) : prLt q p = true := by
  obtain ⟨a, b⟩ := p
  obtain ⟨c, d⟩ := q
  have e1 : prLt (a, b) (c, d) = if PyData.eqv (.str a) (.str c) = true then (if PyData.eqv (.int (b : Int)) (.int (d : Int)) = true then false else PySem.W.dataLt (.int (b : Int)) (.int (d : Int))) else PySem.W.dataLt (.str a) (.str c) := PySem.W.dataLt_pair rfl rfl
  have e2 : prLt (c, d) (a, b) = if PyData.eqv (.str c) (.str a) = true then (if PyData.eqv (.int (d : Int)) (.int (b : Int)) = true then false else PySem.W.dataLt (.int (d : Int)) (.int (b : Int))) else PySem.W.dataLt (.str c) (.str a) := PySem.W.dataLt_pair rfl rfl
  have es : ∀ x y : Str, PyData.eqv (.str x) (.str y) = (x == y) := fun x y => by rw [PyData.eqv]
  have ei : ∀ x y : Int, PyData.eqv (.int x) (.int y) = (x == y) := fun x y => by rw [PyData.eqv]
  rw [e1, es, ei, PySem.W.dataLt_int, PySem.W.dataLt_str] at h1
  rw [e2, es, ei, PySem.W.dataLt_int, PySem.W.dataLt_str]
  by_cases g1 : a = c
  · subst g1
    have g2 : b ≠ d := fun z => h (by rw [z])
    have g3 : ¬ ((b : Int) = (d : Int)) := fun z => g2 (by omega)
    have g4 : ¬ ((d : Int) = (b : Int)) := fun z => g2 (by omega)
    rw [if_pos (beq_self_eq_true a), if_neg (by rw [beq_eq_false_iff_ne.mpr g3]; decide)] at h1
    rw [if_pos (beq_self_eq_true a), if_neg (by rw [beq_eq_false_iff_ne.mpr g4]; decide)]
    have h1 := of_decide_eq_false h1
    exact decide_eq_true (by omega)
  · have g2 : ¬ c = a := fun z => g1 z.symm
    rw [if_neg (by rw [beq_eq_false_iff_ne.mpr g1]; decide)] at h1
    rw [if_neg (by rw [beq_eq_false_iff_ne.mpr g2]; decide)]
    have h1 := of_decide_eq_false h1
    by_cases h2 : c.cps.toList < a.cps.toList
    · exact decide_eq_true h2
    · exact absurd (strE (List.le_antisymm h2 h1)) g1
theorem prLt_neg {p q r : Pr} (h1 : prLt q p = false) (h2 : prLt r q = false) : prLt r p = false := by
  cases h : prLt r p with
  | false => rfl
  | true =>
    rcases PyProof.Rows.lex_negTrans _ (PySem.W.keyToks (prD q)) _ h with a | a
    · exact absurd (h2.symm.trans a) (by decide)
    · exact absurd (h1.symm.trans a) (by decide)
theorem _root_.L2.Room.units65 {k : Nat} {A : Around} (r : Room k A) : A.units + 65 < cLine := by have := r.un; omega
abbrev Asc (ps : List Pr) : Prop := ps.Pairwise fun a b => prLt a b = true
theorem asc_eq : ∀ {as bs : List Pr}, Asc as → Asc bs → (∀ x, x ∈ as ↔ x ∈ bs) → as = bs
  | [], [], _, _, _ => rfl
  | [], b :: r, _, _, h => by have := (h b).mpr List.mem_cons_self; cases this
  | a :: r, [], _, _, h => by have := (h a).mp List.mem_cons_self; cases this
  | a :: r, b :: s, h1, h2, h => by
    have k1 := List.pairwise_cons.mp h1
    have k2 := List.pairwise_cons.mp h2
    have e : a = b := by
      rcases List.mem_cons.mp ((h a).mp List.mem_cons_self) with e | m1
      · exact e
      rcases List.mem_cons.mp ((h b).mpr List.mem_cons_self) with e | m2
      · exact e.symm
      exact absurd ((prLt_asym (k1.1 b m2)).symm.trans (k2.1 a m1)) (by decide)
    subst e
    refine congrArg (a :: ·) (asc_eq k1.2 k2.2 fun x => ⟨fun m => ?_, fun m => ?_⟩)
    · rcases List.mem_cons.mp ((h x).mp (List.mem_cons_of_mem _ m)) with e | m'
      · subst e
        exact absurd ((prLt_irr x).symm.trans (k1.1 x m)) (by decide)
      · exact m'
    · rcases List.mem_cons.mp ((h x).mpr (List.mem_cons_of_mem _ m)) with e | m'
      · subst e
        exact absurd ((prLt_irr x).symm.trans (k2.1 x m)) (by decide)
      · exact m'
/-! ### the symbols of a term, and the term with greater variables -/
mutual
def Ter.syms : Ter → List Pr
  | .var _ => []
  | .ap f as => (f, as.length) :: Ter.symss as
def Ter.symss : List Ter → List Pr
  | [] => []
  | a :: r => a.syms ++ Ter.symss r
end
theorem symss_app : ∀ as bs : List Ter, Ter.symss (as ++ bs) = Ter.symss as ++ Ter.symss bs
  | [], _ => rfl
  | a :: r, bs => by
    show a.syms ++ Ter.symss (r ++ bs) = (a.syms ++ Ter.symss r) ++ Ter.symss bs
    rw [symss_app r bs, List.append_assoc]
mutual
def Ter.shift (n : Int) : Ter → Ter
  | .var (.inl i) => .var (.inl (i + n))
  | .var (.inr x) => .var (.inr x)
  | .ap f as => .ap f (Ter.shifts n as)
def Ter.shifts (n : Int) : List Ter → List Ter
  | [] => []
  | a :: r => a.shift n :: Ter.shifts n r
end
theorem shifts_len (n : Int) : ∀ as : List Ter, (Ter.shifts n as).length = as.length
  | [] => rfl
  | _ :: r => congrArg (· + 1) (shifts_len n r)
theorem shifts_app (n : Int) : ∀ as bs : List Ter, Ter.shifts n (as ++ bs) = Ter.shifts n as ++ Ter.shifts n bs
  | [], _ => rfl
  | a :: r, bs => congrArg (a.shift n :: ·) (shifts_app n r bs)
mutual
theorem shift_same (n : Int) : ∀ t : Ter, (t.shift n).size = t.size ∧ (t.shift n).nest = t.nest ∧ (t.shift n).syms = t.syms
  | .var (.inl i) => ⟨rfl, rfl, rfl⟩
  | .var (.inr x) => ⟨rfl, rfl, rfl⟩
  | .ap f as => by
    obtain ⟨h1, h2, h3⟩ := shifts_same n as
    refine ⟨?_, ?_, ?_⟩
    · show Ter.sizes (Ter.shifts n as) + 1 = Ter.sizes as + 1
      rw [h1]
    · show Ter.nests (Ter.shifts n as) + 1 = Ter.nests as + 1
      rw [h2]
    · show (f, (Ter.shifts n as).length) :: Ter.symss (Ter.shifts n as) = (f, as.length) :: Ter.symss as
      rw [h3, shifts_len]
theorem shifts_same (n : Int) : ∀ ts : List Ter, Ter.sizes (Ter.shifts n ts) = Ter.sizes ts ∧ Ter.nests (Ter.shifts n ts) = Ter.nests ts ∧ Ter.symss (Ter.shifts n ts) = Ter.symss ts
  | [] => ⟨rfl, rfl, rfl⟩
  | t :: r => by
    obtain ⟨h1, h2, h3⟩ := shift_same n t
    obtain ⟨k1, k2, k3⟩ := shifts_same n r
    refine ⟨?_, ?_, ?_⟩
    · show (t.shift n).size + Ter.sizes (Ter.shifts n r) = t.size + Ter.sizes r
      rw [h1, k1]
    · show max (t.shift n).nest (Ter.nests (Ter.shifts n r)) = max t.nest (Ter.nests r)
      rw [h2, k2]
    · show (t.shift n).syms ++ Ter.symss (Ter.shifts n r) = t.syms ++ Ter.symss r
      rw [h3, k3]
end
def anyNum (k : Key) : Prop := ∃ i : Int, k = .inl i
mutual
theorem shift_wf {W : Str → Nat → Prop} (n : Int) : ∀ t : Ter, t.wf W anyNum → (t.shift n).wf W anyNum
  | .var (.inl i), _ => ⟨_, rfl⟩
  | .var (.inr x), h => h
  | .ap f as, h => ⟨by rw [shifts_len]; exact h.1, shifts_wf n as h.2⟩
theorem shifts_wf {W : Str → Nat → Prop} (n : Int) : ∀ ts : List Ter, Ter.wfs W anyNum ts → Ter.wfs W anyNum (Ter.shifts n ts)
  | [], _ => trivial
  | t :: r, h => ⟨shift_wf n t h.1, shifts_wf n r h.2⟩
end
/-! ### terms as data are not too long -/
mutual
theorem fits_ter : ∀ (t : Ter) (n : Nat), t.nest < n → t.size ≤ 1000000 → fitsD n t.dat
  | .var (.inl i), n + 1, _, _ => trivial
  | .var (.inr x), n + 1, _, _ => trivial
  | .ap f as, n + 1, h, hz => by
    have h : Ter.nests as + 1 < n + 1 := h
    have hz : Ter.sizes as + 1 ≤ 1000000 := hz
    have l1 := Ter.sizes_len as
    have e : (Ter.dats as).length = as.length := by
      have : ∀ as : List Ter, (Ter.dats as).length = as.length := fun as => by
        induction as with
        | nil => rfl
        | cons a r ih => exact congrArg (· + 1) ih
      exact this as
    show (PyData.str f :: Ter.dats as).length ≤ 1000000 ∧ ∀ d ∈ PyData.str f :: Ter.dats as, fitsD n d
    refine ⟨by rw [List.length_cons, e]; omega, fun d hd => ?_⟩
    rcases List.mem_cons.mp hd with rfl | hd
    · obtain ⟨m, rfl⟩ : ∃ m, n = m + 1 := ⟨n - 1, by omega⟩
      trivial
    · exact fits_ters as n (by omega) (by omega) d hd
theorem fits_ters : ∀ (ts : List Ter) (n : Nat), Ter.nests ts < n → Ter.sizes ts ≤ 1000000 → ∀ d ∈ Ter.dats ts, fitsD n d
  | [], _, _, _, d, hd => by cases hd
  | t :: r, n, h, hz, d, hd => by
    have h : max t.nest (Ter.nests r) < n := h
    have hz : t.size + Ter.sizes r ≤ 1000000 := hz
    rcases List.mem_cons.mp hd with rfl | hd
    · exact fits_ter t n (by omega) (by omega)
    · exact fits_ters r n (by omega) (by omega) d hd
end
theorem fits_prs {ps : List Pr} (n : Nat) (h : ps.length ≤ 1000000) : fitsD (n + 3) (.list (ps.map prD)) := by
  refine ⟨by rw [List.length_map]; exact h, fun d hd => ?_⟩
  obtain ⟨p, _, rfl⟩ := List.mem_map.mp hd
  refine ⟨by show 2 ≤ 1000000; decide, fun d hd => ?_⟩
  rcases List.mem_cons.mp hd with rfl | hd
  · trivial
  · rcases List.mem_cons.mp hd with rfl | hd
    · trivial
    · cases hd
/-- pairs whose symbols can be laid -/
theorem shaped_pr {p : Pr} (h : PyData.strOk p.1 = true) : SeqAt.shaped (prD p) = true := by
  show ((PyData.strOk p.1 && (true && true)) && decide (max 0 (max 0 0) + 1 ≤ 64)) = true
  rw [h]
  rfl
theorem lay_prs : ∀ ps : List Pr, (∀ p ∈ ps, PyData.strOk p.1 = true) → PyData.canLayAll0 (ps.map prD) = true ∧ PyData.depthAll (ps.map prD) ≤ 1
  | [], _ => ⟨rfl, Nat.zero_le _⟩
  | p :: r, h => by
    obtain ⟨h1, h2⟩ := lay_prs r fun k hk => h k (List.mem_cons_of_mem _ hk)
    have hp := h p List.mem_cons_self
    refine ⟨?_, ?_⟩
    · show ((PyData.strOk p.1 && (true && true)) && PyData.canLayAll0 (r.map prD)) = true
      rw [h1, hp]
      rfl
    · show max (max 0 (max 0 0) + 1) (PyData.depthAll (r.map prD)) ≤ 1
      omega
theorem shaped_prs {ps : List Pr} (h : ∀ p ∈ ps, PyData.strOk p.1 = true) : SeqAt.shaped (.list (ps.map prD)) = true := by
  obtain ⟨h1, h2⟩ := lay_prs ps h
  show (PyData.canLayAll0 (ps.map prD) && decide (PyData.depthAll (ps.map prD) + 1 ≤ 64)) = true
  rw [h1, decide_eq_true (by omega)]
  rfl
theorem any_pr (ps : List Pr) (p : Pr) : ((ps.map prD).any fun z => PyData.eqv z (prD p)) = decide (p ∈ ps) := by
  induction ps with
  | nil => rfl
  | cons q r ih =>
    rw [List.map_cons, List.any_cons, ih, eqv_pr]
    by_cases h : q = p
    · subst h
      rw [decide_eq_true rfl, decide_eq_true List.mem_cons_self]
      rfl
    · rw [decide_eq_false h, Bool.false_or]
      by_cases h2 : p ∈ r
      · rw [decide_eq_true h2, decide_eq_true (List.mem_cons_of_mem _ h2)]
      · rw [decide_eq_false h2]
        refine (decide_eq_false fun z => ?_).symm
        rcases List.mem_cons.mp z with z | z
        · exact h z.symm
        · exact h2 z
mutual
theorem syms_wf {W : Str → Nat → Prop} {U : Key → Prop} : ∀ (t : Ter), t.wf W U → ∀ p ∈ t.syms, W p.1 p.2
  | .var _, _, p, hp => by cases hp
  | .ap f as, h, p, hp => by
    rcases List.mem_cons.mp hp with rfl | hp
    · exact h.1
    · exact symss_wf as h.2 p hp
theorem symss_wf {W : Str → Nat → Prop} {U : Key → Prop} : ∀ (ts : List Ter), Ter.wfs W U ts → ∀ p ∈ Ter.symss ts, W p.1 p.2
  | [], _, p, hp => by cases hp
  | t :: r, h, p, hp => by
    rcases List.mem_append.mp hp with hp | hp
    · exact syms_wf t h.1 p hp
    · exact symss_wf r h.2 p hp
end
/-! ### sets of pairs as dicts -/
def addP (acc : List Pr) (p : Pr) : List Pr := if p ∈ acc then acc else acc ++ [p]
def yesT (p : Pr) : List Key × V := (prK p, .bl true)
theorem put_yesT (acc : List Pr) (k : Pr) : putK (acc.map yesT) (prK k) (.bl true) = (addP acc k).map yesT := by
  unfold putK addP
  have e : ((acc.map yesT).any fun kv => decide (kv.1 = prK k)) = decide (k ∈ acc) := by
    rw [List.any_map]
    induction acc with
    | nil => rfl
    | cons x r ih =>
      rw [List.any_cons, ih]
      show (decide (prK x = prK k) || decide (k ∈ r)) = _
      by_cases h : x = k
      · subst h
        rw [decide_eq_true rfl, decide_eq_true List.mem_cons_self]
        rfl
      · rw [decide_eq_false (fun z => h (prK_inj z)), Bool.false_or]
        by_cases h2 : k ∈ r
        · rw [decide_eq_true h2, decide_eq_true (List.mem_cons_of_mem _ h2)]
        · rw [decide_eq_false h2]
          refine (decide_eq_false fun z => ?_).symm
          rcases List.mem_cons.mp z with z | z
          · exact h z.symm
          · exact h2 z
  rw [e]
  by_cases hk : k ∈ acc
  · rw [if_pos (decide_eq_true hk), if_pos hk, List.map_map]
    apply List.map_congr_left
    intro x _
    show (if prK x = prK k then (prK x, V.bl true) else (prK x, V.bl true)) = (prK x, V.bl true)
    split <;> rfl
  · rw [if_neg (by rw [decide_eq_false hk]; decide), if_neg hk, List.map_append]
    rfl
theorem addP_len (acc : List Pr) (k : Pr) : (addP acc k).length ≤ acc.length + 1 := by
  unfold addP
  split
  · omega
  · rw [List.length_append, List.length_singleton]; omega
theorem mem_addP (acc : List Pr) (k x : Pr) : x ∈ addP acc k ↔ x ∈ acc ∨ x = k := by
  unfold addP
  split
  · rename_i h
    exact ⟨.inl, fun z => z.elim id fun e => e ▸ h⟩
  · rw [List.mem_append, List.mem_singleton]
theorem addP_nd {acc : List Pr} (h : acc.Nodup) (k : Pr) : (addP acc k).Nodup := by
  unfold addP
  split
  · exact h
  · rename_i n
    exact List.nodup_append.mpr ⟨h, List.nodup_cons.mpr ⟨by simp, List.nodup_nil⟩, fun a ha b hb e => n (by rw [← List.mem_singleton.mp hb, ← e]; exact ha)⟩
/-- what sorted gives of such a dict -/
theorem sorted_prs {H : Hp} {acc : List Pr} (nd : acc.Nodup) {ps : List (Addr × List Key)} (e : ps.map (·.2) = acc.map prK) (h : ∀ z ∈ ps, H z.1 = some (.tup (z.2.map kV))) :
    ∃ L, PrAll H ((ps.mergeSort keysLe).map fun z => V.ref z.1) L ∧ Asc L ∧ (∀ x, x ∈ L ↔ x ∈ acc) ∧ L.length = acc.length := by
  have hp := List.mergeSort_perm ps keysLe
  have hs : (ps.mergeSort keysLe).Pairwise fun a b => keysLe a b = true := by
    have lle : ∀ a b : Addr × List Key, keysLe a b = !PySem.W.dataLt (keyD b.2) (keyD a.2) := fun a b => rfl
    refine List.pairwise_mergeSort (fun a b c h1 h2 => ?_) (fun a b => ?_) ps
    · rw [lle] at h1 h2 ⊢
      cases h3 : PySem.W.dataLt (keyD c.2) (keyD a.2) with
      | false => rfl
      | true =>
        rcases PyProof.Rows.lex_negTrans _ (PySem.W.keyToks (keyD b.2)) _ h3 with z | z
        · have z : PySem.W.dataLt (keyD c.2) (keyD b.2) = true := z
          rw [z] at h2
          exact h2
        · have z : PySem.W.dataLt (keyD b.2) (keyD a.2) = true := z
          rw [z] at h1
          exact h1
    · rw [lle, lle]
      cases h3 : PySem.W.dataLt (keyD b.2) (keyD a.2) with
      | false => rfl
      | true =>
        cases h4 : PySem.W.dataLt (keyD a.2) (keyD b.2) with
        | false => rfl
        | true => exact absurd (show false = true from (PySem.W.dataLt_self (keyD b.2)).symm.trans (PyProof.Rows.lex_trans _ _ _ h3 h4)) (by decide)
  have n2 : ((ps.mergeSort keysLe).map (·.2)).Nodup := by
    refine (hp.map (·.2)).nodup_iff.mpr ?_
    rw [e]
    exact List.pairwise_map.mpr (nd.imp fun {a b} h z => h (prK_inj z))
  have m2 : ∀ x : List Key, x ∈ (ps.mergeSort keysLe).map (·.2) ↔ x ∈ acc.map prK := fun x => by
    rw [(hp.map (·.2)).mem_iff, e]
  have h2 : ∀ z ∈ ps.mergeSort keysLe, H z.1 = some (.tup (z.2.map kV)) := fun z hz => h z (hp.mem_iff.mp hz)
  have hl : (ps.mergeSort keysLe).length = acc.length := by
    rw [List.length_mergeSort]
    have := congrArg List.length e
    rw [List.length_map, List.length_map] at this
    exact this
  have hq : ∃ L : List Pr, (ps.mergeSort keysLe).map (·.2) = L.map prK := by
    have : ∀ l : List (List Key), (∀ x ∈ l, x ∈ acc.map prK) → ∃ L : List Pr, l = L.map prK := fun l => by
      induction l with
      | nil => exact fun _ => ⟨[], rfl⟩
      | cons x r ih =>
        intro hx
        obtain ⟨L, rfl⟩ := ih fun y hy => hx y (List.mem_cons_of_mem _ hy)
        obtain ⟨p, _, rfl⟩ := List.mem_map.mp (hx x List.mem_cons_self)
        exact ⟨p :: L, rfl⟩
    exact this _ fun x hx => (m2 x).mp hx
  obtain ⟨L, eL⟩ := hq
  refine ⟨L, ?_, ?_, ?_, ?_⟩
  · generalize ps.mergeSort keysLe = qs at eL h2
    clear hl m2 n2 hs hp
    induction qs generalizing L with
    | nil =>
      cases L with
      | nil => exact .nil
      | cons p r => cases eL
    | cons z r ih =>
      cases L with
      | nil => cases eL
      | cons p s =>
        obtain ⟨e1, e2⟩ := List.cons.inj eL
        have e1 : z.2 = prK p := e1
        refine .cons (.mk ?_) (ih s e2 fun y hy => h2 y (List.mem_cons_of_mem _ hy))
        rw [h2 z List.mem_cons_self, e1]
        rfl
  · have h5 : ((ps.mergeSort keysLe).map (·.2)).Pairwise fun a b => a ≠ b ∧ PySem.W.dataLt (keyD b) (keyD a) = false := by
      refine List.Pairwise.and n2 ?_
      refine List.pairwise_map.mpr (hs.imp fun {a b} h => ?_)
      have h : (!PySem.W.dataLt (keyD b.2) (keyD a.2)) = true := h
      cases h6 : PySem.W.dataLt (keyD b.2) (keyD a.2) with
      | false => rfl
      | true => rw [h6] at h; cases h
    rw [eL] at h5
    exact (List.pairwise_map.mp h5).imp fun {a b} h => prLt_tot (fun z => h.1 (by rw [z])) h.2
  · intro x
    constructor
    · intro hx
      have := (m2 (prK x)).mp (by rw [eL]; exact List.mem_map_of_mem hx)
      obtain ⟨y, hy, e9⟩ := List.mem_map.mp this
      rw [← prK_inj e9]
      exact hy
    · intro hx
      have := (m2 (prK x)).mpr (List.mem_map_of_mem hx)
      rw [eL] at this
      obtain ⟨y, hy, e9⟩ := List.mem_map.mp this
      rw [← prK_inj e9]
      exact hy
  · have := congrArg List.length eL
    rw [List.length_map, List.length_map] at this
    omega
theorem alike_keys (acc : List Pr) : PySem.W.AllAlike ((acc.map yesT).map fun p => keyD p.1) := by
  intro d hd d' hd'
  rw [List.map_map] at hd hd'
  obtain ⟨p, _, rfl⟩ := List.mem_map.mp hd
  obtain ⟨q, _, rfl⟩ := List.mem_map.mp hd'
  rfl
end Own
set_option maxHeartbeats 2000000
namespace Own
open PySem PySem.Spec PyProof.Rows L2 HT
/-! ### super().__init__(..) in an own exception class above ValueError -/
section
variable {prog : Program} {w : World} {A : Around} {E : Value → Shared → Prop} {hp : Heap} {g : Array GenState} {dr : Drawn} {tk : Nat} {os : OsState}
variable {nm qn : Str} {C N : Addr} {bs bm : List Value} {hd : Bool} {sn : List Str} {sub : List Value} {ab : Bool} {col : Option Bool} {dd : Option Addr} {k0 k1 k2 k3 k5 : Option Value}
/-- the bound built-in __init__ is called: the exception's arguments are laid anew, nothing else changes -/
theorem vi_call {u x t0 : Addr} {vs : List Value} {Q : Value → Shared → Prop}
    (hC : hp.get? C = some (excClassObj nm qn C N bs bm hd sn sub ab col dd k0 k1 k2 k3 k5 "ValueError.__new__"))
    (hx : hp.get? x = some (PySem.HandSPX.excO C t0)) (hu : hp.get? u = some (PySem.W.kxs_mw "ValueError.__init__" x)) (hz : vs.length ≤ sizeLine)
    (hq : ∀ h' t1, (∀ b o, b ≠ x → hp.get? b = some o → h'.get? b = some o) → h'.get? x = some (PySem.HandSPX.excO C t1) → Q .none ⟨h', g, dr, tk, os⟩) :
    wpAny (model prog w) A (call (.ref u) vs) Q E ⟨hp, g, dr, tk, os⟩ := by
  have FB := F.excBase_ValueError
  refine wpAny_call (codeAny_of_tree ?_)
  show wpAny _ _ (callAny (.ref u) ⟨vs, []⟩) _ _ ⟨hp, g, dr, tk, os⟩
  simp only [callAny]
  refine wpAny_bind (wpAny_load hu ?_)
  have b1 : (Value.type "method-wrapper" == Value.type "method" || Value.type "method-wrapper" == Value.type "builtin_function_or_method" || Value.type "method-wrapper" == Value.type "method-wrapper") = true := by decide
  simp only [PySem.W.kxs_mw, b1, if_true]
  refine PySem.W.KFB.if_so b1 (wpAny_bind (PySem.W.check_bound_init FB.toExcCallFacts hC hx rfl (wpAny_bind (wpAny_pure (wpAny_pure ?_)))))
  refine ⟨plainId_quiet FB.init.plain _, codeAny_builtin FB.initEntry ?_⟩
  exact PySem.W.exc_init_tree (cls := .ref C) (t0 := t0) (dv := none) (c2 := .none) (c3 := .none) (b4 := .bool false) hx hz fun h' k e _ => hq h' _ k e
end
/-- a statement, a block that must know its own activation (body: that of the whole def) -/
structure PSAt (X : Cx) (body : List Stmt) (st : Stmt) (t : TS) : Prop where
  run : ∀ (pins : List (Addr × Obj)) (s : Shared) (σ : L2.St) (H : Hp) (D : Ends), Inv X pins σ H s → t D σ H → PySem.wpAt (model X.prog X.w) X.A (.func body X.env) (exec st X.env) (SP X pins D) X.xe s
structure PSsAt (X : Cx) (body st : List Stmt) (t : TS) : Prop where
  run : ∀ (pins : List (Addr × Obj)) (s : Shared) (σ : L2.St) (H : Hp) (D : Ends), Inv X pins σ H s → t D σ H → PySem.wpAt (model X.prog X.w) X.A (.func body X.env) (execs st X.env) (SP X pins D) X.xe s
theorem pssAt_cons {X : Cx} {body : List Stmt} {st : Stmt} {rest : List Stmt} {t u : TS} (h1 : PSAt X body st t) (h2 : PSs X rest u) : PSsAt X body (st :: rest) (tSeq t u) := by
  refine ⟨fun pins s σ H D I h => ?_⟩
  refine ks_wpAt_execs_cons (PySem.ks_wpAt_mono (h1.run pins s σ H { D with nx := u D } I h) (fun f s1 q => ?_) fun _ _ z => z)
  cases f with
  | next =>
    obtain ⟨σ1, H1, J, q⟩ := q
    exact PySem.wpAt_of_wpAny (h2.run pins s1 σ1 H1 D J q)
  | ret u => exact q
  | brk => exact q
  | cont => exact q
/-- what the activation must have for super() -/
structure SupX (X : Cx) (C cc : Addr) : Prop where
  ks : X.env.kindOf "super" = some .globalImplicit
  kc : X.env.kindOf "__class__" = some .free
  fn : ∃ f o fd, X.env.func = some f ∧ X.K.lookup f = some o ∧ o.data = .func fd ∧ ∃ ar, (fd.params.posonlyargs ++ fd.params.args).head? = some ar ∧ ar.arg = ("self" : Str)
  code : ∃ cda o vs file tf, X.env.code = .ref cda ∧ X.K.lookup cda = some o ∧ o.data = .fields vs ∧ vs[2]? = some (.str file tf) ∧ ((X.prog.main.file : Str) == file) = true
  top : (X.prog.main.scope.names.lookup ("super" : Str)).isSome = false
  cell : X.env.cells.lookup ("__class__" : Str) = some cc
  cellv : ∃ cl cld csl, X.K.lookup cc = some ⟨cl, cld, .cell (some (.ref C)), csl⟩
  glob : X.mg "super" = none
  self : X.env.kindOf "self" = some .local
  n0 : X.N[0]? = some ("self" : Str)
/-- what the class must have for super().__init__ to be ValueError's -/
structure SupC (K : PySem.W.Frag) (C : Addr) : Prop where
  oex : OexC K C
  up : PySem.W.ks_superIn K C C "__init__" = some (some (.builtin "ValueError.__init__"))
  sub : PySem.W.subIn K (.ref C) (.type "ValueError") = some true
  own : PySem.W.mroIn K C (.ref C) = some true
  opq : PySem.W.nsIn K cStatics "thirdparty.any" = some none
def tSup (C : Addr) (ta : TA) : TS := fun D σ H => ∃ a, σ[0]? = some (some (.ref a)) ∧ H a = some (exo a C none) ∧ ta σ H fun vs H1 => vs.length ≤ 1000 ∧ H1 a = some (exo a C none) ∧ D.nx σ H1
theorem exo_get {X : Cx} {pins : List (Addr × Obj)} {σ : L2.St} {H : Hp} {s : Shared} {a C : Addr} (I : Inv X pins σ H s) (e : H a = some (exo a C none)) : ∃ t0, s.heap.get? a = some (PySem.HandSPX.excO C t0) := exo_at I.hok e
theorem ps_superAt {X : Cx} {body : List Stmt} {C cc : Addr} {p0 p1 p2 pos pos2 : Pos} {e : Expr} {es : List Expr} {ta : TA} (S : SupX X C cc) (T : SupC X.K C) (ha : PA X (e :: es) ta)
    (hev : eval (.Call (.Attribute (.Call (.Name "super" p0) [] [] p1) "__init__" p2) (e :: es) [] pos) X.env = (do
      let ov ← attributeBase (.Call (.Name "super" p0) [] [] p1) "__init__" X.env (eval (.Call (.Name "super" p0) [] [] p1) X.env)
      standAt p2.atName
      let (f, first) ← holding [ov] (getMethod ov "__init__" (pure false))
      callWith pos f first (backTo pos (starEach (e :: es) X.env)) []) := by rfl)
    (hi : interactive X.env = false := by rfl) (hs : swapsWith (.Call (.Attribute (.Call (.Name "super" p0) [] [] p1) "__init__" p2) (e :: es) [] pos) none pos2.line X.env = pure false := by rfl)
    (he : starEach (e :: es) X.env = (false, eval e X.env) :: starEach es X.env := by rfl) (hpl : (backTo pos (starEach es X.env)).any (·.1) = false := by rfl) :
    PSAt X body (.Expr (.Call (.Attribute (.Call (.Name "super" p0) [] [] p1) "__init__" p2) (e :: es) [] pos) pos2) (tSup C ta) := by
  refine ⟨fun pins s σ H D I h => ?_⟩
  obtain ⟨a, h0, hex, h⟩ := h
  obtain ⟨f, o, fd, hfu, hfl, hfd, ar, hhd, har⟩ := S.fn
  obtain ⟨cda, oc, fvs, file, tf, hco, hcl, hcd, hfv, hfile⟩ := S.code
  obtain ⟨cl, cld, csl, hcell⟩ := S.cellv
  obtain ⟨nm, qn, N, bs, bm, sn, sub, ab, col, dd, k0, k1, k2, k3, k5, hC, hbm⟩ := T.oex.cls
  have KX := I.kIn
  have hCg := KX _ _ hC
  obtain ⟨m, hns, hl⟩ := I.loc
  obtain ⟨u0, r0, lk⟩ := hl 0 "self" (.ref a) S.n0 h0 (.inl S.self)
  cases r0
  have hself : m "self" = some (.ref a) := by
    rcases lk with ⟨_, q⟩ | ⟨q, _⟩
    · exact q
    · rw [S.self] at q
      rcases q with q | q <;> cases q
  obtain ⟨t0, hox⟩ := exo_get I hex
  have hcls : PySem.W.clsIn X.K C = some { name := nm, bases := bs, mro := .ref C :: bm, ns := N, qualname := qn, hasDict := true, slotNames := sn, subclasses := sub, abstract := ab, collection := col, hasDel := false } := by unfold PySem.W.clsIn; rw [hC] <;> rfl
  have J : PySem.W.InstAt s.heap a (PySem.HandSPX.excO C t0) C none := ⟨hox, rfl, rfl, trivial⟩
  obtain ⟨mb, hb1, hb2⟩ := I.mod.blt
  refine PySem.ks_wpAt_Expr_any (PySem.ks_wpAt_MethodCall (pl := pure false) ?_ hev) hi hs
  refine PySem.ks_wpAt_super_base (env := X.env) S.ks S.kc rfl hfu (KX _ _ hfl) hfd hhd hco (KX _ _ hcl) hcd hfv hfile S.top ?_
  refine PySem.W.ks_loadName_global I.ok.kind S.ks ?_
  refine Calls.loadGlobal_builtin (by rw [I.ok.glob]; exact I.mod.glob.keeps I.bk) S.glob (by rw [I.ok.blt]; exact hb1.keeps I.bk) ((hb2 "super" (by decide)).trans (show bootBuiltins "super" = some (.type "super") by first | rfl | kernel_rfl)) ?_
  refine ⟨rfl, ?_⟩
  refine wpAny_loadName_free I.ok.kind S.kc S.cell ⟨_, KX _ _ hcell, rfl⟩ ?_
  rw [har]
  refine wpAny_loadName_local I.ok.kind S.self hns hself ?_
  obtain ⟨hh, gg, dr, tk, os⟩ := s
  refine PySem.ks_wpAny_isType_cls hCg rfl ⟨rfl, ?_⟩
  refine PySem.ks_wpAny_call_super hCg rfl hox rfl (fun c z => by cases z) (PySem.W.looks_mroIn KX T.own) (fun h1 ho1 k1 => ?_)
  -- the super object stands at hh.objs.size
  have KX1 : X.K.In h1 := KX.keeps k1
  have J1 : PySem.W.InstAt h1 a (PySem.HandSPX.excO C t0) C none := ⟨k1 _ _ hox, rfl, rfl, trivial⟩
  have I1 : Inv X pins σ H ⟨h1, gg, dr, tk, os⟩ := I.kept (t' := tk) k1
  have up := T.up
  unfold PySem.W.ks_superIn at up
  rw [hcls] at up
  refine PySem.W.kxs_getMethod PySem.W.kxs_ValueError ho1 (PySem.W.looks_opaque KX1 T.opq) (l₀ := .ref C :: bm) (fun A Q E s k q => wpAny_bind ((PySem.W.looks_clsIn KX1 hcls) A _ E s k (wpAny_pure q))) rfl KX1 up
    (J1.type.andThen (PySem.W.looks_subIn KX1 T.sub)) (PySem.W.ks_ne KX1 J1 hcls) rfl ?_
  have k2 : ∀ b ob, h1.get? b = some ob → (h1.push (PySem.W.kxs_mw "ValueError.__init__" a)).get? b = some ob := fun b ob q => Heap.get?_push_of_some _ q
  have I2 : Inv X pins σ H ⟨h1.push (PySem.W.kxs_mw "ValueError.__init__" a), gg, dr, tk + 1, os⟩ := I1.kept (t' := tk + 1) k2
  have hw : (h1.push (PySem.W.kxs_mw "ValueError.__init__" a)).get? h1.objs.size = some (PySem.W.kxs_mw "ValueError.__init__" a) := Heap.get?_push_at rfl rfl
  have hnew : H h1.objs.size = none := I1.hok.fresh (Nat.le_refl _)
  have I3 : Inv X (pins ++ [(h1.objs.size, PySem.W.kxs_mw "ValueError.__init__" a)]) σ H ⟨h1.push (PySem.W.kxs_mw "ValueError.__init__" a), gg, dr, tk + 1, os⟩ := I2.pins_of fun p hp => by
    rcases List.mem_append.mp hp with hp | hp
    · exact I2.pin p (List.mem_append_right _ hp)
    · rw [List.mem_singleton.mp hp]
      exact ⟨hw, hnew, Ne.symm (Nat.ne_of_lt I1.lt), I1.nofs (Nat.le_refl _), fun v z => by cases z⟩
  show wpAny _ _ (callWith pos (Value.ref h1.objs.size) [] (backTo pos (starEach (e :: es) X.env)) []) _ _ _
  rw [he]
  refine PySem.W.kxs_callWith (i := "ValueError.__init__") (x := a) (by show (false || (backTo pos (starEach es X.env)).any (·.1)) = false; rw [hpl]; rfl) ?_
  refine Calls.evalArgs_plain ?_
  have hr := ha.run pos _ _ σ H _ I3 h
  rw [he] at hr
  refine thn hr fun us s2 hq => ?_
  obtain ⟨vs, H2, I4, rv, hlen, hex2, hD⟩ := hq
  refine ⟨(I4.pin (h1.objs.size, _) (List.mem_append_right _ (List.mem_append_right _ (List.mem_singleton.mpr rfl)))).1, ?_⟩
  have hw4 := (I4.pin (h1.objs.size, PySem.W.kxs_mw "ValueError.__init__" a) (List.mem_append_right _ (List.mem_append_right _ (List.mem_singleton.mpr rfl)))).1
  obtain ⟨t4, hox4⟩ := exo_get I4 hex2
  have hC4 := I4.kIn _ _ hC
  have I5 : Inv X pins σ H2 s2 := I4.pins_of fun p hp => I4.pin p (List.mem_append_right _ (List.mem_append_left _ hp))
  obtain ⟨h4, g4, d4, tk4, os4⟩ := s2
  show wpAny _ _ (call (Value.ref h1.objs.size) ([] ++ us)) _ _ _
  refine vi_call hC4 hox4 hw4 (by rw [List.nil_append, ← Paired.length rv, sizeLine_eq]; omega) fun h' t1 kk hx' => ?_
  have J5 := I5.write (t' := tk4) (x := a) (e := a) (o := exo a C none) (by rw [hex2]; exact True.intro) (.inl rfl) kk ⟨_, hx'⟩ (exo_ok hx')
  have eu : upd H2 a (exo a C none) = H2 := by
    funext b
    by_cases hb : b = a
    · rw [hb, upd_same, hex2]
    · rw [upd_ne hb]
  rw [eu] at J5
  exact ⟨σ, H2, J5, hD⟩
end Own
set_option maxHeartbeats 2000000
namespace Own
open PySem PySem.Spec PyProof.Rows L2 HT NdefX
/-! ### the def __init__ that says super().__init__(..) first -/
section
variable {CX : CXT} {P : Program} {w : World} {K : PySem.W.Frag} {mg : Str → Option Value} {base : Heap} {k : Nat} {fI cc cda C : Addr} {name qual : Str} {params : Arguments} {body : List Stmt} {scope : Scope} {dV kV doc pm ct oc : Value} {an od : Option Addr}
  {osl : Array (Option Value)} {N ps : List Str} {sp : Sp}
abbrev iNF (name qual : Str) (params : Arguments) (body : List Stmt) (scope : Scope) (cc cda : Addr) : NF := ⟨name, qual, params, body, scope, [("__class__", cc)], cda⟩
abbrev icx (CX : CXT) (P : Program) (w : World) (K : PySem.W.Frag) (mg : Str → Option Value) (base : Heap) (N : List Str) (name qual : Str) (params : Arguments) (body : List Stmt) (scope : Scope) (cc cda fI : Addr) (A : Around) (outer : List Env) (s : Shared) (H : Hp) (E : XK) : Cx :=
  ncx CX P w K mg base N (iNF name qual params body scope cc cda) fI A outer s H E
theorem init_of (lk : K.lookup fI = some ⟨oc, od, .func (PySem.W.fnX name qual params body scope [("__class__", cc)] dV kV doc pm an (.ref cda) ct), osl⟩) (hcd : PySem.W.codeIn K (.ref cda) qual = true)
    (hcell : ∃ cl cld csl, K.lookup cc = some ⟨cl, cld, .cell (some (.ref C)), csl⟩) (S : NScope N ps ["__class__"] scope) (len : ∀ vs H Q E, sp vs H Q E → vs.length = ps.length)
    (hb : ∀ (A : Around) (outer : List Env) (s : Shared) (H : Hp) (vs : List V) (Q : VK) (E : XK), Room k (A.deeper (envF (iNF name qual params body scope cc cda) fI s.heap.objs.size)) → sp vs H Q E →
      ∃ t, PSsAt (icx CX P w K mg base N name qual params body scope cc cda fI A outer s H E) body body t ∧ t { nx := fun _ H' => Q .non H', rt := Q } (startF N vs [some (.ref C)]) H) :
    FnOk P w K mg base CX (k + 1) fI (PySem.W.fnX name qual params body scope [("__class__", cc)] dV kV doc pm an (.ref cda) ct) ps sp := by
  refine ⟨len, fun A outer s H args us vs Q E hr e0 hbd rv hsp => ?_⟩
  have hlen := len _ _ _ _ hsp
  have kx : K.In s.heap := e0.mod.kin.keeps fun b o e => (e0.bs b o e).1
  have nolim : s.heap.NoLimit := e0.mod.nolimit.keeps fun b o e => (e0.bs b o e).1
  obtain ⟨cl, cld, csl, hcl⟩ := hcell
  refine PySem.ks_codeAny_call_defAt (body := body) (binds := ps.zip us) hr.depth (kx _ _ lk) rfl nolim (PySem.W.codeRec_of kx hcd) rfl hbd S.nocell (fun ⟨n, _⟩ hy => S.par n (List.of_mem_zip hy).1) (fun h1 hns kp => ?_) S.co S.gen S.kind
  have hcells : CellsAt [("__class__", cc)] ["__class__"] [some (V.ref C)] s.heap H := by
    refine ⟨rfl, fun y c e => ?_, fun x y c e1 e2 => ?_, fun i y hy => ?_⟩
    · have ec : c = cc := by
        by_cases hy : y = "__class__"
        · subst hy
          simpa [List.lookup] using e.symm
        · have : (y == ("__class__" : Str)) = false := by simpa using hy
          simp [List.lookup, this] at e
      subst ec
      exact ⟨(e0.bs _ _ (e0.mod.kin _ _ hcl)).2, _, _, kx _ _ hcl, rfl⟩
    · have key : ∀ {z : Str} {d : Addr}, List.lookup z [(("__class__" : Str), cc)] = some d → z = "__class__" := fun {z d} h => by
        by_cases hz : z = "__class__"
        · exact hz
        · have : (z == ("__class__" : Str)) = false := by simpa using hz
          simp [List.lookup, this] at h
      rw [key e1, key e2]
    · cases i with
      | zero =>
        cases (show some _ = some _ from hy)
        refine ⟨cc, by simp [List.lookup], fun v hv => ?_⟩
        cases (show some (some _) = some (some _) from hv)
        exact ⟨.ref C, rfl, _, kx _ _ hcl, rfl⟩
      | succ i => cases (show none = some _ from hy)
  have I : Inv (icx CX P w K mg base N name qual params body scope cc cda fI A outer s H E) [] (startF N vs [some (.ref C)]) H { s with heap := h1, toks := s.toks + (ps.zip us).length } := inv_startN S hr.hd e0 hlen rv hcells hns kp
  obtain ⟨t, ht, hq⟩ := hb A outer s H vs Q E (hr.deeper _) hsp
  refine PySem.ks_wpAt_mono (ht.run [] _ _ H _ I hq) (fun fl s' hs => ?_) fun e s' hs => hs
  have close : ∀ {σ' : L2.St} {H' : Hp} {v : V} {u : Value}, Inv (icx CX P w K mg base N name qual params body scope cc cda fI A outer s H E) [] σ' H' s' → L2.RelV v u → Q v H' → CE outer P w H s Q u s' :=
    fun {σ' H' v u} J r q => ⟨v, H', J.os, J.bare, J.base, J.hok, r, q⟩
  cases fl with
  | ret u =>
    obtain ⟨v, σ', H', J, r, q⟩ := hs
    exact close J r q
  | next =>
    obtain ⟨σ', H', J, q⟩ := hs
    exact close (v := V.non) (u := Value.none) J rfl q
  | brk => exact False.elim hs.choose_spec.choose_spec.2
  | cont => exact False.elim hs.choose_spec.choose_spec.2
/-- what the written part says of such a def, and of its class -/
structure InitC (P : Program) (K : PySem.W.Frag) (mg : Str → Option Value) (C fI cc cda : Addr) (name qual : Str) (params : Arguments) (body : List Stmt) (scope : Scope) (fd : FuncData) : Prop where
  sup : SupC K C
  fn : ∃ oc od dV kV doc pm an ct osl, fd = PySem.W.fnX name qual params body scope [("__class__", cc)] dV kV doc pm an (.ref cda) ct ∧ K.lookup fI = some ⟨oc, od, .func fd, osl⟩
  code : PySem.W.codeIn K (.ref cda) qual = true
  file : ∃ o vs file tf, K.lookup cda = some o ∧ o.data = .fields vs ∧ vs[2]? = some (.str file tf) ∧ ((P.main.file : Str) == file) = true
  top : (P.main.scope.names.lookup ("super" : Str)).isSome = false
  cell : ∃ cl cld csl, K.lookup cc = some ⟨cl, cld, .cell (some (.ref C)), csl⟩
  glob : mg "super" = none
  self : ∃ ar, (params.posonlyargs ++ params.args).head? = some ar ∧ ar.arg = ("self" : Str)
  k1 : scope.names.lookup ("super" : Str) = some .globalImplicit
  k2 : scope.names.lookup ("__class__" : Str) = some .free
  k3 : scope.names.lookup ("self" : Str) = some .local
  iC : PySem.W.findIn K (.ref C) "__init__" = some (some (.ref fI))
  tI : PySem.W.typeIn K (.ref fI) = some (.type "function")
theorem InitC.supX {fd : FuncData} {A : Around} {outer : List Env} {s : Shared} {H : Hp} {E : XK} (T : InitC P K mg C fI cc cda name qual params body scope fd) (h0 : N[0]? = some ("self" : Str)) :
    SupX (icx CX P w K mg base N name qual params body scope cc cda fI A outer s H E) C cc := by
  obtain ⟨oc, od, dV, kV, doc, pm, an, ct, osl, rfl, l⟩ := T.fn
  obtain ⟨o, vs, file, tf, e1, e2, e3, e4⟩ := T.file
  obtain ⟨ar, e5, e6⟩ := T.self
  exact ⟨T.k1, T.k2, ⟨fI, _, _, rfl, l, rfl, ar, e5, e6⟩, ⟨cda, o, vs, file, tf, rfl, e1, e2, e3, e4⟩, T.top, by show List.lookup _ [(("__class__" : Str), cc)] = _; simp [List.lookup], T.cell, T.glob, T.k3, h0⟩
/-- the promise: the fields, each with its argument; ok: what the text of super().__init__ asks of the arguments -/
def spInit (C : Addr) (fs : List Str) (ok : List V → Hp → Prop) : Sp := fun vs H Q _ => ∃ a ws, vs = .ref a :: ws ∧ ws.length = fs.length ∧ H a = some (exo a C none) ∧ ok ws H ∧
  ∀ H2 dx, (∀ b, b ≠ a → b ≠ dx → H2 b = H b) → H dx = none → dx ≠ a → H2 a = some (exo a C (some dx)) → H2 dx = some (exd dx (fs.zip ws).reverse) → Q .non H2
end
/-! ### the call C(e, ..), where nothing is handled -/
section
variable {X : Cx} {CX : CXT} {x : Str} {e : Expr} {es : List Expr} {ta : TA} {p pos : Pos} {C fI : Addr} {k : Nat} {fd : FuncData} {ps : List Str} {sp : Sp}
theorem pmkN_sup (T : OexC X.K C) (iC : PySem.W.findIn X.K (.ref C) "__init__" = some (some (.ref fI))) (tI : PySem.W.typeIn X.K (.ref fI) = some (.type "function"))
    (F1 : FnOk X.prog X.w X.K X.mg X.base CX k fI fd ps sp) (hr : Room (k + 1) X.A) (hb : Binds X.K fd ps []) (hx : Passes CX X (fun _ _ _ => False)) (hg : Gl X x) (hm : X.mg x = some (.ref C)) (ha : PA X (e :: es) ta)
    (hdb : (x == ("__debug__" : Str)) = false := by decide) (he : starEach (e :: es) X.env = (false, eval e X.env) :: starEach es X.env := by rfl) (hpl : (backTo pos (starEach es X.env)).any (·.1) = false := by rfl) :
    L2N.PMk X (.Call (.Name x p) (e :: es) [] pos) (tMkO C sp [] ta) := by
  intro pins s σ H Q I h
  obtain ⟨nm, qn, N, bs, bm, sn, sub, ab, col, dd, k0, k1, k2, k3, k5, hcl, hve⟩ := T.cls
  refine wpAny_Call_Name_kw (ld_glob I hg hm ?_ hdb)
  refine PySem.W.callWith_K (h₀ := X.base) I.ok.mod.kin T.kC (thn (ha.run pos pins s σ H _ I h) fun us s1 hq => ?_) he hpl
  obtain ⟨vs, H1, I1, rv, hlen, hsp⟩ := hq
  refine ⟨I1.kIn, ?_⟩
  show wpAny _ _ (call (.ref C) us) _ _ _
  obtain ⟨h1, g1, d1, tk1, os1⟩ := s1
  have free1 : H1 (h1.objs.size + 1) = none := I1.hok.fresh (Nat.le_succ _)
  have hsp := hsp _ free1
  rw [List.append_nil] at hsp
  have older : ∀ b o, h1.get? b = some o → ((h1.push (PySem.W.kdv_tup us)).push (PySem.HandSPX.excO C h1.objs.size)).get? b = some o := fun b o q => Heap.get?_push_of_some _ (Heap.get?_push_of_some _ q)
  have there : ((h1.push (PySem.W.kdv_tup us)).push (PySem.HandSPX.excO C h1.objs.size)).get? (h1.objs.size + 1) = some (PySem.HandSPX.excO C h1.objs.size) := by heap_get
  have I2 := I1.laid (t' := tk1) (a := h1.objs.size + 1) (o := exo (h1.objs.size + 1) C none) older (Nat.le_succ _) (exo_ok there)
  have rv2 : Vals (V.ref (h1.objs.size + 1) :: vs) (Value.ref (h1.objs.size + 1) :: us) := .cons rfl rv
  have elen : (Value.ref (h1.objs.size + 1) :: us ++ []).length = ps.length := by
    rw [List.append_nil, ← rv2.length]
    exact F1.len _ _ _ _ hsp
  have ulen : us.length ≤ sizeLine := by
    have := Paired.length rv
    rw [sizeLine_eq]
    omega
  have bind2 := hb _ (Value.ref (h1.objs.size + 1) :: us) I2.kIn elen
  rw [List.append_nil] at bind2
  have init := F1.run _ X.stack _ _ ⟨Value.ref (h1.objs.size + 1) :: us, []⟩ (Value.ref (h1.objs.size + 1) :: us) _ _ (fun _ _ _ => False) (hr.make C us []) (I2.env0.make C us []) bind2 rv2 hsp
  refine wpAny_call (PySem.HandSPX.call_own F.excBase_ValueError (fun Y => PySem.HandSPX.refsVE_contains Y bm hve) (I1.kIn _ _ hcl) (PySem.W.looks_findIn I1.kIn iC) (fun self => PySem.W.bind_fn I1.kIn self tI) ulen (codeAny_mono init fun r s' hq => ?_))
  cases r with
  | error er => exact hx pins σ _ _ er s' I2 hq
  | ok fl =>
    cases fl with
    | ret u =>
      obtain ⟨v, H2, hos, hbare, hun, hok2, hrel, ev, d, fs, ea, ed, free2, q⟩ := hq
      subst ev
      obtain ⟨h2, g2, d2, tk2, os2⟩ := s'
      obtain ⟨t0, G, J, kG, gone, hoe, nota⟩ := mk_end0 (d2 := d2) (t2 := tk2) I1 (Nat.le_succ _) older hun hok2 hos hbare ea ed free2
      refine ⟨hrel, h1.objs.size + 1, _, _, ⟨G, g2, d2, tk2, os2⟩, _, .ref C, some d, rfl, J, kG, gone, hoe, ⟨rfl, rfl, fun vs hv => ?_⟩, rfl, rfl, nota, rfl, hbare, raises_own T.exC T.tyC, q⟩
      cases hv
      rfl
    | next => exact hq.elim
    | brk => exact hq.elim
    | cont => exact hq.elim
/-- the reading of raise C(e, ..) -/
def tMkS (C : Addr) (fs : List Str) (ok : List V → Hp → Prop) (ta : TA) : L2.St → Hp → XK → Prop := fun σ H Q => ta σ H fun vs H1 => vs.length = fs.length ∧ vs.length ≤ 1000 ∧ (∀ a, H1 a = none → ok vs (upd H1 a (exo a C none))) ∧
  ∀ d, H1 d = none → Q (.ref C) (some d) (upd H1 d (.xd (fs.zip vs).reverse))
theorem tMk_of {fs : List Str} {ok : List V → Hp → Prop} {σ : L2.St} {H : Hp} {Q : XK} (hm : ∀ {P Q : List V → Hp → Prop}, (∀ vs H, P vs H → Q vs H) → ∀ {σ H}, ta σ H P → ta σ H Q) (h : tMkS C fs ok ta σ H Q) : tMkO C (spInit C fs ok) [] ta σ H Q := by
  refine hm (fun vs H1 hq => ?_) h
  obtain ⟨h1, h2, h3, h4⟩ := hq
  refine ⟨h2, fun a na => ?_⟩
  rw [List.append_nil]
  refine ⟨a, vs, rfl, h1, upd_same, h3 a na, fun H2 dx same fx nx ea ed => ⟨rfl, dx, _, ea, ed, ?_, ?_⟩⟩
  · rw [← upd_ne (H := H1) (o := exo a C none) nx]
    exact fx
  · have e9 : upd (del H2 a) dx (.xd (fs.zip vs).reverse) = upd H1 dx (.xd (fs.zip vs).reverse) := by
      funext b
      by_cases hb : b = dx
      · rw [hb, upd_same, upd_same]
      · rw [upd_ne hb, upd_ne hb]
        by_cases hb2 : b = a
        · rw [hb2, del_same, na]
        · rw [del_ne hb2, same b hb2 hb, upd_ne hb2]
    rw [e9]
    refine h4 dx ?_
    rw [← upd_ne (H := H1) (o := exo a C none) nx]
    exact fx
end
/-! ### the fields -/
section
variable {X : Cx}
theorem fst_field {K : PySem.W.Frag} {σ : L2.St} {H : Hp} {D : Ends} {a C : Addr} {f : Str} {y : V} {to te : TE} (T : OexC K C) (hf : PySem.W.findIn K (.ref C) f = some none) (e : H a = some (exo a C none)) (h1 : ∀ Q, te σ H Q ↔ Q y H) (h2 : ∀ Q, to σ H Q ↔ Q (.ref a) H)
    (h : ∀ dx, H dx = none → dx ≠ a → D.nx σ (upd (upd H dx (exd dx [(f, y)])) a (exo a C (some dx)))) : tOst K f to te D σ H :=
  (h1 _).mpr ((h2 _).mpr ⟨a, C, rfl, T, hf, .inl ⟨e, h⟩⟩)
theorem nxt_field {K : PySem.W.Frag} {σ : L2.St} {H : Hp} {D : Ends} {a C dx : Addr} {f : Str} {y : V} {fs : List (Str × V)} {to te : TE} (T : OexC K C) (hf : PySem.W.findIn K (.ref C) f = some none) (e : H a = some (exo a C (some dx))) (ed : H dx = some (exd dx fs)) (hl : fs.length ≤ 900)
    (h1 : ∀ Q, te σ H Q ↔ Q y H) (h2 : ∀ Q, to σ H Q ↔ Q (.ref a) H) (h : D.nx σ (upd H dx (exd dx ((f, y) :: fs)))) : tOst K f to te D σ H :=
  (h1 _).mpr ((h2 _).mpr ⟨a, C, rfl, T, hf, .inr ⟨dx, fs, e, ed, hl, h⟩⟩)
end
/-! ### {t}, t a tuple of whole numbers, in an f-string: some text -/
section
variable {X : Cx}
theorem repr_ints {prog : Program} {w : World} : ∀ {l : List Int} {its : List Value}, Vals (l.map V.int) its → (∀ y ∈ l, y.natAbs.log2 < 1920) → ReprAll prog w its (l.map fun y => ((toString y : String) : Str))
  | [], _, r, _ => by
    cases r
    exact .nil
  | y :: l, _, r, h => by
    cases r with
    | cons ra rb =>
      obtain ⟨t, rfl⟩ := ra
      exact .cons (ReprIs.int t (h y List.mem_cons_self)) (repr_ints rb fun z hz => h z (List.mem_cons_of_mem _ hz))
def tFmtI (K : PySem.W.Frag) (te : TE) : TE := fun σ H Q => te σ H fun x H1 => ∃ (a : Addr) (l : List Int), x = .ref a ∧ SqT K H1 a (l.map V.int) ∧ (∀ y ∈ l, y.natAbs.log2 < 1920) ∧ (tupleText (l.map fun y => ((toString y : String) : Str))).length ≤ 1000000 ∧ ∀ m : Str, m.length ≤ 1000005 → Q (.str m) H1
theorem pe_fmtI {e : Expr} {te : TE} {pos : Pos} {k : Nat} (hr : Room k X.A) (he : PE X e te) : PE X (.FormattedValue e (-1) none pos) (tFmtI X.K te) := by
  refine ⟨fun pins s σ H Q I h => ?_⟩
  refine wpAny_FormattedValue_plain (thn (he.run pins s σ H _ I h) fun v s1 hv => ?_)
  obtain ⟨x, H1, I1, r1, a, l, rfl, ht, hl, hz, q⟩ := hv
  cases r1
  obtain ⟨its, rv, ⟨o, ho, hcl, n, hd⟩, _⟩ := I1.tuple ht
  have hu := hr.units
  refine fmt_tuple (ts := l.map fun y => ((toString y : String) : Str)) (by omega) ho hcl hd (repr_ints rv hl) (by rw [sizeLine_eq]; omega) fun m u tk hm => ?_
  exact ⟨.str m, H1, I1.tok _, ⟨u, rfl⟩, q m (by omega)⟩
end
end Own
set_option maxHeartbeats 2000000
namespace Own
open PySem PySem.Spec PyProof.Rows L2 HT NdefX
/-- the j-th statement of a class's body -/
def clsAt (s : Stmt) (j : Nat) : Stmt := match s with
  | .ClassDef _ _ _ b _ _ _ _ _ _ _ => b.getD j (.Pass ⟨0, 0, 0, 0⟩)
  | _ => .Pass ⟨0, 0, 0, 0⟩
/-! ### defs that may raise, defs called within an except suite -/
section
variable {P : Program} {w : World} {K : PySem.W.Frag} {mg : Str → Option Value} {base : Heap} {x qual : Str} {st : Stmt} {f : Addr} {fd : FuncData} {N ps : List Str} {k : Nat} {sp : Sp}
theorem _root_.L2.Fun.okN (F : Fun K x qual st f fd) (S : FnScope N ps (defScope st)) (len : ∀ vs H Q E, sp vs H Q E → vs.length = ps.length)
    (hb : ∀ (cdv : Value) (A : Around) (outer : List Env) (s : Shared) (H : Hp) (vs : List V) (Q : VK) (E : XK), Room k (A.deeper (envOfC qual (defScope st) s.heap.objs.size f cdv)) → sp vs H Q E →
      ∃ t, PSs (cxOf (L2N.CX P w) P w K mg base N qual (defScope st) f cdv A outer s H E) (defBody st) t ∧ t { nx := fun _ H' => Q .non H', rt := Q } (start N vs) H) : FnOk P w K mg base (L2N.CX P w) (k + 1) f fd ps sp := by
  obtain ⟨oc, od, kV, doc, pm, an, cdv, ct, osl, rfl, l, c⟩ := F.ex
  exact fn_of l c S len fun A outer s H vs Q E r q => hb cdv A outer s H vs Q E r q
theorem _root_.L2.Fun.okH (F : Fun K x qual st f fd) (S : FnScope N ps (defScope st)) (len : ∀ vs H Q E, sp vs H Q E → vs.length = ps.length)
    (hb : ∀ (cdv : Value) (A : Around) (outer : List Env) (s : Shared) (H : Hp) (vs : List V) (Q : VK) (E : XK) (p : Addr × Obj), L2H.HotC (L2H.cxH CX0 P w K mg base N qual (defScope st) f cdv A outer s H E p) → L2H.RoomH k (A.deeper (envOfC qual (defScope st) s.heap.objs.size f cdv)) → sp vs H Q E →
      ∃ t, PSs (L2H.cxH CX0 P w K mg base N qual (defScope st) f cdv A outer s H E p) (defBody st) t ∧ t { nx := fun _ H' => Q .non H', rt := Q } (start N vs) H) : L2H.FnH P w K mg base CX0 (k + 1) f fd ps sp := by
  obtain ⟨oc, od, kV, doc, pm, an, cdv, ct, osl, rfl, l, c⟩ := F.ex
  exact L2H.fn_ofH l c S len fun A outer s H vs Q E p hot r q => hb cdv A outer s H vs Q E p ⟨p, ⟨hot.1, hot.2⟩, List.mem_singleton.mpr rfl⟩ r q
end
theorem passA0 {X : Cx} {E : L2.St → XK} (σ : L2.St) : PassesAt CX0 X σ (E σ) := fun _ _ _ _ _ _ z => z.elim
/-- around a body nothing is let out -/
theorem takesN0 {X : Cx} : L2N.Takes X (fun _ _ _ _ => False) := fun _ _ x => by
  obtain ⟨_, _, _, _, _, _, _, _, _, _, _, _, _, _, _, _, z⟩ := x
  exact z.elim
/-! ### raise C(e, ..) -/
section
variable {X : Cx} {CX : CXT} {x : Str} {e : Expr} {es : List Expr} {ta : TA} {p pos pos2 : Pos} {C fI : Addr} {k : Nat} {fd : FuncData} {ps : List Str} {fs : List Str} {ok : List V → Hp → Prop} {W : WX}
theorem ps_raiseS (hc : X.calm = true) (tk : L2N.Takes X W) (T : OexC X.K C) (iC : PySem.W.findIn X.K (.ref C) "__init__" = some (some (.ref fI))) (tI : PySem.W.typeIn X.K (.ref fI) = some (.type "function"))
    (F1 : FnOk X.prog X.w X.K X.mg X.base CX k fI fd ps (spInit C fs ok)) (hr : Room (k + 1) X.A) (hb : Binds X.K fd ps []) (hx : Passes CX X (fun _ _ _ => False)) (hg : Gl X x) (hm : X.mg x = some (.ref C)) (ha : PA X (e :: es) ta)
    (mono : ∀ {P Q : List V → Hp → Prop}, (∀ vs H, P vs H → Q vs H) → ∀ {σ H}, ta σ H P → ta σ H Q)
    (hdb : (x == ("__debug__" : Str)) = false := by decide) (he : starEach (e :: es) X.env = (false, eval e X.env) :: starEach es X.env := by rfl) (hpl : (backTo pos (starEach es X.env)).any (·.1) = false := by rfl) :
    PS X (.Raise (some (.Call (.Name x p) (e :: es) [] pos)) none pos2) (fun _ σ H => tMkS C fs ok ta σ H fun cls d H' => W cls d σ H') := by
  have m := pmkN_sup (p := p) (pos := pos) T iC tI F1 hr hb hx hg hm ha hdb he hpl
  exact L2N.ps_raise (t := tMkS C fs ok ta) hc tk fun pins s σ H Q I h => m pins s σ H Q I (tMk_of mono h)
end
/-! ### the caught exception, asked -/
structure ErrC (K : PySem.W.Frag) (C : Addr) : Prop where
  ga : PySem.W.findIn K (.ref C) "__getattribute__" = some (some (.builtin "BaseException.__getattribute__"))
  gg : PySem.W.findIn K (.ref C) "__getattr__" = some none
  exC : PySem.W.subIn K (.ref C) (.type "BaseException") = some true
  hdC : PySem.W.hasDictIn K C = true
  ic : PySem.W.isClsIn K C = true
  ca : PySem.W.findIn K (.ref C) "__class__" = some (some (.builtin "object.__class__"))
  cn : PySem.W.specialIn K (.builtin "object.__class__") "__get__" = some (some (.builtin "getset_descriptor.__get__"))
  ct : PySem.W.takesIn K (.builtin "object.__class__") = some true
  mo : PySem.W.mroIn K C (.type "object") = some true
theorem ErrC.xf {K : PySem.W.Frag} {C : Addr} (T : ErrC K C) : XfC K C := ⟨T.ga, T.gg, T.exC, T.hdC⟩
def rIsD (K : PySem.W.Frag) (C a : Addr) (cls : Value) (d : Option Addr) : List V → Hp → VK → Prop := fun xs H Q => cls = .ref C ∧ ∃ (dd : Addr) (fs : List (Str × V)) (c : V) (cv : Value) (b : Bool), d = some dd ∧ H dd = some (.xd fs) ∧ xs = [.ref a, c] ∧ (∀ u, RelV c u → u = cv) ∧ PySem.W.kitOne K (.ref C) cv = some b ∧ Q (.bl b) H
theorem call_isD {X : Cx} {a C : Addr} {cls : Value} {d : Option Addr} {oe : Obj} {pn : List (Addr × Obj)} (T : ErrC X.K C) (hz : Zc cls d oe) (hf : ∃ vs, oe.data = .fields vs) : CallR (X.suite a ((a, oe) :: pn)) (.builtin "isinstance") (rIsD X.K C a cls d) := by
  intro pins s σ H xs us Q I r h
  obtain ⟨ec, dd, fs, c, cv, b, ed, hdd, rfl, hcv, hk, q⟩ := h
  subst ec
  subst ed
  obtain ⟨u1, rest, rfl, r1, rr⟩ : ∃ u1 rest, us = u1 :: rest ∧ RelV (.ref a) u1 ∧ Vals [c] rest := by
    cases r with
    | cons x y => exact ⟨_, _, rfl, x, y⟩
  obtain ⟨u2, rfl, r2⟩ := rr.one
  cases r1
  have e2 := hcv _ r2
  subst e2
  obtain ⟨hget, _⟩ := I.pin (a, oe) (List.mem_append_left _ List.mem_cons_self)
  obtain ⟨vs, hv⟩ := hf
  obtain ⟨mA, hns, _⟩ := (show ObjOk X.prog X.w H s.heap dd (.xd fs) from I.hok dd _ hdd)
  obtain ⟨od, ho, _⟩ := lookIn_ns hns
  have J : PySem.W.InstAt s.heap a oe C (some od) := ⟨hget, hz.1, by unfold PySem.W.notCls; rw [hv] <;> rfl, by rw [hz.2]; exact ho⟩
  exact PySem.W.kia_one (PySem.W.kitx_exc T.ic T.ga T.gg T.exC T.ca T.cn T.ct T.mo) I.kIn J hk (fun z => nomatch z) fun tk => ⟨.bl b, H, I.kept (t' := tk) fun _ _ z => z, rfl, q⟩
/-- the handled exception of a suite, for calls within it -/
theorem hot_suite {X : Cx} {a : Addr} {oe : Obj} {cls : Value} {d : Option Addr} {pn : List (Addr × Obj)} (hz : L2N.Zn cls d oe) (hf : ∃ vs, oe.data = .fields vs) : L2H.HotC (X.suite a ((a, oe) :: pn)) := by
  obtain ⟨vs, hv⟩ := hf
  exact ⟨(a, oe), ⟨rfl, vs, hv, hz.2.2 vs hv⟩, List.mem_cons_self⟩
/-- a class in an except clause, of itself -/
theorem exm_self {K : PySem.W.Frag} {C : Addr} (h1 : PySem.W.subIn K (.ref C) (.type "BaseException") = some true) (h2 : PySem.W.isClsIn K C = true) (h3 : PySem.W.typeIn K (.ref C) = some (.type "type")) {cls : Value} {b : Bool} (h4 : PySem.W.subIn K cls (.ref C) = some b) : PySem.W.exmOne K cls (.ref C) = some b := by
  have e1 : (PySem.W.subIn K (.ref C) (.type "BaseException") == some true) = true := by rw [h1] <;> rfl
  have e2 : ((PySem.W.clsIn K C).isSome && PySem.W.typeIn K (.ref C) == some (.type "type")) = true := by
    have h5 : (PySem.W.clsIn K C).isSome = true := h2
    rw [h5, h3] <;> rfl
  show (if (PySem.W.subIn K (.ref C) (.type "BaseException") == some true) = true then (if ((PySem.W.clsIn K C).isSome && PySem.W.typeIn K (.ref C) == some (.type "type")) = true then PySem.W.subIn K cls (.ref C) else none) else none) = some b
  rw [if_pos e1, if_pos e2]
  exact h4
end Own
namespace Own
open PySem PySem.Spec PyProof.Rows L2 HT
theorem mono1 {i : Nat} {P Q : List V → Hp → Prop} (hm : ∀ vs H, P vs H → Q vs H) {σ : L2.St} {H : Hp} (h : tCons (tVar i) tNil σ H P) : tCons (tVar i) tNil σ H Q := by
  obtain ⟨v, hv, hp⟩ := h
  exact ⟨v, hv, hm _ _ hp⟩
theorem monoS {x : Str} {P Q : List V → Hp → Prop} (hm : ∀ vs H, P vs H → Q vs H) {σ : L2.St} {H : Hp} (h : tCons (tC (.str x)) tNil σ H P) : tCons (tC (.str x)) tNil σ H Q := hm _ _ h
end Own
namespace Own
open PySem PySem.Spec PyProof.Rows L2 HT
/-! ### positions -/
def Ter.step (n : Int) : Ter → Option Ter
  | .var _ => none
  | .ap _ as => if 1 ≤ n then as[(n - 1).toNat]? else none
def Ter.at : Ter → List Int → Option Ter
  | t, [] => some t
  | t, n :: r => (t.step n).bind fun u => u.at r
theorem at_app : ∀ (ns ms : List Int) (t : Ter), t.at (ns ++ ms) = (t.at ns).bind fun u => u.at ms
  | [], _, _ => rfl
  | n :: r, ms, t => by
    show ((t.step n).bind fun u => u.at (r ++ ms)) = _
    rw [show t.at (n :: r) = (t.step n).bind fun u => u.at r from rfl]
    cases t.step n with
    | none => rfl
    | some u => exact at_app r ms u
theorem at_one (n : Int) (t : Ter) : t.at [n] = t.step n := by
  show ((t.step n).bind fun u => some u) = _
  cases t.step n <;> rfl
theorem at_snoc {ns : List Int} {n : Int} {t u : Ter} (h : t.at ns = some u) : t.at (ns ++ [n]) = u.step n := by
  rw [at_app, h]
  exact at_one n u
theorem at_none {ns : List Int} (ms : List Int) {t : Ter} (h : t.at ns = none) : t.at (ns ++ ms) = none := by rw [at_app, h]; rfl
/-- put in the place of the subterm at a position -/
def Ter.put : Ter → Ter → List Int → Ter
  | _, s, [] => s
  | .var k, _, _ :: _ => .var k
  | .ap f as, s, n :: r => .ap f (as.modify (n - 1).toNat fun a => a.put s r)
theorem step_eq (f : Str) (as : List Ter) (n : Int) : (Ter.ap f as).step n = if 1 ≤ n then as[(n - 1).toNat]? else none := rfl
theorem step_ap {f : Str} {as : List Ter} {n : Int} {u : Ter} (h : (Ter.ap f as).step n = some u) : 1 ≤ n ∧ as[(n - 1).toNat]? = some u := by
  rw [step_eq] at h
  by_cases c : 1 ≤ n
  · rw [if_pos c] at h
    exact ⟨c, h⟩
  · rw [if_neg c] at h
    cases h
theorem step_var {k : Key} {n : Int} : (Ter.var k).step n = none := rfl
theorem put_at (s : Ter) : ∀ (ns : List Int) (t u : Ter), t.at ns = some u → (t.put s ns).at ns = some s
  | [], t, u, _ => by cases t <;> rfl
  | n :: r, .var k, u, h => by cases h
  | n :: r, .ap f as, u, h => by
    cases e : (Ter.ap f as).step n with
    | none => rw [show (Ter.ap f as).at (n :: r) = ((Ter.ap f as).step n).bind fun u => u.at r from rfl, e] at h; cases h
    | some a =>
      have h : a.at r = some u := by rw [show (Ter.ap f as).at (n :: r) = ((Ter.ap f as).step n).bind fun u => u.at r from rfl, e] at h; exact h
      obtain ⟨h1, h2⟩ := step_ap e
      show ((Ter.ap f _).step n).bind _ = _
      rw [step_eq]
      rw [if_pos h1, List.getElem?_modify_eq, h2]
      exact put_at s r a u h
theorem put_put (s : Ter) : ∀ (ns : List Int) (t u : Ter), t.at ns = some u → (t.put s ns).put u ns = t
  | [], t, u, h => by
    cases (show some t = some u from h)
    cases s <;> rfl
  | n :: r, .var k, u, h => by cases h
  | n :: r, .ap f as, u, h => by
    cases e : (Ter.ap f as).step n with
    | none => rw [show (Ter.ap f as).at (n :: r) = ((Ter.ap f as).step n).bind fun u => u.at r from rfl, e] at h; cases h
    | some a =>
      have h : a.at r = some u := by rw [show (Ter.ap f as).at (n :: r) = ((Ter.ap f as).step n).bind fun u => u.at r from rfl, e] at h; exact h
      obtain ⟨h1, h2⟩ := step_ap e
      show Ter.ap f ((as.modify (n - 1).toNat fun a => a.put s r).modify (n - 1).toNat fun a => a.put u r) = Ter.ap f as
      congr 1
      apply List.ext_getElem?
      intro j
      by_cases hj : (n - 1).toNat = j
      · subst hj
        rw [List.getElem?_modify_eq, List.getElem?_modify_eq, h2]
        exact congrArg some (put_put s r a u h)
      · rw [List.getElem?_modify_ne _ _ hj, List.getElem?_modify_ne _ _ hj]
/-- what stands at a place that is neither above nor below -/
theorem put_beside (s : Ter) : ∀ (ms ns : List Int) (t u v : Ter), (∀ k ∈ ms, 1 ≤ k) → t.at ns = some u → t.at ms = some v → ms.take (min ms.length ns.length) ≠ ns.take (min ms.length ns.length) → (t.put s ns).at ms = some v
  | [], ns, t, u, v, _, _, _, d => by
    rw [show min ([] : List Int).length ns.length = 0 from Nat.zero_min _] at d
    exact absurd rfl d
  | m :: ms, [], t, u, v, _, _, _, d => by
    rw [show min (m :: ms).length ([] : List Int).length = 0 from Nat.min_zero _] at d
    exact absurd rfl d
  | m :: ms, n :: r, .var k, u, v, _, h, _, _ => by cases h
  | m :: ms, n :: r, .ap f as, u, v, pos, h, hm, d => by
    have key : ∀ (q : List Int) (x : Int) (w : Ter), (Ter.ap f as).at (x :: q) = some w → ∃ a, (Ter.ap f as).step x = some a ∧ a.at q = some w := fun q x w h => by
      cases e : (Ter.ap f as).step x with
      | none => rw [show (Ter.ap f as).at (x :: q) = ((Ter.ap f as).step x).bind fun u => u.at q from rfl, e] at h; cases h
      | some a => exact ⟨a, rfl, by rw [show (Ter.ap f as).at (x :: q) = ((Ter.ap f as).step x).bind fun u => u.at q from rfl, e] at h; exact h⟩
    obtain ⟨a, ea, ha⟩ := key r n u h
    obtain ⟨b, eb, hb⟩ := key ms m v hm
    obtain ⟨h1, h2⟩ := step_ap ea
    obtain ⟨g1, g2⟩ := step_ap eb
    show ((Ter.ap f (as.modify (n - 1).toNat fun a => a.put s r)).step m).bind _ = some v
    rw [step_eq]
    rw [if_pos g1]
    by_cases e : m = n
    · subst e
      rw [h2] at g2
      cases g2
      rw [List.getElem?_modify_eq, h2]
      refine put_beside s ms r a u v (fun k hk => pos k (List.mem_cons_of_mem _ hk)) ha hb fun z => d ?_
      rw [List.length_cons, List.length_cons, Nat.succ_min_succ, List.take_succ_cons, List.take_succ_cons, z]
    · rw [List.getElem?_modify_ne _ _ (show (n - 1).toNat ≠ (m - 1).toNat by omega), g2]
      exact hb
/-- what stands above -/
theorem put_above (s : Ter) : ∀ (ms ns : List Int) (t u v : Ter), t.at ns = some u → t.at ms = some v → ms.length < ns.length → ms.take (min ms.length ns.length) = ns.take (min ms.length ns.length) → ∃ f as bs, v = .ap f as ∧ (t.put s ns).at ms = some (.ap f bs) ∧ bs.length = as.length
  | [], [], _, _, _, _, _, l, _ => absurd l (by simp)
  | [], n :: r, .var k, u, v, h, _, _, _ => by cases h
  | [], n :: r, .ap f as, u, v, h, hv, l, _ => by
    cases (show some _ = some v from hv)
    exact ⟨f, as, _, rfl, rfl, List.length_modify _ _ _⟩
  | m :: ms, [], _, _, _, _, _, l, _ => absurd l (by simp)
  | m :: ms, n :: r, .var k, u, v, h, _, _, _ => by cases h
  | m :: ms, n :: r, .ap f as, u, v, h, hv, l, e => by
    rw [List.length_cons, List.length_cons, Nat.succ_min_succ, List.take_succ_cons, List.take_succ_cons] at e
    obtain ⟨e1, e2⟩ := List.cons.inj e
    subst e1
    have key : ∀ (q : List Int) (x : Int) (w : Ter), (Ter.ap f as).at (x :: q) = some w → ∃ a, (Ter.ap f as).step x = some a ∧ a.at q = some w := fun q x w h => by
      cases e : (Ter.ap f as).step x with
      | none => rw [show (Ter.ap f as).at (x :: q) = ((Ter.ap f as).step x).bind fun u => u.at q from rfl, e] at h; cases h
      | some a => exact ⟨a, rfl, by rw [show (Ter.ap f as).at (x :: q) = ((Ter.ap f as).step x).bind fun u => u.at q from rfl, e] at h; exact h⟩
    obtain ⟨a, ea, ha⟩ := key r m u h
    obtain ⟨b, eb, hb⟩ := key ms m v hv
    obtain ⟨h1, h2⟩ := step_ap ea
    rw [ea] at eb
    cases eb
    obtain ⟨g, xs, ys, rfl, hy, ly⟩ := put_above s ms r a u v ha hb (by simp only [List.length_cons] at l; omega) e2
    refine ⟨g, xs, ys, rfl, ?_, ly⟩
    show ((Ter.ap f (as.modify (m - 1).toNat fun a => a.put s r)).step m).bind _ = _
    rw [step_eq]
    rw [if_pos h1, List.getElem?_modify_eq, h2]
    exact hy
/-- from below: one level of put -/
theorem put_up {s : Ter} {ns ms : List Int} {n : Int} {t : Ter} {f : Str} {as : List Ter} {a : Ter} (ht : t.at ns = some (.ap f as)) (h1 : 1 ≤ n) (ha : as[(n - 1).toNat]? = some a) :
    (Ter.ap f as).put s (n :: ms) = .ap f (as.take (n - 1).toNat ++ a.put s ms :: as.drop ((n - 1).toNat + 1)) := by
  show Ter.ap f (as.modify (n - 1).toNat fun a => a.put s ms) = _
  congr 1
  obtain ⟨hl, e⟩ := List.getElem?_eq_some_iff.mp ha
  rw [List.modify_eq_take_cons_drop hl, e]
/-! ### the walk -/
abbrev Row := List Int × Ter
mutual
def Ter.walk (here : List Int) : Ter → List Row
  | .var k => [(here, .var k)]
  | .ap f as => (here, .ap f as) :: Ter.walks here 1 as
def Ter.walks (here : List Int) (i : Int) : List Ter → List Row
  | [] => []
  | a :: r => a.walk (here ++ [i]) ++ Ter.walks here (i + 1) r
end
theorem walks_app (here : List Int) : ∀ (as bs : List Ter) (i : Int), Ter.walks here i (as ++ bs) = Ter.walks here i as ++ Ter.walks here (i + as.length) bs
  | [], bs, i => by
    show Ter.walks here i bs = [] ++ Ter.walks here (i + (0 : Nat)) bs
    simp
  | a :: r, bs, i => by
    show a.walk (here ++ [i]) ++ Ter.walks here (i + 1) (r ++ bs) = (a.walk (here ++ [i]) ++ Ter.walks here (i + 1) r) ++ Ter.walks here (i + ((r.length + 1 : Nat) : Int)) bs
    rw [walks_app here r bs (i + 1), List.append_assoc, show i + 1 + (r.length : Int) = i + ((r.length + 1 : Nat) : Int) by omega]
mutual
theorem walk_len (here : List Int) : ∀ t : Ter, (t.walk here).length = t.size
  | .var k => rfl
  | .ap f as => by
    show (Ter.walks here 1 as).length + 1 = Ter.sizes as + 1
    rw [walks_len here as 1]
theorem walks_len (here : List Int) : ∀ (ts : List Ter) (i : Int), (Ter.walks here i ts).length = Ter.sizes ts
  | [], _ => rfl
  | t :: r, i => by
    show (t.walk _ ++ Ter.walks here (i + 1) r).length = t.size + Ter.sizes r
    rw [List.length_append, walk_len, walks_len here r]
end
/-- symbols of at most three arguments -/
def ar3 (f : Str) (n : Nat) : Prop := PyData.strOk f = true ∧ n ≤ 3
def anyKey (_ : Key) : Prop := True
theorem at_wf {W : Str → Nat → Prop} {U : Key → Prop} : ∀ (ns : List Int) (t u : Ter), t.wf W U → t.at ns = some u → u.wf W U ∧ u.size ≤ t.size ∧ u.nest + ns.length ≤ t.nest
  | [], t, u, h, e => by
    cases (show some t = some u from e)
    exact ⟨h, Nat.le_refl _, Nat.le_refl _⟩
  | n :: r, .var k, u, h, e => by cases e
  | n :: r, .ap f as, u, h, e => by
    cases e2 : (Ter.ap f as).step n with
    | none => rw [show (Ter.ap f as).at (n :: r) = ((Ter.ap f as).step n).bind fun u => u.at r from rfl, e2] at e; cases e
    | some a =>
      have e : a.at r = some u := by rw [show (Ter.ap f as).at (n :: r) = ((Ter.ap f as).step n).bind fun u => u.at r from rfl, e2] at e; exact e
      obtain ⟨h1, h2⟩ := step_ap e2
      have hm := wfs_get h.2 h2
      obtain ⟨k1, k2, k3⟩ := at_wf r a u hm e
      have s1 := size_le_of h2
      have n1 := nest_le_of h2
      refine ⟨k1, ?_, ?_⟩
      · show _ ≤ Ter.sizes as + 1
        omega
      · show u.nest + (r.length + 1) ≤ Ter.nests as + 1
        omega
mutual
theorem walk_mem (here : List Int) : ∀ (t : Ter), t.wf ar3 anyKey → ∀ x ∈ t.walk here, ∃ q, x.1 = here ++ q ∧ t.at q = some x.2 ∧ ∀ y ∈ q, 1 ≤ y ∧ y ≤ 3
  | .var k, _, x, hx => by
    rw [List.mem_singleton.mp hx]
    exact ⟨[], (List.append_nil _).symm, rfl, fun y hy => by cases hy⟩
  | .ap f as, h, x, hx => by
    rcases List.mem_cons.mp hx with rfl | hx
    · exact ⟨[], (List.append_nil _).symm, rfl, fun y hy => by cases hy⟩
    · obtain ⟨j, a, q, hj, e1, e2, e3⟩ := walks_mem here as 1 (by omega) h.2 x hx
      have lt := (List.getElem?_eq_some_iff.mp hj).1
      have l3 := h.1.2
      refine ⟨(1 + (j : Int)) :: q, e1, ?_, fun y hy => ?_⟩
      · show ((Ter.ap f as).step (1 + (j : Int))).bind _ = _
        rw [step_eq]
        rw [if_pos (by omega), show (1 + (j : Int) - 1).toNat = j by omega, hj]
        exact e2
      · rcases List.mem_cons.mp hy with rfl | hy
        · omega
        · exact e3 y hy
theorem walks_mem (here : List Int) : ∀ (ts : List Ter) (i : Int), 0 ≤ i → Ter.wfs ar3 anyKey ts → ∀ x ∈ Ter.walks here i ts, ∃ (j : Nat) (a : Ter) (q : List Int), ts[j]? = some a ∧ x.1 = here ++ (i + (j : Int)) :: q ∧ a.at q = some x.2 ∧ ∀ y ∈ q, 1 ≤ y ∧ y ≤ 3
  | [], _, _, _, x, hx => by cases hx
  | t :: r, i, hi, h, x, hx => by
    rcases List.mem_append.mp hx with hx | hx
    · obtain ⟨q, e1, e2, e3⟩ := walk_mem (here ++ [i]) t h.1 x hx
      refine ⟨0, t, q, rfl, ?_, e2, e3⟩
      rw [e1, List.append_assoc]
      show here ++ (i :: q) = here ++ (i + ((0 : Nat) : Int)) :: q
      rw [show i + ((0 : Nat) : Int) = i by omega]
    · obtain ⟨j, a, q, hj, e1, e2, e3⟩ := walks_mem here r (i + 1) (by omega) h.2 x hx
      refine ⟨j + 1, a, q, hj, ?_, e2, e3⟩
      rw [e1, show i + 1 + (j : Int) = i + ((j + 1 : Nat) : Int) by omega]
end
/-! ### rows on the heap -/
inductive RowAt (H : Hp) : V → Row → Prop
  | mk {r b : Addr} {x : V} {p : List Int} {u : Ter} : H r = some (.tup [.ref b, x]) → H b = some (.tup (p.map V.int)) → TmAt H x u → RowAt H (.ref r) (p, u)
inductive RowAll (H : Hp) : List V → List Row → Prop
  | nil : RowAll H [] []
  | cons {v : V} {p : Row} {vs : List V} {ps : List Row} : RowAt H v p → RowAll H vs ps → RowAll H (v :: vs) (p :: ps)
theorem RowAt.mono {H H' : Hp} (m : Tups H H') {v : V} {p : Row} (h : RowAt H v p) : RowAt H' v p := by
  cases h with
  | mk e1 e2 e3 => exact .mk (m _ _ e1) (m _ _ e2) (TmAt.mono m _ _ e3)
theorem RowAll.mono {H H' : Hp} (m : Tups H H') : ∀ {vs : List V} {ps : List Row}, RowAll H vs ps → RowAll H' vs ps
  | _, _, .nil => .nil
  | _, _, .cons a r => .cons (a.mono m) (r.mono m)
theorem RowAll.len {H : Hp} : ∀ {vs : List V} {ps : List Row}, RowAll H vs ps → vs.length = ps.length
  | _, _, .nil => rfl
  | _, _, .cons _ r => congrArg (· + 1) r.len
theorem RowAll.app {H : Hp} : ∀ {vs ws : List V} {ps qs : List Row}, RowAll H vs ps → RowAll H ws qs → RowAll H (vs ++ ws) (ps ++ qs)
  | _, _, _, _, .nil, b => b
  | _, _, _, _, .cons a r, b => .cons a (r.app b)
theorem RowAll.get {H : Hp} : ∀ {vs : List V} {ps : List Row} {i : Nat} {v : V}, RowAll H vs ps → vs[i]? = some v → ∃ p, ps[i]? = some p ∧ RowAt H v p
  | _, _, _, _, .nil, h => by cases h
  | _, _, 0, _, .cons a r, h => by
    cases (show some _ = some _ from h)
    exact ⟨_, rfl, a⟩
  | _, _, i + 1, _, .cons a r, h => r.get (i := i) h
/-! ### a position's text -/
def posOk (ns : List Int) : Prop := ns.length ≤ 100 ∧ ∀ y ∈ ns, 0 ≤ y ∧ y < 900
theorem pos_text {ns : List Int} (h : posOk ns) : (∀ y ∈ ns, y.natAbs.log2 < 1920) ∧ (tupleText (ns.map fun y => ((toString y : String) : Str))).length ≤ 1000000 := by
  refine ⟨fun y hy => ?_, ?_⟩
  · have := h.2 y hy
    refine Nat.lt_of_le_of_lt (Nat.log2_le_self _) ?_
    omega
  · have t1 := fmt_text (ns.map fun y => ((toString y : String) : Str))
    have t2 : ∀ l : List Int, (∀ y ∈ l, 0 ≤ y ∧ y < 900) → piled (l.map fun y => ((toString y : String) : Str)) ≤ 10 * l.length := fun l => by
      induction l with
      | nil => exact fun _ => Nat.zero_le _
      | cons y r ih =>
        intro hl
        have i1 := ih fun z hz => hl z (List.mem_cons_of_mem _ hz)
        have i2 := hl y List.mem_cons_self
        have i3 := num_len y i2.1 i2.2
        rw [List.map_cons, piled_cons, List.length_cons]
        omega
    have t3 := t2 ns h.2
    have t4 := h.1
    omega
theorem posOk_walk {t : Ter} {x : Row} (h : t.wf ar3 anyKey) (n : t.nest ≤ 50) (hx : x ∈ t.walk []) : posOk x.1 ∧ t.at x.1 = some x.2 ∧ ∀ y ∈ x.1, 1 ≤ y := by
  obtain ⟨q, e1, e2, e3⟩ := walk_mem [] t h x hx
  have e1 : x.1 = q := e1
  obtain ⟨_, _, k3⟩ := at_wf q t x.2 h e2
  rw [e1]
  exact ⟨⟨by omega, fun y hy => by have := e3 y hy; omega⟩, e2, fun y hy => (e3 y hy).1⟩
end Own
namespace Own
open PySem PySem.Spec PyProof.Rows L2 HT
theorem cut_take (xs : List V) (i : Nat) (h : i ≤ xs.length) : cutV xs none (some (i : Int)) = xs.take i := by
  unfold cutV
  rw [HT.sIx_nat, HT.sIx_none, Nat.min_eq_left h]
  simp
theorem cut_drop (xs : List V) (i : Nat) (h : i ≤ xs.length) : cutV xs (some (i : Int)) none = xs.drop i := by
  unfold cutV
  rw [HT.sIx_nat, HT.sIx_none, Nat.min_eq_left h]
  exact List.take_of_length_le (by rw [List.length_drop]; omega)
theorem TmAll.take {H : Hp} : ∀ {vs : List V} {ts : List Ter} (i : Nat), TmAll H vs ts → TmAll H (vs.take i) (ts.take i)
  | _, _, 0, _ => .nil
  | _, _, i + 1, .nil => .nil
  | _, _, i + 1, .cons a r => .cons a (r.take i)
theorem TmAll.drop {H : Hp} : ∀ {vs : List V} {ts : List Ter} (i : Nat), TmAll H vs ts → TmAll H (vs.drop i) (ts.drop i)
  | _, _, 0, h => h
  | _, _, i + 1, .nil => .nil
  | _, _, i + 1, .cons a r => r.drop i
/-- a position and one with more behind it -/
theorem catA_ints {K : PySem.W.Frag} {H : Hp} {a b : Addr} {ns ms : List Int} {Q : VK} (ha : H a = some (.tup (ns.map V.int))) (hb : H b = some (.tup (ms.map V.int))) (ne : ms ≠ []) (hl : ns.length + ms.length ≤ 1000)
    (q : ∀ (p : Addr) (H' : Hp), Same H H' → H' p = some (.tup ((ns ++ ms).map V.int)) → Q (.ref p) H') : rCatA K (.ref a) (.ref b) H Q := by
  refine ⟨a, b, _, _, rfl, rfl, .inl (.inl ha), .inl (.inl hb), small6 (by rw [List.length_map, List.length_map]; omega), fun z => ?_, fun _ z => ?_, fun _ _ p np => ?_⟩
  · have : ns = [] := List.map_eq_nil_iff.mp z
    subst this
    exact q b H (Same.refl _) hb
  · exact absurd (List.map_eq_nil_iff.mp z) ne
  · refine q p _ (same_new np _) ?_
    rw [upd_same, List.map_append]
end Own
namespace Own
open PySem PySem.Spec PyProof.Rows L2 HT
mutual
theorem wf_true : ∀ t : Ter, t.wf (fun _ _ => True) (fun _ => True)
  | .var _ => trivial
  | .ap _ as => ⟨trivial, wfs_true as⟩
theorem wfs_true : ∀ ts : List Ter, Ter.wfs (fun _ _ => True) (fun _ => True) ts
  | [] => trivial
  | t :: r => ⟨wf_true t, wfs_true r⟩
end
end Own
namespace Own
open PySem PySem.Spec PyProof.Rows L2 HT
theorem sizes_modify (f : Ter → Ter) (n : Nat) (h : ∀ a, (f a).size ≤ a.size + n) : ∀ (as : List Ter) (i : Nat), Ter.sizes (as.modify i f) ≤ Ter.sizes as + n
  | [], i => by rw [List.modify_nil]; exact Nat.zero_le _
  | a :: r, 0 => by
    rw [List.modify_zero_cons]
    have := h a
    show (f a).size + Ter.sizes r ≤ a.size + Ter.sizes r + n
    omega
  | a :: r, i + 1 => by
    rw [List.modify_succ_cons]
    have := sizes_modify f n h r i
    show a.size + Ter.sizes (r.modify i f) ≤ a.size + Ter.sizes r + n
    omega
theorem put_size (s : Ter) : ∀ (ns : List Int) (t : Ter), (t.put s ns).size ≤ t.size + s.size
  | [], t => by cases t <;> exact Nat.le_add_left _ _
  | n :: r, .var k => Nat.le_add_right _ _
  | n :: r, .ap f as => by
    have := sizes_modify (fun a => a.put s r) s.size (fun a => put_size s r a) as (n - 1).toNat
    show Ter.sizes (as.modify (n - 1).toNat fun a => a.put s r) + 1 ≤ Ter.sizes as + 1 + s.size
    omega
theorem eqv_ints : ∀ ns ms : List Int, PyData.eqvAll (ns.map PyData.int) (ms.map PyData.int) = decide (ns = ms)
  | [], [] => rfl
  | [], m :: ms => rfl
  | n :: ns, [] => rfl
  | n :: ns, m :: ms => by
    show ((n == m) && PyData.eqvAll (ns.map PyData.int) (ms.map PyData.int)) = _
    rw [eqv_ints ns ms]
    by_cases h1 : n = m
    · subst h1
      by_cases h2 : ns = ms
      · subst h2
        simp
      · simp [h2]
    · simp [h1]
theorem eqv_tints (ns ms : List Int) : PyData.eqv (.tuple (ns.map PyData.int)) (.tuple (ms.map PyData.int)) = decide (ns = ms) := eqv_ints ns ms
theorem lay_ints : ∀ ns : List Int, PyData.canLayAll0 (ns.map PyData.int) = true ∧ PyData.depthAll (ns.map PyData.int) = 0
  | [] => ⟨rfl, rfl⟩
  | n :: r => by
    obtain ⟨h1, h2⟩ := lay_ints r
    exact ⟨by show (true && PyData.canLayAll0 (r.map PyData.int)) = true; rw [h1]; rfl, by show max 0 (PyData.depthAll (r.map PyData.int)) = 0; rw [h2]; rfl⟩
theorem shaped_tints (ns : List Int) : SeqAt.shaped (.tuple (ns.map PyData.int)) = true := by
  obtain ⟨h1, h2⟩ := lay_ints ns
  show (PyData.canLayAll0 (ns.map PyData.int) && decide (PyData.depthAll (ns.map PyData.int) + 1 ≤ 64)) = true
  rw [h1, h2]
  rfl
/-- the beginning of a position -/
theorem slA_ints {K : PySem.W.Frag} {H : Hp} {a : Addr} {ns : List Int} {n : Nat} {Q : VK} (ha : H a = some (.tup (ns.map V.int))) (hn : n ≤ ns.length)
    (q : ∀ (p : Addr) (H' : Hp), Same H H' → H' p = some (.tup ((ns.take n).map V.int)) → Q (.ref p) H') : rSlA K (.ref a) none (some (n : Int)) H Q := by
  refine ⟨a, _, rfl, .inl (.inl ha), fun z => ?_, fun _ p np => ?_⟩
  · obtain ⟨_, z⟩ := z
    rw [HT.sIx_nat, List.length_map] at z
    refine q a H (Same.refl _) ?_
    rw [ha, show ns.take n = ns from List.take_of_length_le (by omega)]
  · refine q p _ (same_new np _) ?_
    rw [upd_same, cut_take _ _ (by rw [List.length_map]; exact hn), List.map_take]
theorem passLN {X : Cx} (σ : L2.St) : PassesAt (L2N.CX X.prog X.w) X σ ((fun _ => E0 : L2.St → XK) σ) := fun _ _ _ _ _ _ h => by
  obtain ⟨_, _, _, _, _, _, _, _, _, _, _, _, z⟩ := h
  exact z.elim
end Own
namespace Own
open PySem PySem.Spec PyProof.Rows L2 HT
/-! ### positions as a list, by a stack -/
def kids (p : List Int) (i : Int) : List Ter → List Row
  | [] => []
  | a :: r => (p ++ [i], a) :: kids p (i + 1) r
def allWalk (rs : List Row) : List Row := rs.flatMap fun x => x.2.walk x.1
theorem kids_walk (p : List Int) : ∀ (as : List Ter) (i : Int), allWalk (kids p i as) = Ter.walks p i as
  | [], _ => rfl
  | a :: r, i => by
    show a.walk (p ++ [i]) ++ allWalk (kids p (i + 1) r) = _
    rw [kids_walk p r (i + 1)]
    rfl
theorem kids_len (p : List Int) : ∀ (as : List Ter) (i : Int), (kids p i as).length = as.length
  | [], _ => rfl
  | _ :: r, i => congrArg (· + 1) (kids_len p r (i + 1))
theorem kids_get (p : List Int) : ∀ (as : List Ter) (i : Int) (j : Nat) (a : Ter), as[j]? = some a → (kids p i as)[j]? = some (p ++ [i + (j : Int)], a)
  | [], _, _, _, h => by cases h
  | b :: r, i, 0, a, h => by
    cases (show some b = some a from h)
    show some (p ++ [i], b) = some (p ++ [i + ((0 : Nat) : Int)], b)
    rw [show i + ((0 : Nat) : Int) = i by omega]
  | b :: r, i, j + 1, a, h => by
    show (kids p (i + 1) r)[j]? = _
    rw [kids_get p r (i + 1) j a h, show i + 1 + (j : Int) = i + ((j + 1 : Nat) : Int) by omega]
def rsize (rs : List Row) : Nat := Ter.sizes (rs.map (·.2))
theorem rsize_app (a b : List Row) : rsize (a ++ b) = rsize a + rsize b := by
  unfold rsize
  rw [List.map_append, Ter.sizes_app]
theorem rsize_rev (a : List Row) : rsize a.reverse = rsize a := by
  induction a with
  | nil => rfl
  | cons x r ih =>
    rw [List.reverse_cons, rsize_app, ih]
    show rsize r + (x.2.size + 0) = x.2.size + rsize r
    omega
theorem kids_size (p : List Int) : ∀ (as : List Ter) (i : Int), rsize (kids p i as) = Ter.sizes as
  | [], _ => rfl
  | a :: r, i => by
    have := kids_size p r (i + 1)
    show a.size + rsize (kids p (i + 1) r) = a.size + Ter.sizes r
    rw [this]
/-- what positions keeps -/
def posOf (wv : Bool) (rs : List Row) : List (List Int) := (rs.filter fun x => wv || !x.2.isVar).map (·.1)
theorem posOf_app (wv : Bool) (a b : List Row) : posOf wv (a ++ b) = posOf wv a ++ posOf wv b := by
  unfold posOf
  rw [List.filter_append, List.map_append]
theorem posOf_true (a : List Row) : posOf true a = a.map (·.1) := by
  unfold posOf
  have e : (a.filter fun x => true || !x.2.isVar) = a := List.filter_eq_self.mpr fun x _ => rfl
  rw [e]
theorem walk_ap (p : List Int) (f : Str) (as : List Ter) : (Ter.ap f as).walk p = (p, .ap f as) :: allWalk (kids p 1 as) := by rw [kids_walk]; rfl
/-! ### positions on the heap -/
inductive PosAt (H : Hp) : V → List Int → Prop
  | mk {b : Addr} {p : List Int} : H b = some (.tup (p.map V.int)) → PosAt H (.ref b) p
inductive PosAll (H : Hp) : List V → List (List Int) → Prop
  | nil : PosAll H [] []
  | cons {v : V} {p : List Int} {vs : List V} {ps : List (List Int)} : PosAt H v p → PosAll H vs ps → PosAll H (v :: vs) (p :: ps)
theorem PosAt.mono {H H' : Hp} (m : Tups H H') {v : V} {p : List Int} (h : PosAt H v p) : PosAt H' v p := by
  cases h with
  | mk e => exact .mk (m _ _ e)
theorem PosAll.mono {H H' : Hp} (m : Tups H H') : ∀ {vs : List V} {ps : List (List Int)}, PosAll H vs ps → PosAll H' vs ps
  | _, _, .nil => .nil
  | _, _, .cons a r => .cons (a.mono m) (r.mono m)
theorem PosAll.len {H : Hp} : ∀ {vs : List V} {ps : List (List Int)}, PosAll H vs ps → vs.length = ps.length
  | _, _, .nil => rfl
  | _, _, .cons _ r => congrArg (· + 1) r.len
theorem PosAll.app {H : Hp} : ∀ {vs ws : List V} {ps qs : List (List Int)}, PosAll H vs ps → PosAll H ws qs → PosAll H (vs ++ ws) (ps ++ qs)
  | _, _, _, _, .nil, b => b
  | _, _, _, _, .cons a r, b => .cons a (r.app b)
theorem PosAll.get {H : Hp} : ∀ {vs : List V} {ps : List (List Int)} {i : Nat} {v : V}, PosAll H vs ps → vs[i]? = some v → ∃ p, ps[i]? = some p ∧ PosAt H v p
  | _, _, _, _, .nil, h => by cases h
  | _, _, 0, _, .cons a r, h => by
    cases (show some _ = some _ from h)
    exact ⟨_, rfl, a⟩
  | _, _, i + 1, _, .cons a r, h => r.get (i := i) h
def posD (p : List Int) : PyData := .tuple (p.map PyData.int)
theorem dp_poss {K : PySem.W.Frag} {H : Hp} : ∀ {vs : List V} {ps : List (List Int)}, PosAll H vs ps → DpAll K H vs (ps.map posD)
  | _, _, .nil => .nil
  | _, _, .cons (.mk e) r => .cons (.tup (.inl (.inl e)) (dp_ints _)) (dp_poss r)
theorem fits_poss {ps : List (List Int)} (n : Nat) (h : ps.length ≤ 1000000) (hl : ∀ p ∈ ps, p.length ≤ 1000000) : fitsD (n + 3) (.list (ps.map posD)) := by
  refine ⟨by rw [List.length_map]; exact h, fun d hd => ?_⟩
  obtain ⟨p, hp, rfl⟩ := List.mem_map.mp hd
  refine ⟨by rw [List.length_map]; exact hl p hp, fun d hd => ?_⟩
  obtain ⟨x, _, rfl⟩ := List.mem_map.mp hd
  exact trivial
/-- the last row of a stack -/
theorem RowAll.last {H : Hp} : ∀ {vs : List V} {rs : List Row}, RowAll H vs rs → vs ≠ [] → ∃ vs' v rs' r, vs = vs' ++ [v] ∧ rs = rs' ++ [r] ∧ RowAll H vs' rs' ∧ RowAt H v r
  | _, _, .nil, h => absurd rfl h
  | _, _, .cons a .nil, _ => ⟨[], _, [], _, rfl, rfl, .nil, a⟩
  | _, _, .cons a (.cons b r), _ => by
    obtain ⟨vs', v, rs', x, e1, e2, h1, h2⟩ := RowAll.last (.cons b r) (by simp)
    exact ⟨_ :: vs', v, _ :: rs', x, by rw [e1]; rfl, by rw [e2]; rfl, .cons a h1, h2⟩
/-! ### leaves -/
def isLeaf : Ter → Bool
  | .var _ => true
  | .ap _ as => as.isEmpty
mutual
theorem has_leaf (here : List Int) : ∀ t : Ter, ∃ x ∈ t.walk here, isLeaf x.2 = true
  | .var k => ⟨_, List.mem_singleton.mpr rfl, rfl⟩
  | .ap f [] => ⟨_, List.mem_cons_self, rfl⟩
  | .ap f (a :: r) => by
    obtain ⟨x, hx, hl⟩ := has_leaf (here ++ [1]) a
    exact ⟨x, List.mem_cons_of_mem _ (List.mem_append_left _ hx), hl⟩
end
def leafOf (rs : List Row) : List Row := rs.filter fun x => isLeaf x.2
theorem leaf_step {t u : Ter} {ns : List Int} (h : t.at ns = some u) (hl : isLeaf u = true) (n : Int) (ms : List Int) : t.at (ns ++ (n :: ms)) = none := by
  rw [at_app, h]
  show (u.step n).bind _ = none
  cases u with
  | var k => rfl
  | ap f as =>
    have e : as = [] := by
      cases as with
      | nil => rfl
      | cons a r => cases hl
    subst e
    rw [step_eq]
    split <;> rfl
end Own
set_option maxHeartbeats 2000000
namespace Own
open PySem PySem.Spec PyProof.Rows L2 HT
/-! ### == of deep data -/
section
variable {X : Cx}
def rEqDeep (K : PySem.W.Frag) : R2 := fun x y H Q => ∃ d e, Dp K H x d ∧ Dp K H y e ∧ d.canLay0 = true ∧ e.canLay0 = true ∧ d.depth ≤ 150 ∧ Q (.bl (PyData.eqv d e)) H
theorem op_eqDeep (room : X.A.units + 150 < cLine) : OpR X (compareOp .Eq) (rEqDeep X.K) := by
  intro pn t τ G p r vp vr Q J kp kr
  rintro ⟨d, e, h1, h2, c1, c2, dl, q⟩
  obtain ⟨_, g1⟩ := Dp.reads J d p vp h1 kp
  obtain ⟨_, g2⟩ := Dp.reads J e r vr h2 kr
  exact SeqAt.compareEq_reads g1 g2 c1 c2 (by have := Nat.min_le_left d.depth e.depth; omega) ⟨.bl _, G, J, rfl, q⟩
/-! ### != of two dicts that hold the same data -/
theorem hits_data {pn : List (Addr × Obj)} {τ : L2.St} {G : Hp} {t : Shared} (J : Inv X pn τ G t) {A : Around} (room : A.units + 64 < cLine) {ls : List (Key × V)} {wb : List (Key × Value)} (kb : KV ls wb) {ks : List (Key × V)} {wa : List (Key × Value)} (ka : KV ks wa) :
    (∀ p ∈ ks, ∃ u d, valV ls p.1 = some u ∧ Dp X.K G p.2 d ∧ Dp X.K G u d ∧ SeqAt.shaped d = true ∧ PyData.eqv d d = true) → PySem.W.KeqHits A t wb wa true := by
  unfold KV at ka
  induction ka with
  | nil => exact fun _ => .nil
  | @cons e1 e2 _ _ g _ ih =>
    intro all
    obtain ⟨kk, uu⟩ := e2
    obtain ⟨g1, g2⟩ := g
    have g1 : e1.1 = kk := g1
    obtain ⟨u, d, f1, f2, f3, f4, f5⟩ := all e1 List.mem_cons_self
    have ro := kb.val e1.1
    rw [f1] at ro
    obtain ⟨z, hz, rz⟩ := RelO.some_of ro
    rw [g1] at hz
    obtain ⟨_, r1⟩ := Dp.reads J d _ _ f2 g2
    obtain ⟨_, r2⟩ := Dp.reads J d _ _ f3 rz
    have eq1 := SeqAt.eqAt_reads d d A t _ _ _ _ r1 r2 (SeqAt.canLay_of_shaped f4) (SeqAt.canLay_of_shaped f4) (SeqAt.room_of_shaped f4 room)
    rw [f5] at eq1
    show PySem.W.KeqHits A t wb ((kk, uu) :: _) (true && true)
    exact .hit hz eq1 (ih fun p m => all p (List.mem_cons_of_mem _ m))
def rNeDct (K : PySem.W.Frag) : R2 := fun x y H Q => ∃ a b ks ls, x = .ref a ∧ y = .ref b ∧ H a = some (.dK ks) ∧ H b = some (.dK ls) ∧ ks.length = ls.length ∧
  (∀ p ∈ ks, ∃ u d, valV ls p.1 = some u ∧ Dp K H p.2 d ∧ Dp K H u d ∧ SeqAt.shaped d = true ∧ PyData.eqv d d = true) ∧ Q (.bl false) H
theorem op_neDct (room : X.A.units + 65 < cLine) : OpR X (compareOp .NotEq) (rNeDct X.K) := by
  intro pn t τ G p r vp vr Q J kp kr
  rintro ⟨a, b, ks, ls, rfl, rfl, ea, eb, len, all, q⟩
  cases (show vp = Value.ref a from kp)
  cases (show vr = Value.ref b from kr)
  obtain ⟨_, ya, wa, ra, da⟩ := (show ObjOk X.prog X.w G t.heap a (.dK ks) from J.hok a _ ea)
  obtain ⟨_, yb, wb, rb, db⟩ := (show ObjOk X.prog X.w G t.heap b (.dK ls) from J.hok b _ eb)
  have el : wa.length = wb.length := ra.length.symm.trans (len.trans rb.length)
  refine PySem.W.keq_ne (knd := mixKind X.prog X.w) (r := true) ya yb da db (by omega) (fun _ => hits_data J (A := X.A.in1) (by show X.A.units + 1 + 64 < cLine; omega) rb ra all) ?_
  rw [el, beq_self_eq_true]
  exact ⟨.bl false, G, J, rfl, q⟩
end
/-! ### a dict comprehension over what is walked -/
theorem dc_it {J : It} {n : Nat} {G : Hp → Prop} {Y : Nat → Hp → V → Hp → Prop} (w : Walk J n G Y) {g : TG} {tt : TT} {tk tv : TE} {vs : List Nat} {τ : L2.St} {F1 : Hp} {D : Addr} {Qd : Hp → Prop} (Pv : Nat → Hp → Prop) (h0 : Pv 0 (upd F1 D (.dK []))) (hG : ∀ i F, i ≤ n → Pv i F → G F)
    (hs : ∀ i x F F2, i < n → Pv i F → Y i F x F2 → g x (wipe τ vs) F2 fun τ3 F3 => wipe τ3 vs = wipe τ vs ∧ tt τ3 F3 fun b F4 =>
      if b = true then tk τ3 F4 fun y F5 => tv τ3 F5 fun z F6 => ∃ kvs k, y = kV k ∧ F6 D = some (.dK kvs) ∧ kvs.length < sizeLine ∧ Pv (i + 1) (upd F6 D (.dK (putK kvs k z))) else Pv (i + 1) F4) (hd : ∀ F, Pv n F → Qd F) :
    ∃ W : Nat → Nat → Hp → Prop, (∃ m, W 0 m (upd F1 D (.dK []))) ∧ ∀ i m F, W i m F →
      (J.stop i F ∧ Qd F) ∨ (J.go i F ∧ ∃ Nx : Hp → Prop, (∀ F2, Nx F2 → ∃ m', m' < m ∧ W (i + 1) m' F2) ∧ ∀ x F2, J.yld i F x F2 → g x (wipe τ vs) F2 fun τ3 F3 => wipe τ3 vs = wipe τ vs ∧ tt τ3 F3 fun b F4 =>
        if b = true then tk τ3 F4 fun y F5 => tv τ3 F5 fun z F6 => ∃ kvs k, y = kV k ∧ F6 D = some (.dK kvs) ∧ kvs.length < sizeLine ∧ Nx (upd F6 D (.dK (putK kvs k z))) else Nx F4) := by
  refine ⟨fun i m F => m = n - i ∧ i ≤ n ∧ Pv i F, ⟨n, (Nat.sub_zero n).symm, Nat.zero_le _, h0⟩, ?_⟩
  rintro i m F ⟨rfl, le, pv⟩
  have gf := hG i F le pv
  rcases Nat.lt_or_eq_of_le le with lt | rfl
  · exact .inr ⟨w.goes i F lt gf, Pv (i + 1), fun F2 p2 => ⟨_, by omega, rfl, lt, p2⟩, fun x F2 y => hs i x F F2 lt pv (w.yields i F x F2 lt gf y)⟩
  · exact .inl ⟨w.stops F gf, hd F pv⟩
/-! ### several except clauses, named or not -/
abbrev HdT := Value × Option Nat × (Addr → Value → Option Addr → TS)
def wHds (K : PySem.W.Frag) (Wout : WX) (D : Ends) : List HdT → WX
  | [] => Wout
  | (c, none, ts) :: r => fun cls d σ H => ∃ b, PySem.W.exmOne K cls c = some b ∧ (b = true → ∀ a, H a = none → ts a cls d D σ H) ∧ (b = false → wHds K Wout D r cls d σ H)
  | (c, some i, ts) :: r => fun cls d σ H => ∃ b, PySem.W.exmOne K cls c = some b ∧ (b = true → ∀ a, H a = none → ts a cls d { nx := fun τ G => D.nx (τ.set i none) G, rt := D.rt, bk := fun τ G => D.bk (τ.set i none) G, ct := fun τ G => D.ct (τ.set i none) G } (σ.set i (some (.ref a))) H) ∧
      (b = false → wHds K Wout D r cls d σ H)
inductive Hds (X : Cx) : List ExceptHandler → List HdT → Prop
  | nil : Hds X [] []
  | one {x : Str} {c : Value} {ts : Addr → Value → Option Addr → TS} {b₀ : Stmt} {suite : List Stmt} {np pp : Pos} {hds : List ExceptHandler} {l : List HdT} (hc : Names X x c)
      (hsu : ∀ (a : Addr) (oe : Obj) (cls : Value) (d : Option Addr) (pn : List (Addr × Obj)), L2N.Zn cls d oe → (∃ vs, oe.data = .fields vs) → PSs (X.suite a ((a, oe) :: pn)) (b₀ :: suite) (ts a cls d)) (r : Hds X hds l) :
      Hds X (.ExceptHandler (some (.Name x np)) none (b₀ :: suite) pp :: hds) ((c, none, ts) :: l)
  | as {x n : Str} {c : Value} {i : Nat} {ts : Addr → Value → Option Addr → TS} {b₀ : Stmt} {suite : List Stmt} {np pp : Pos} {hds : List ExceptHandler} {l : List HdT} (hi : X.N[i]? = some n) (hln : X.env.kindOf n = some .local) (hc : Names X x c)
      (hsu : ∀ (a : Addr) (oe : Obj) (cls : Value) (d : Option Addr) (pn : List (Addr × Obj)), L2N.Zn cls d oe → (∃ vs, oe.data = .fields vs) → PSs (X.suite a ((a, oe) :: pn)) (b₀ :: suite) (ts a cls d)) (r : Hds X hds l) :
      Hds X (.ExceptHandler (some (.Name x np)) (some n) (b₀ :: suite) pp :: hds) ((c, some i, ts) :: l)
section
variable {X : Cx} {body : List Stmt} {h₀ : ExceptHandler} {hds : List ExceptHandler} {l : List HdT} {pos : Pos} {tb : WX → TS} {Wout : WX}
theorem ps_try_hds (hs : X.stack = X.env :: X.outer) (hf : X.env.frame = some X.env.locals) (nd : X.N.Nodup) (tk : L2N.Takes X Wout)
    (hb : ∀ (W : WX) (pn : List (Addr × Obj)) (xe : Value → Shared → Prop), L2N.Takes (X.tr pn xe) W → PassesOwn (model X.prog X.w) X.A X.env xe → PSs (X.tr pn xe) body (tb W))
    (hh : Hds X (h₀ :: hds) l) : PS X (.Try body (h₀ :: hds) [] [] pos) (fun D σ H => tb (wHds X.K Wout D l) D σ H) := by
  refine ⟨fun pn t τ G D J h => ?_⟩
  have okJ := J.ok
  have frs0 : X.A.frames = some (X.env :: X.outer) := okJ.frames.trans (congrArg some hs)
  refine wpAny_Try_except ?_
  have run := (hb (wHds X.K Wout D l) (X.pn ++ pn) (fun e t1 => wpAny (model X.prog X.w) X.A (noteFrame e X.env) (fun _ t2 => wpAny (model X.prog X.w) X.A (setFlight e none) (fun _ t3 => wpAny (model X.prog X.w) X.A (handleBy e X.env (h₀ :: hds)) (SP X pn D) X.xe t3) X.xe t2) X.xe t1) (fun u t9 air => ?_) PassesOwn.looking).run [] t τ G D (J.toTry _) h
  · refine wpAny_mono run (fun fl t1 sp => ?_) (fun _ _ z => z)
    cases fl with
    | next => obtain ⟨τ2, G2, J2, q⟩ := sp; exact wpAny_execs_nil ⟨_, _, J2.ofTry okJ, q⟩
    | brk => obtain ⟨τ2, G2, J2, q⟩ := sp; exact ⟨_, _, J2.ofTry okJ, q⟩
    | cont => obtain ⟨τ2, G2, J2, q⟩ := sp; exact ⟨_, _, J2.ofTry okJ, q⟩
    | ret u => obtain ⟨v, τ2, G2, J2, r, q⟩ := sp; exact ⟨v, _, _, J2.ofTry okJ, r, q⟩
  -- caught
  obtain ⟨x, B, t5, pn5, τ5, G5, cls, d, rfl, K5, newB, up5, sky5, nx5, os5, ag5, wish⟩ := air
  have J5 : Inv X pn τ5 G5 t5 := K5.ofTry okJ
  rw [show (X.tr (X.pn ++ pn) _).stack = X.env :: X.outer from hs] at sky5
  show wpAny (model X.prog X.w) X.A (noteFrame (.ref x) X.env) _ _ _
  refine L2N.Sky.land L2N.Zn.steady frs0 hf sky5 fun hp6 land6 up6 => ?_
  have J6 : Inv X pn τ5 G5 { t9 with heap := hp6 } := J5.landed newB land6.1 (up5.trans up6) os5 ag5
  obtain ⟨o6, w6, at6, z6, f6⟩ := land6.there
  have apart : x ∉ frs (X.env :: X.outer) := fun m => by
    obtain ⟨_, o8, at8, n8⟩ := land6.2.2.1.mem m
    cases at6.symm.trans at8
    exact n8 _ f6
  have apL : x ≠ X.env.locals := fun z => apart (List.mem_filterMap.mpr ⟨X.env, List.mem_cons_self, hf.trans (congrArg some z.symm)⟩)
  have apF : x ∉ X.fs := fun m => by
    obtain ⟨e, me, q⟩ := List.mem_filterMap.mp m
    exact apart (List.mem_filterMap.mpr ⟨e, List.mem_cons_of_mem _ me, q⟩)
  have S6 := J6.suite at6 f6 nx5 apL apF
  have test : ∀ {y : Str} {c : Value} {np : Pos} {Q E : Value → Shared → Prop}, Names X y c → Q c { t9 with heap := hp6 } → wpAny (model X.prog X.w) (X.A.mark (some (.ref x))) (eval (.Name y np) X.env) Q E { t9 with heap := hp6 } := fun {y c np Q E} nm q => by
    rcases nm with ⟨n1, n2, n3 | ⟨n3, n4, n5⟩⟩
    · exact ld_glob (X := X.suite x ((x, o6) :: (X.pn ++ pn))) S6 n1 n3 q n2
    · exact ld_blt (X := X.suite x ((x, o6) :: (X.pn ++ pn))) S6 n1 n3 n4 q n5 n2
  have looks : PySem.W.Looks (model X.prog X.w) hp6 (typeOf (.ref x)) cls := fun A Q E s k q => wpAny_typeOf_ref (k _ _ at6) (z6.1.symm ▸ q)
  have go : ∀ {hs2 : List ExceptHandler} {l2 : List HdT}, Hds X hs2 l2 → wHds X.K Wout D l2 cls d τ5 G5 → wpAny (model X.prog X.w) X.A (handleBy (.ref x) X.env hs2) (SP X pn D) X.xe { t9 with heap := hp6 } := by
    intro hs2 l2 hk
    induction hk with
    | nil =>
      intro out
      refine wpAny_handleBy_nil ?_
      obtain ⟨_, _, _, o7, w7, T, oT, _, at7, _, f7, tb7, _⟩ := id land6
      unfold PySem.passOn
      refine wpAny_bind (wpAny_field at7 f7 tb7 ?_)
      rw [if_neg (show ¬ ((Value.ref T == Value.none) = true) from fun z => by simp at z)]
      have leave : wpAny (model X.prog X.w) X.A (setFlight (.ref x) X.env.frame) (fun _ t8 => wpAny (model X.prog X.w) X.A (throw (.ref x) : Sem Flow) (SP X pn D) X.xe t8) X.xe { t9 with heap := hp6 } := by
        rw [hf]
        refine HandSPX.setFlight_upZ land6 fun hp8 in8 up8 => wpAny_throw (tk _ _ ⟨x, B, t5, pn, τ5, G5, cls, d, rfl, J5, newB, (up5.trans up6).trans up8, .inr (.inr (hs.symm ▸ in8)), nx5, os5, ag5, out⟩)
      first | exact wpAny_bind (wpAny_pure (wpAny_bind leave)) | exact wpAny_bind leave
    | @one y c ts b₀ suite np pp hds3 l3 hc hsu r ih =>
      rintro ⟨b, hb1, yes, no⟩
      refine wpAny_handleBy_cons (codeAny_handlers_test ?_) (by intro z; cases z)
      refine test hc ((PySem.W.exm_one (M := model X.prog X.w) J6.kIn looks hb1).here ?_)
      cases b with
      | false =>
        show wpAny _ X.A (handleBy (.ref x) X.env hds3) _ _ _
        exact ih (no rfl)
      | true =>
        refine codeAny_handlers_suite (HandSPX.lands_againZ land6 fun hp8 land8 up8 => ?_)
        have J8 : Inv X pn τ5 G5 { t9 with heap := hp8 } := J5.landed newB land8.1 ((up5.trans up6).trans up8) os5 ag5
        obtain ⟨o8, w8, at8, z8, f8⟩ := land8.there
        refine wpAny_mono ((hsu x o8 cls d (X.pn ++ pn) z8 ⟨w8, f8⟩).run [] _ _ G5 _ (J8.suite at8 f8 nx5 apL apF) (yes rfl x nx5)) (fun fl t1 sp => ?_) (fun _ _ z => z.elim)
        cases fl with
        | next => obtain ⟨τ2, G2, S2, q⟩ := sp; exact ⟨_, _, S2.unsuite okJ, q⟩
        | brk => obtain ⟨τ2, G2, S2, q⟩ := sp; exact ⟨_, _, S2.unsuite okJ, q⟩
        | cont => obtain ⟨τ2, G2, S2, q⟩ := sp; exact ⟨_, _, S2.unsuite okJ, q⟩
        | ret u => obtain ⟨v2, τ2, G2, S2, r2, q⟩ := sp; exact ⟨_, _, _, S2.unsuite okJ, r2, q⟩
    | @as y n c i ts b₀ suite np pp hds3 l3 hi hln hc hsu r ih =>
      rintro ⟨b, hb1, yes, no⟩
      refine wpAny_handleBy_cons (codeAny_handlers_test ?_) (by intro z; cases z)
      refine test hc ((PySem.W.exm_one (M := model X.prog X.w) J6.kIn looks hb1).here ?_)
      cases b with
      | false =>
        show wpAny _ X.A (handleBy (.ref x) X.env hds3) _ _ _
        exact ih (no rfl)
      | true =>
        refine codeAny_handlers_suite_as (HandSPX.lands_againZ land6 fun hp8 land8 up8 => ?_)
        have J8 : Inv X pn τ5 G5 { t9 with heap := hp8 } := J5.landed newB land8.1 ((up5.trans up6).trans up8) os5 ag5
        obtain ⟨o8, w8, at8, z8, f8⟩ := land8.there
        refine store_ok (X := X.suite x ((x, o8) :: (X.pn ++ pn))) (v := .ref x) (J8.suite at8 f8 nx5 apL apF) nd hi (.inl hln) rfl (fun t7 S7 => ?_) (.inr hln)
        refine wpAny_mono ((hsu x o8 cls d (X.pn ++ pn) z8 ⟨w8, f8⟩).run [] t7 _ G5 _ S7 (yes rfl x nx5)) (fun fl t1 sp => ?_) (fun _ _ z => z.elim)
        have fin : ∀ {τ2 : L2.St} {G2 : Hp} {Q : Shared → Prop}, Inv (X.suite x ((x, o8) :: (X.pn ++ pn))) [] τ2 G2 t1 → (∀ t2, Inv X pn (τ2.set i none) G2 t2 → Q t2) → wpAny (model X.prog X.w) X.A (do bindName X.env n .none; unbindBehindTheSuite X.env n pp) (fun _ t2 => Q t2) X.xe t1 := fun S2 hq => gone_ok (S2.unsuite okJ) nd hi hln hq
        cases fl with
        | next => obtain ⟨τ2, G2, S2, q⟩ := sp; exact fin S2 fun t2 J2 => ⟨_, _, J2, q⟩
        | brk => obtain ⟨τ2, G2, S2, q⟩ := sp; exact fin S2 fun t2 J2 => ⟨_, _, J2, q⟩
        | cont => obtain ⟨τ2, G2, S2, q⟩ := sp; exact fin S2 fun t2 J2 => ⟨_, _, J2, q⟩
        | ret u => obtain ⟨v2, τ2, G2, S2, r2, q⟩ := sp; exact fin S2 fun t2 J2 => ⟨_, _, _, J2, r2, q⟩
  exact go hh wish
end
end Own
set_option maxHeartbeats 2000000
namespace Own
open PySem PySem.Spec PyProof.Rows L2 HT
/-! ### substitutions -/
abbrev Sb := List (Key × Ter)
def Sb.look : Sb → Key → Option Ter
  | [], _ => none
  | e :: r, k => if e.1 = k then some e.2 else Sb.look r k
def Sb.has (θ : Sb) (k : Key) : Bool := (Sb.look θ k).isSome
def Sb.keys (θ : Sb) : List Key := θ.map (·.1)
mutual
def Ter.sub (θ : Sb) : Ter → Ter
  | .var k => (Sb.look θ k).getD (.var k)
  | .ap f as => .ap f (Ter.subs θ as)
def Ter.subs (θ : Sb) : List Ter → List Ter
  | [] => []
  | a :: r => a.sub θ :: Ter.subs θ r
end
theorem subs_len (θ : Sb) : ∀ as : List Ter, (Ter.subs θ as).length = as.length
  | [] => rfl
  | a :: r => congrArg (· + 1) (subs_len θ r)
theorem subs_app (θ : Sb) : ∀ as bs : List Ter, Ter.subs θ (as ++ bs) = Ter.subs θ as ++ Ter.subs θ bs
  | [], _ => rfl
  | a :: r, bs => congrArg (a.sub θ :: ·) (subs_app θ r bs)
theorem slook_mem : ∀ {θ : Sb} {k : Key} {t : Ter}, Sb.look θ k = some t → (k, t) ∈ θ
  | e :: r, k, t, h => by
    obtain ⟨a, b⟩ := e
    unfold Sb.look at h
    by_cases c : a = k
    · rw [if_pos c] at h
      cases h
      subst c
      exact List.mem_cons_self
    · rw [if_neg c] at h
      exact List.mem_cons_of_mem _ (slook_mem h)
theorem look_not : ∀ {θ : Sb} {k : Key}, Sb.look θ k = none → k ∉ Sb.keys θ
  | [], _, _ => fun z => by cases z
  | e :: r, k, h => by
    unfold Sb.look at h
    by_cases c : e.1 = k
    · rw [if_pos c] at h; cases h
    · rw [if_neg c] at h
      intro z
      rcases List.mem_cons.mp z with z | z
      · exact c z.symm
      · exact look_not h z
theorem look_key : ∀ {θ : Sb} {k : Key}, k ∉ Sb.keys θ → Sb.look θ k = none
  | [], _, _ => rfl
  | e :: r, k, h => by
    unfold Sb.look
    have h1 : ¬ e.1 = k := fun z => h (z ▸ List.mem_cons_self)
    rw [if_neg h1]
    exact look_key fun z => h (List.mem_cons_of_mem _ z)
theorem look_at : ∀ {θ : Sb} {k : Key} {t : Ter}, (Sb.keys θ).Nodup → (k, t) ∈ θ → Sb.look θ k = some t
  | e :: r, k, t, nd, h => by
    have nd : e.1 ∉ Sb.keys r ∧ (Sb.keys r).Nodup := List.nodup_cons.mp nd
    unfold Sb.look
    rcases List.mem_cons.mp h with rfl | h
    · exact if_pos rfl
    · have : ¬ e.1 = k := fun z => nd.1 (z ▸ List.mem_map_of_mem (f := fun e : Key × Ter => e.1) h)
      rw [if_neg this]
      exact look_at nd.2 h
theorem look_app : ∀ (a b : Sb) (k : Key), Sb.look (a ++ b) k = (Sb.look a k).or (Sb.look b k)
  | [], _, _ => rfl
  | e :: r, b, k => by
    show (if e.1 = k then some e.2 else Sb.look (r ++ b) k) = ((if e.1 = k then some e.2 else Sb.look r k).or (Sb.look b k))
    by_cases c : e.1 = k
    · rw [if_pos c, if_pos c]; rfl
    · rw [if_neg c, if_neg c]; exact look_app r b k
theorem look_map (g : Ter → Ter) : ∀ (a : Sb) (k : Key), Sb.look (a.map fun e => (e.1, g e.2)) k = (Sb.look a k).map g
  | [], _ => rfl
  | e :: r, k => by
    show (if e.1 = k then some (g e.2) else Sb.look (r.map fun e => (e.1, g e.2)) k) = ((if e.1 = k then some e.2 else Sb.look r k).map g)
    by_cases c : e.1 = k
    · rw [if_pos c, if_pos c]; rfl
    · rw [if_neg c, if_neg c]; exact look_map g r k
theorem keys_filter_sub {p : Key × Ter → Bool} {θ : Sb} {k : Key} (h : k ∈ Sb.keys (θ.filter p)) : k ∈ Sb.keys θ := by
  obtain ⟨e, he, h2⟩ := List.mem_map.mp h
  exact List.mem_map.mpr ⟨e, (List.mem_filter.mp he).1, h2⟩
theorem keys_filter_nd {p : Key × Ter → Bool} {θ : Sb} (h : (Sb.keys θ).Nodup) : (Sb.keys (θ.filter p)).Nodup := List.Sublist.nodup (List.Sublist.map _ List.filter_sublist) h
theorem look_filter (p : Key × Ter → Bool) : ∀ (θ : Sb) (k : Key), (Sb.keys θ).Nodup → Sb.look (θ.filter p) k = (Sb.look θ k).bind fun t => if p (k, t) = true then some t else none
  | [], _, _ => rfl
  | e :: r, k, nd => by
    obtain ⟨a, t⟩ := e
    have nd : a ∉ Sb.keys r ∧ (Sb.keys r).Nodup := List.nodup_cons.mp nd
    show Sb.look (List.filter p ((a, t) :: r)) k = (if a = k then some t else Sb.look r k).bind _
    by_cases c : a = k
    · subst c
      rw [if_pos rfl]
      show _ = if p (a, t) = true then some t else none
      by_cases q : p (a, t) = true
      · rw [List.filter_cons_of_pos q, if_pos q]
        exact if_pos rfl
      · rw [List.filter_cons_of_neg q, if_neg q]
        exact look_key fun z => nd.1 (keys_filter_sub z)
    · rw [if_neg c]
      by_cases q : p (a, t) = true
      · rw [List.filter_cons_of_pos q]
        show (if a = k then some t else Sb.look (List.filter p r) k) = _
        rw [if_neg c]
        exact look_filter p r k nd.2
      · rw [List.filter_cons_of_neg q]
        exact look_filter p r k nd.2
/-- a variable bound to itself -/
def triv (e : Key × Ter) : Bool := match e.2 with
  | .var k => decide (k = e.1)
  | .ap _ _ => false
theorem triv_var {k : Key} {t : Ter} (h : triv (k, t) = true) : t = .var k := by
  unfold triv at h
  cases t with
  | var j => exact congrArg Ter.var (of_decide_eq_true h)
  | ap f as => cases h
def Sb.comp (θ η : Sb) : Sb := ((θ.map fun e => (e.1, e.2.sub η)) ++ η.filter fun e => !Sb.has θ e.1).filter fun e => !triv e
theorem keys_map (θ η : Sb) : Sb.keys (θ.map fun e => (e.1, e.2.sub η)) = Sb.keys θ := by
  unfold Sb.keys
  rw [List.map_map]
  rfl
theorem keys_union {θ η : Sb} (h1 : (Sb.keys θ).Nodup) (h2 : (Sb.keys η).Nodup) : (Sb.keys ((θ.map fun e => (e.1, e.2.sub η)) ++ η.filter fun e => !Sb.has θ e.1)).Nodup := by
  show (List.map (fun e : Key × Ter => e.1) _).Nodup
  rw [List.map_append]
  have k1 : (Sb.keys (θ.map fun e => (e.1, e.2.sub η))).Nodup := by rw [keys_map]; exact h1
  refine List.nodup_append.mpr ⟨k1, keys_filter_nd h2, fun a ha b hb z => ?_⟩
  subst z
  have ha : a ∈ Sb.keys (θ.map fun e => (e.1, e.2.sub η)) := ha
  rw [keys_map] at ha
  obtain ⟨e, he, rfl⟩ := List.mem_map.mp hb
  have q := (List.mem_filter.mp he).2
  unfold Sb.has at q
  cases c : Sb.look θ e.1 with
  | none => exact look_not c ha
  | some t => rw [c] at q; cases q
theorem keys_comp {θ η : Sb} (h1 : (Sb.keys θ).Nodup) (h2 : (Sb.keys η).Nodup) : (Sb.keys (Sb.comp θ η)).Nodup := keys_filter_nd (keys_union h1 h2)
theorem look_comp {θ η : Sb} (h1 : (Sb.keys θ).Nodup) (h2 : (Sb.keys η).Nodup) (k : Key) : (Sb.look (Sb.comp θ η) k).getD (.var k) = Ter.sub η ((Sb.look θ k).getD (.var k)) := by
  unfold Sb.comp
  rw [look_filter _ _ k (keys_union h1 h2), look_app, look_map, look_filter _ _ k h2]
  have fin : ∀ t : Ter, ((some t).bind fun t => if (!triv (k, t)) = true then some t else none).getD (.var k) = t := fun t => by
    show (if (!triv (k, t)) = true then some t else none).getD (.var k) = t
    by_cases c : triv (k, t) = true
    · rw [c]
      show Ter.var k = t
      exact (triv_var c).symm
    · rw [Bool.not_eq_true] at c
      rw [c]
      rfl
  cases c : Sb.look θ k with
  | some t =>
    show (((some (t.sub η)).or _).bind _).getD _ = t.sub η
    exact fin _
  | none =>
    show (((Sb.look η k).bind fun t => if (!Sb.has θ k) = true then some t else none).bind _).getD _ = (Sb.look η k).getD (.var k)
    have e : (!Sb.has θ k) = true := by unfold Sb.has; rw [c]; rfl
    cases d : Sb.look η k with
    | none => rfl
    | some t =>
      show ((if (!Sb.has θ k) = true then some t else none).bind _).getD _ = t
      rw [if_pos e]
      exact fin t
mutual
theorem sub_comp {θ η : Sb} (h1 : (Sb.keys θ).Nodup) (h2 : (Sb.keys η).Nodup) : ∀ t : Ter, t.sub (Sb.comp θ η) = (t.sub θ).sub η
  | .var k => look_comp h1 h2 k
  | .ap f as => congrArg (Ter.ap f) (subs_comp h1 h2 as)
theorem subs_comp {θ η : Sb} (h1 : (Sb.keys θ).Nodup) (h2 : (Sb.keys η).Nodup) : ∀ ts : List Ter, Ter.subs (Sb.comp θ η) ts = Ter.subs η (Ter.subs θ ts)
  | [] => rfl
  | t :: r => by
    show t.sub _ :: Ter.subs _ r = (t.sub θ).sub η :: Ter.subs η (Ter.subs θ r)
    rw [sub_comp h1 h2 t, subs_comp h1 h2 r]
end
/-! ### how large -/
mutual
theorem sub_nest {θ : Sb} {N : Nat} (h : ∀ e ∈ θ, e.2.nest ≤ N) (h1 : 1 ≤ N) : ∀ t : Ter, (t.sub θ).nest + 1 ≤ t.nest + N
  | .var k => by
    show ((Sb.look θ k).getD (.var k)).nest + 1 ≤ 1 + N
    cases c : Sb.look θ k with
    | none => show 1 + 1 ≤ 1 + N; omega
    | some t =>
      have := h _ (slook_mem c)
      show t.nest + 1 ≤ 1 + N
      have : t.nest ≤ N := this
      omega
  | .ap f as => by
    have := subs_nests h h1 as
    show (Ter.nests (Ter.subs θ as) + 1) + 1 ≤ (Ter.nests as + 1) + N
    omega
theorem subs_nests {θ : Sb} {N : Nat} (h : ∀ e ∈ θ, e.2.nest ≤ N) (h1 : 1 ≤ N) : ∀ ts : List Ter, Ter.nests (Ter.subs θ ts) + 1 ≤ Ter.nests ts + N
  | [] => by show 0 + 1 ≤ 0 + N; omega
  | t :: r => by
    have a := sub_nest h h1 t
    have b := subs_nests h h1 r
    show max (t.sub θ).nest (Ter.nests (Ter.subs θ r)) + 1 ≤ max t.nest (Ter.nests r) + N
    omega
end
mutual
theorem sub_wf {W : Str → Nat → Prop} {U : Key → Prop} {θ : Sb} (h : ∀ e ∈ θ, e.2.wf W U) : ∀ t : Ter, t.wf W U → (t.sub θ).wf W U
  | .var k, hw => by
    show ((Sb.look θ k).getD (.var k)).wf W U
    cases c : Sb.look θ k with
    | none => exact hw
    | some t => exact h _ (slook_mem c)
  | .ap f as, hw => ⟨by rw [subs_len]; exact hw.1, subs_wf h as hw.2⟩
theorem subs_wf {W : Str → Nat → Prop} {U : Key → Prop} {θ : Sb} (h : ∀ e ∈ θ, e.2.wf W U) : ∀ ts : List Ter, Ter.wfs W U ts → Ter.wfs W U (Ter.subs θ ts)
  | [], _ => trivial
  | t :: r, hw => ⟨sub_wf h t hw.1, subs_wf h r hw.2⟩
end
mutual
theorem size_pow {W : Str → Nat → Prop} {U : Key → Prop} (h : ∀ f n, W f n → n ≤ 2) : ∀ t : Ter, t.wf W U → t.size + 1 ≤ 2 ^ t.nest
  | .var k, _ => by show 1 + 1 ≤ 2 ^ 1; decide
  | .ap f as, hw => by
    have a := sizes_pow h as hw.2
    have b := h _ _ hw.1
    have c : 1 ≤ 2 ^ Ter.nests as := Nat.one_le_pow _ _ (by decide)
    show (Ter.sizes as + 1) + 1 ≤ 2 ^ (Ter.nests as + 1)
    rw [Nat.pow_succ]
    have d : as.length = 0 ∨ as.length = 1 ∨ as.length = 2 := by omega
    rcases d with d | d | d <;> rw [d] at a <;> omega
theorem sizes_pow {W : Str → Nat → Prop} {U : Key → Prop} (h : ∀ f n, W f n → n ≤ 2) : ∀ ts : List Ter, Ter.wfs W U ts → Ter.sizes ts + ts.length ≤ ts.length * 2 ^ Ter.nests ts
  | [], _ => Nat.zero_le _
  | t :: r, hw => by
    have a := size_pow h t hw.1
    have b := sizes_pow h r hw.2
    have c : 2 ^ t.nest ≤ 2 ^ (max t.nest (Ter.nests r)) := Nat.pow_le_pow_right (by decide) (Nat.le_max_left _ _)
    have d : 2 ^ Ter.nests r ≤ 2 ^ (max t.nest (Ter.nests r)) := Nat.pow_le_pow_right (by decide) (Nat.le_max_right _ _)
    have e : r.length * 2 ^ Ter.nests r ≤ r.length * 2 ^ (max t.nest (Ter.nests r)) := Nat.mul_le_mul_left _ d
    show (t.size + Ter.sizes r) + (r.length + 1) ≤ (r.length + 1) * 2 ^ (max t.nest (Ter.nests r))
    rw [Nat.add_mul, Nat.one_mul]
    omega
end
/-! ### dicts that hold a substitution -/
inductive SubT (H : Hp) : List (Key × V) → Sb → Prop
  | nil : SubT H [] []
  | cons {k : Key} {v : V} {t : Ter} {kvs : List (Key × V)} {θ : Sb} : TmAt H v t → SubT H kvs θ → SubT H ((k, v) :: kvs) ((k, t) :: θ)
theorem SubT.mono {H H' : Hp} (m : Tups H H') : ∀ {kvs : List (Key × V)} {θ : Sb}, SubT H kvs θ → SubT H' kvs θ
  | _, _, .nil => .nil
  | _, _, .cons a r => .cons (TmAt.mono m _ _ a) (r.mono m)
theorem SubT.len {H : Hp} : ∀ {kvs : List (Key × V)} {θ : Sb}, SubT H kvs θ → kvs.length = θ.length
  | _, _, .nil => rfl
  | _, _, .cons _ r => congrArg (· + 1) r.len
theorem SubT.keys {H : Hp} : ∀ {kvs : List (Key × V)} {θ : Sb}, SubT H kvs θ → kvs.map (·.1) = Sb.keys θ
  | _, _, .nil => rfl
  | _, _, .cons (k := k) _ r => congrArg (k :: ·) r.keys
theorem SubT.app {H : Hp} : ∀ {kvs ls : List (Key × V)} {θ η : Sb}, SubT H kvs θ → SubT H ls η → SubT H (kvs ++ ls) (θ ++ η)
  | _, _, _, _, .nil, h => h
  | _, _, _, _, .cons a r, h => .cons a (r.app h)
theorem SubT.get {H : Hp} : ∀ {kvs : List (Key × V)} {θ : Sb} {i : Nat} {k : Key} {v : V}, SubT H kvs θ → kvs[i]? = some (k, v) → ∃ t, θ[i]? = some (k, t) ∧ TmAt H v t
  | _, _, _, _, _, .nil, e => by simp at e
  | _, _, 0, _, _, .cons a r, e => by
    simp at e
    obtain ⟨e1, e2⟩ := e
    subst e1
    subst e2
    exact ⟨_, rfl, a⟩
  | _, _, i + 1, k, v, .cons a r, e => by
    obtain ⟨t, h1, h2⟩ := SubT.get (i := i) (k := k) (v := v) r (by simpa using e)
    exact ⟨t, by simpa using h1, h2⟩
theorem SubT.look {H : Hp} : ∀ {kvs : List (Key × V)} {θ : Sb}, SubT H kvs θ → ∀ k : Key, (valV kvs k = none ∧ Sb.look θ k = none) ∨ ∃ v t, valV kvs k = some v ∧ Sb.look θ k = some t ∧ TmAt H v t
  | _, _, .nil, _ => .inl ⟨rfl, rfl⟩
  | _, _, .cons (k := j) (v := v) (t := t) (kvs := kvs) (θ := θ) a r, k => by
    by_cases c : j = k
    · exact .inr ⟨v, t, valV_pos c, if_pos c, a⟩
    · have e1 : valV ((j, v) :: kvs) k = valV kvs k := valV_neg c
      have e2 : Sb.look ((j, t) :: θ) k = Sb.look θ k := if_neg c
      rw [e1, e2]
      exact r.look k
theorem SubT.put {H : Hp} {kvs : List (Key × V)} {θ : Sb} (h : SubT H kvs θ) {k : Key} {v : V} {t : Ter} (n : k ∉ Sb.keys θ) (ht : TmAt H v t) : SubT H (putK kvs k v) (θ ++ [(k, t)]) := by
  rcases h.look k with ⟨e, _⟩ | ⟨_, _, _, e, _⟩
  · rw [putK_new v e]
    exact h.app (.cons ht .nil)
  · rw [look_key n] at e
    cases e
/-- small numbers for variables, terms of k06 and its like, of nesting up to N -/
structure SbOk (θ : Sb) (N : Nat) : Prop where
  nd : (Sb.keys θ).Nodup
  num : ∀ e ∈ θ, ∃ i : Int, e.1 = .inl i ∧ 0 ≤ i
  wf : ∀ e ∈ θ, e.2.wf s7 numVar
  ne : ∀ e ∈ θ, e.2.nest ≤ N
theorem SbOk.comp {θ η : Sb} {N M : Nat} (h : SbOk θ N) (g : SbOk η M) (m1 : 1 ≤ M) : SbOk (Sb.comp θ η) (N + M) := by
  have al : ∀ e ∈ Sb.comp θ η, (∃ i : Int, e.1 = .inl i ∧ 0 ≤ i) ∧ e.2.wf s7 numVar ∧ e.2.nest ≤ N + M := fun e he => by
    rcases List.mem_append.mp (List.mem_filter.mp he).1 with he | he
    · obtain ⟨a, ha, rfl⟩ := List.mem_map.mp he
      have q := sub_nest g.ne m1 a.2
      have q2 := h.ne a ha
      exact ⟨h.num a ha, sub_wf g.wf _ (h.wf a ha), by show (a.2.sub η).nest ≤ N + M; omega⟩
    · have ha := (List.mem_filter.mp he).1
      exact ⟨g.num e ha, g.wf e ha, Nat.le_trans (g.ne e ha) (Nat.le_add_left _ _)⟩
  exact ⟨keys_comp h.nd g.nd, fun e he => (al e he).1, fun e he => (al e he).2.1, fun e he => (al e he).2.2⟩
theorem SbOk.nil {N : Nat} : SbOk [] N := ⟨List.nodup_nil, (fun _ z => by cases z), (fun _ z => by cases z), (fun _ z => by cases z)⟩
theorem triv_data {i : Int} {t : Ter} (h : t.wf s7 numVar) : PyData.eqv t.dat (kD (.inl i)) = triv (.inl i, t) := by
  cases t with
  | var k =>
    obtain ⟨r, rfl, _⟩ := h
    show PyData.eqv (.int r) (.int i) = decide ((Sum.inl r : Key) = Sum.inl i)
    have : PyData.eqv (.int r) (.int i) = (r == i) := by rw [PyData.eqv]
    rw [this]
    by_cases c : r = i
    · subst c; simp
    · simp [c]
  | ap f as => rfl
/-! ### what is given of some size -/
def Ter.chain : Nat → Ter → Ter
  | 0, t => t
  | n + 1, t => .ap "f" [Ter.chain n t]
def Ter.dbl : Nat → Ter
  | 0 => .ap "a" []
  | n + 1 => .ap "g" [Ter.dbl n, Ter.dbl n]
theorem chain_sub (θ : Sb) (t : Ter) : ∀ n : Nat, (Ter.chain n t).sub θ = Ter.chain n (t.sub θ)
  | 0 => rfl
  | n + 1 => by
    show Ter.ap "f" [(Ter.chain n t).sub θ] = Ter.ap "f" [Ter.chain n (t.sub θ)]
    rw [chain_sub θ t n]
theorem chain_chain (t : Ter) (m : Nat) : ∀ n : Nat, Ter.chain n (Ter.chain m t) = Ter.chain (n + m) t
  | 0 => by rw [Nat.zero_add]; rfl
  | n + 1 => by
    rw [Nat.add_right_comm]
    show Ter.ap "f" [Ter.chain n (Ter.chain m t)] = Ter.ap "f" [Ter.chain (n + m) t]
    rw [chain_chain t m n]
theorem chain_nest (t : Ter) : ∀ n : Nat, (Ter.chain n t).nest = n + t.nest
  | 0 => (Nat.zero_add _).symm
  | n + 1 => by
    show max (Ter.chain n t).nest 0 + 1 = n + 1 + t.nest
    rw [chain_nest t n]
    omega
theorem chain_size (t : Ter) : ∀ n : Nat, (Ter.chain n t).size = n + t.size
  | 0 => (Nat.zero_add _).symm
  | n + 1 => by
    show ((Ter.chain n t).size + 0) + 1 = n + 1 + t.size
    rw [chain_size t n]
    omega
theorem chain_wf {W : Str → Nat → Prop} {U : Key → Prop} (h : W "f" 1) {t : Ter} (ht : t.wf W U) : ∀ n : Nat, (Ter.chain n t).wf W U
  | 0 => ht
  | n + 1 => ⟨h, chain_wf h ht n, trivial⟩
theorem dbl_sub (θ : Sb) : ∀ n : Nat, (Ter.dbl n).sub θ = Ter.dbl n
  | 0 => rfl
  | n + 1 => by
    show Ter.ap "g" [(Ter.dbl n).sub θ, (Ter.dbl n).sub θ] = _
    rw [dbl_sub θ n]
    rfl
theorem dbl_nest : ∀ n : Nat, (Ter.dbl n).nest = n + 1
  | 0 => rfl
  | n + 1 => by
    show max (Ter.dbl n).nest (max (Ter.dbl n).nest 0) + 1 = n + 1 + 1
    rw [dbl_nest n]
    omega
theorem dbl_size : ∀ n : Nat, (Ter.dbl n).size + 1 = 2 ^ (n + 1)
  | 0 => rfl
  | n + 1 => by
    have := dbl_size n
    show (((Ter.dbl n).size + ((Ter.dbl n).size + 0)) + 1) + 1 = 2 ^ (n + 1 + 1)
    rw [Nat.pow_succ]
    omega
theorem dbl_wf {W : Str → Nat → Prop} {U : Key → Prop} (h0 : W "a" 0) (h2 : W "g" 2) : ∀ n : Nat, (Ter.dbl n).wf W U
  | 0 => ⟨h0, trivial⟩
  | n + 1 => ⟨h2, dbl_wf h0 h2 n, dbl_wf h0 h2 n, trivial⟩
def Ter.fits (t : Ter) : Bool := decide (t.size ≤ 1000) && decide (t.nest ≤ 100)
end Own
set_option maxHeartbeats 2000000
namespace Own
open PySem PySem.Spec PyProof.Rows L2 HT
/-! ### a dict that is locked for a while -/
theorem But.tupsD {d : Addr} {H H' : Hp} {ys : List (Key × V)} (a : But d H H') (h : H d = some (.dK ys)) : Tups H H' := fun b xs e => a b _ (ne_of e h (by intro z; cases z)) e
theorem tups_frz {H : Hp} {d : Addr} {od : Obj} {u o : HO} (h : H d = some (.frz od u)) : Tups H (upd H d o) := fun b xs e => by rw [upd_ne (ne_of e h (by intro z; cases z))]; exact e
theorem but_unlock {a : Addr} {H H2 : Hp} {u : HO} (e : H a = some u) (b : But a H H2) : Same H (upd H2 a u) := fun c o h => by
  by_cases q : c = a
  · subst q
    rw [upd_same, ← e]
    exact h
  · rw [upd_ne q]
    exact b c o q h
theorem but_fresh {a p : Addr} {H H2 : Hp} {o : HO} (b : But a H H2) (np : H p = none) : But a H (upd H2 p o) := fun c x n e => by
  rw [upd_ne (ne_of_none e np)]
  exact b c x n e
theorem same_fresh {p : Addr} {H H2 : Hp} {o : HO} (s : Same H H2) (np : H p = none) : Same H (upd H2 p o) := fun c x e => by
  rw [upd_ne (ne_of_none e np)]
  exact s c x e
theorem DGet.frz {H : Hp} {a : Addr} {od : Obj} {kvs : List (Key × V)} {k : Key} {v : V} (e : H a = some (.frz od (.dK kvs))) (h : valV kvs k = some v) : DGet H a (kV k) (some v) := .inl ⟨kvs, k, .inr ⟨od, e⟩, rfl, h.symm⟩
theorem DGet.of {H : Hp} {a : Addr} {kvs : List (Key × V)} {k : Key} {v : V} (e : H a = some (.dK kvs)) (h : valV kvs k = some v) : DGet H a (kV k) (some v) := .inl ⟨kvs, k, .inl e, rfl, h.symm⟩
/-! ### one more of a substitution -/
theorem sb_take {U : Sb} {i : Nat} {k : Key} {t : Ter} (h : U[i]? = some (k, t)) : U.take (i + 1) = U.take i ++ [(k, t)] := by rw [List.take_add_one, h]; rfl
theorem sb_fresh {U : Sb} {i : Nat} {k : Key} {t : Ter} (nd : (Sb.keys U).Nodup) (h : U[i]? = some (k, t)) : k ∉ Sb.keys (U.take i) := by
  intro z
  have e : Sb.keys U = Sb.keys (U.take i) ++ Sb.keys (U.drop i) := by
    unfold Sb.keys
    rw [← List.map_append, List.take_append_drop]
  rw [e] at nd
  refine (List.nodup_append.mp nd).2.2 k z k ?_ rfl
  have : (U.drop i)[0]? = some (k, t) := by rw [List.getElem?_drop]; exact h
  exact List.mem_map.mpr ⟨(k, t), List.mem_of_getElem? this, rfl⟩
theorem sb_filter (p : Key × Ter → Bool) {U : Sb} {i : Nat} {k : Key} {t : Ter} (h : U[i]? = some (k, t)) : (U.take (i + 1)).filter p = (U.take i).filter p ++ (if p (k, t) = true then [(k, t)] else []) := by
  rw [sb_take h, List.filter_append]
  by_cases c : p (k, t) = true
  · rw [if_pos c, List.filter_cons_of_pos c]; rfl
  · rw [if_neg c, List.filter_cons_of_neg c]; rfl
theorem sb_ffresh (p : Key × Ter → Bool) {U : Sb} {i : Nat} {k : Key} {t : Ter} (nd : (Sb.keys U).Nodup) (h : U[i]? = some (k, t)) : k ∉ Sb.keys ((U.take i).filter p) := fun z => sb_fresh nd h (keys_filter_sub z)
theorem sb_map {θ η : Sb} {i : Nat} {k : Key} {t : Ter} (h : θ[i]? = some (k, t)) : (θ.map fun e => (e.1, e.2.sub η))[i]? = some (k, t.sub η) := by rw [List.getElem?_map, h]; rfl
theorem sb_look {U : Sb} {i : Nat} {k : Key} {t : Ter} (nd : (Sb.keys U).Nodup) (h : U[i]? = some (k, t)) : Sb.look U k = some t := look_at nd (List.mem_of_getElem? h)
theorem SubT.val {H : Hp} {kvs : List (Key × V)} {θ : Sb} (h : SubT H kvs θ) (nd : (Sb.keys θ).Nodup) {i : Nat} {k : Key} {v : V} (e : kvs[i]? = some (k, v)) : valV kvs k = some v := val_of_mem (e := (k, v)) (by rw [h.keys]; exact nd) (List.mem_of_getElem? e)
theorem shaped_num (i : Int) : SeqAt.shaped (kD (.inl i)) = true := rfl
theorem has_some {θ : Sb} {k : Key} {t : Ter} (h : Sb.look θ k = some t) : Sb.has θ k = true := by unfold Sb.has; rw [h]; rfl
theorem has_none {θ : Sb} {k : Key} (h : Sb.look θ k = none) : Sb.has θ k = false := by unfold Sb.has; rw [h]; rfl
theorem comp_eq (θ η : Sb) : Sb.comp θ η = ((θ.map fun e => (e.1, e.2.sub η)).filter fun e => !triv e) ++ η.filter fun e => !triv e && !Sb.has θ e.1 := by
  unfold Sb.comp
  rw [List.filter_append, List.filter_filter]
theorem s7_fine {t : Ter} (h : t.wf s7 numVar) : t.wf symFine keyFine := wf_mono (fun _ _ h => h.1.2) (fun k h => by
  obtain ⟨r, rfl, _⟩ := h
  exact trivial) t h
theorem shaped7 {t : Ter} (h : t.wf s7 numVar) (n : t.nest ≤ 64) : SeqAt.shaped t.dat = true := shaped_ter (s7_fine h) n
theorem s7_two (f : Str) (n : Nat) (h : s7 f n) : n ≤ 2 := h.2
theorem fits_small {t : Ter} (h : t.wf s7 numVar) (n : t.nest ≤ 9) : t.fits = true := by
  have a := size_pow s7_two t h
  have b : 2 ^ t.nest ≤ 2 ^ 9 := Nat.pow_le_pow_right (by decide) n
  have c : 2 ^ 9 = 512 := by decide
  unfold Ter.fits
  rw [decide_eq_true (show t.size ≤ 1000 by omega), decide_eq_true (show t.nest ≤ 100 by omega)]
  rfl
theorem size_small {t : Ter} (h : t.wf s7 numVar) (n : t.nest ≤ 9) : t.size ≤ 1000000 := by
  have a := size_pow s7_two t h
  have b : 2 ^ t.nest ≤ 2 ^ 9 := Nat.pow_le_pow_right (by decide) n
  have c : 2 ^ 9 = 512 := by decide
  omega
/-- two dicts of one substitution -/
theorem SubT.same {K : PySem.W.Frag} {H : Hp} {ks ls : List (Key × V)} {θ : Sb} {N : Nat} (h : SubT H ks θ) (g : SubT H ls θ) (o : SbOk θ N) (hN : N ≤ 64) : ks.length = ls.length ∧ ∀ p ∈ ks, ∃ u d, valV ls p.1 = some u ∧ Dp K H p.2 d ∧ Dp K H u d ∧ SeqAt.shaped d = true ∧ PyData.eqv d d = true := by
  refine ⟨h.len.trans g.len.symm, fun p hp => ?_⟩
  obtain ⟨i, hi⟩ := List.getElem?_of_mem hp
  obtain ⟨k, v⟩ := p
  obtain ⟨t, h1, h2⟩ := h.get hi
  have hm := List.mem_of_getElem? h1
  rcases g.look k with ⟨_, e2⟩ | ⟨u, t2, e1, e2, hu⟩
  · rw [sb_look o.nd h1] at e2
    cases e2
  · rw [sb_look o.nd h1] at e2
    cases e2
    exact ⟨u, t.dat, e1, dp_ter t v h2, dp_ter t u hu, shaped7 (o.wf (k, t) hm) (Nat.le_trans (o.ne (k, t) hm) hN), ter_refl t⟩
end Own
set_option maxHeartbeats 2000000
namespace Own
open PySem PySem.Spec PyProof.Rows L2 HT
/-! ### {k: v}, k a tuple -/
def tDispT (tk tv : TE) : TE := fun σ H Q => ∀ p, H p = none → tPairs [(tk, tv)] σ (upd H p (.dT [])) fun ps H2 => H2 p = some (.dT []) ∧ ∃ (k : List Key) (b : Addr) (y : V), ps = [(.ref b, y)] ∧ H2 b = some (.tup (k.map kV)) ∧ Q (.ref p) (upd H2 p (.dT [(k, y)]))
theorem pe_dispT {X : Cx} {k v : Expr} {tk tv : TE} {pos : Pos} (hu : X.A.units + 1 < cLine) (hk : PE X k tk) (hv : PE X v tv) : PE X (.Dict [some k] [v] pos) (tDispT tk tv) := by
  refine ⟨fun pn t τ G Q J h => ?_⟩
  have fresh := J.hok.fresh (Nat.le_refl t.heap.objs.size)
  have J1 := J.laid (a := t.heap.objs.size) (o := .dT []) (h' := t.heap.push { cls := .type "dict", data := .dict #[] }) (t' := t.toks) (fun _ _ q => Heap.get?_push_of_some _ q) (Nat.le_refl _) (dt_empty t.heap J.big)
  have run := (pps_cons hk hv (pps_nil (pos := pos))).run pn _ τ _ _ J1 (h _ fresh)
  refine wpAny_Dict_any rfl rfl (by simp) (by simp) (wpAny_mono run (fun ws t2 hq => ?_) (fun _ _ z => z))
  obtain ⟨ps, G2, J2, rel, e, kk, b, y, rfl, eb, q⟩ := hq
  cases rel with
  | @cons _ w1 _ _ hw tl =>
    cases tl
    obtain ⟨w2, w3⟩ := w1
    obtain ⟨r1, r2⟩ := hw
    cases (show w2 = Value.ref b from r1)
    obtain ⟨z, hd, xs, rk, dd⟩ := dt_of J2.hok e
    cases rk
    unfold storeAll
    rw [List.forIn_cons]
    refine wpAny_bind (wpAny_bind (wpAny_dictSet_heap (hsz := Nat.zero_le _) (knd := tupleKind (mixKind X.prog X.w)) (show X.A.units < cLine by omega) (key_of J2.hok eb) dd fun hp3 dd3 sb3 => wpAny_pure ?_))
    dsimp only
    rw [List.forIn_nil]
    refine wpAny_pure ?_
    obtain ⟨o3, es3, ep3, g1, g2, g3, g4, _, g5⟩ := dd3
    have new : ObjOk X.prog X.w (upd G2 t.heap.objs.size (.dT [(kk, y)])) hp3 t.heap.objs.size (.dT [(kk, y)]) := by
      refine ⟨by show 1 ≤ sizeLine; decide, hd, _, (KT.put (kvs := []) (xs := []) .nil kk eb r2).keeps fun c ys ec => ?_, o3, es3, ep3, g1, g2, g3, g4, g5⟩
      rw [upd_ne (ne_of ec e (fun z => nomatch z))]
      exact ec
    exact ⟨.ref t.heap.objs.size, _, d_write J2 (by rw [e]; exact True.intro) sb3 ⟨o3, g1⟩ new, rfl, q⟩
end Own
set_option maxHeartbeats 2000000
namespace Own
open PySem PySem.Spec PyProof.Rows L2 HT
/-! ### formulas over a few symbols -/
def sym20 (f : Str) (n : Nat) : Prop := (f = "a" ∧ n = 0) ∨ (f = "b" ∧ n = 0) ∨ (f = "f" ∧ n = 1) ∨ (f = "g" ∧ n = 2)
def nam20 (NM : List Str) (k : Key) : Prop := ∃ x, k = .inr x ∧ x ∈ NM
def atom20 (NM : List Str) (l r : Ter) : Prop := (l.wf sym20 (nam20 NM) ∧ r.wf sym20 (nam20 NM)) ∨ ∃ f as, l = .ap f as ∧ ((f = ("p" : Str) ∧ as.length = 1) ∨ (f = ("q" : Str) ∧ as.length = 2) ∨ (f = ("r" : Str) ∧ as.length = 0)) ∧ Ter.wfs sym20 (nam20 NM) as ∧ r = .ap "true" []
def fm20 (NM : List Str) : Fm → Prop
  | .tt _ => True
  | .eq l r => atom20 NM l r ∧ l.nest ≤ 3 ∧ r.nest ≤ 3 ∧ l.size ≤ 20 ∧ r.size ≤ 20
  | .neg f => fm20 NM f
  | .bin _ f g => fm20 NM f ∧ fm20 NM g
  | .qu _ x f => x ∈ NM ∧ fm20 NM f
/-! ### tables as functions -/
def FnsAt {α : Type} (H : Hp) (F : Addr) (emb : α → V) (d : α) (fn : Str → List Int → α) : Prop := ∃ kvs : List (Key × V), H F = some (.dK kvs) ∧ ∀ (f : Str) (vs : List Int), (valV kvs (.inr f) = none ∧ fn f vs = d) ∨
  ∃ (q : Addr) (rows : List (List Key × V)), valV kvs (.inr f) = some (.ref q) ∧ H q = some (.dT rows) ∧ ((valV rows (vs.map Sum.inl) = none ∧ fn f vs = d) ∨ valV rows (vs.map Sum.inl) = some (emb (fn f vs)))
theorem FnsAt.same {α : Type} {H H' : Hp} {F : Addr} {emb : α → V} {d : α} {fn : Str → List Int → α} (h : FnsAt H F emb d fn) (s : Same H H') : FnsAt H' F emb d fn := by
  obtain ⟨kvs, e, al⟩ := h
  refine ⟨kvs, s _ _ e, fun f vs => ?_⟩
  rcases al f vs with h | ⟨q, rows, h1, h2, h3⟩
  · exact .inl h
  · exact .inr ⟨q, rows, h1, s _ _ h2, h3⟩
theorem valV_mem {κ : Type} [DecidableEq κ] {kvs : List (κ × V)} {k : κ} {v : V} (h : valV kvs k = some v) : ∃ e ∈ kvs, e.2 = v := by
  unfold valV at h
  cases q : kvs.find? fun kv => decide (kv.1 = k) with
  | none => rw [q] at h; cases h
  | some p =>
    rw [q] at h
    exact ⟨p, List.mem_of_find?_eq_some q, Option.some.inj h⟩
def AllT {α : Type} (H : Hp) (q : Addr) (emb : α → V) (n : Nat) : Prop := ∃ rows : List (List Key × V), H q = some (.dT rows) ∧ rows.length ≤ n ∧ ∀ e ∈ rows, ∃ x, e.2 = emb x
theorem fns_mk {α : Type} {H : Hp} {F : Addr} {emb : α → V} (d : α) {kvs : List (Key × V)} (e : H F = some (.dK kvs)) (h : ∀ x ∈ kvs, ∃ q n, x.2 = .ref q ∧ AllT H q emb n) : ∃ fn : Str → List Int → α, FnsAt H F emb d fn := by
  have P : ∀ (f : Str) (vs : List Int), ∃ y : α, (valV kvs (.inr f) = none ∧ y = d) ∨
      ∃ (q : Addr) (rows : List (List Key × V)), valV kvs (.inr f) = some (.ref q) ∧ H q = some (.dT rows) ∧ ((valV rows (vs.map Sum.inl) = none ∧ y = d) ∨ valV rows (vs.map Sum.inl) = some (emb y)) := fun f vs => by
    cases c : valV kvs (.inr f) with
    | none => exact ⟨d, .inl ⟨rfl, rfl⟩⟩
    | some v =>
      obtain ⟨x, hx, rfl⟩ := valV_mem c
      obtain ⟨q, n, e1, rows, e2, _, e3⟩ := h x hx
      cases c2 : valV rows (vs.map Sum.inl) with
      | none => exact ⟨d, .inr ⟨q, rows, by rw [e1], e2, .inl ⟨c2, rfl⟩⟩⟩
      | some u =>
        obtain ⟨y, hy, rfl⟩ := valV_mem c2
        obtain ⟨z, hz⟩ := e3 y hy
        exact ⟨z, .inr ⟨q, rows, by rw [e1], e2, .inr (by rw [c2, hz])⟩⟩
  exact ⟨fun f vs => Classical.choose (P f vs), kvs, e, fun f vs => Classical.choose_spec (P f vs)⟩
theorem AllT.put {α : Type} {H : Hp} {q : Addr} {emb : α → V} {n : Nat} (h : AllT H q emb n) (k : List Key) (x : α) : ∃ rows, H q = some (.dT rows) ∧ rows.length ≤ n ∧ AllT (L2.upd H q (.dT (putK rows k (emb x)))) q emb (n + 1) := by
  obtain ⟨rows, e, l, al⟩ := h
  refine ⟨rows, e, l, putK rows k (emb x), upd_same, ?_, fun e he => ?_⟩
  · unfold putK
    split
    · rw [List.length_map]; omega
    · rw [List.length_append, List.length_singleton]; omega
  · unfold putK at he
    split at he
    · obtain ⟨p, hp, rfl⟩ := List.mem_map.mp he
      by_cases c : p.1 = k
      · rw [if_pos c]; exact ⟨x, rfl⟩
      · rw [if_neg c]; exact al p hp
    · rcases List.mem_append.mp he with he | he
      · exact al e he
      · rw [List.mem_singleton.mp he]; exact ⟨x, rfl⟩
structure Mdl where
  sz : Nat
  fn : Str → List Int → Int
  pr : Str → List Int → Bool
mutual
def Ter.val (M : Mdl) (ρ : Str → Int) : Ter → Int
  | .var (.inl _) => 0
  | .var (.inr x) => ρ x
  | .ap f as => M.fn f (Ter.vals M ρ as)
def Ter.vals (M : Mdl) (ρ : Str → Int) : List Ter → List Int
  | [] => []
  | a :: r => a.val M ρ :: Ter.vals M ρ r
end
theorem vals_app (M : Mdl) (ρ : Str → Int) : ∀ as bs : List Ter, Ter.vals M ρ (as ++ bs) = Ter.vals M ρ as ++ Ter.vals M ρ bs
  | [], _ => rfl
  | a :: r, bs => congrArg (a.val M ρ :: ·) (vals_app M ρ r bs)
theorem vals_len (M : Mdl) (ρ : Str → Int) : ∀ as : List Ter, (Ter.vals M ρ as).length = as.length
  | [] => rfl
  | a :: r => congrArg (· + 1) (vals_len M ρ r)
/-- is it ('true',) -/
def isTr : Ter → Bool
  | .ap f as => f == "true" && as.isEmpty
  | .var _ => false
def eqHolds (M : Mdl) (ρ : Str → Int) (l r : Ter) : Bool := if isTr r = true then (match l with | .ap f as => M.pr f (Ter.vals M ρ as) | .var _ => false) else decide (l.val M ρ = r.val M ρ)
def wider (ρ : Str → Int) (x : Str) (i : Int) : Str → Int := fun y => if y = x then i else ρ y
def Op.fn : Op → Bool → Bool → Bool
  | .and, a, b => a && b
  | .or, a, b => a || b
  | .imp, a, b => b || !a
  | .iff, a, b => a == b
def Fm.truth (M : Mdl) : (Str → Int) → Fm → Bool
  | _, .tt b => b
  | ρ, .eq l r => eqHolds M ρ l r
  | ρ, .neg f => !f.truth M ρ
  | ρ, .bin o f g => o.fn (f.truth M ρ) (g.truth M ρ)
  | ρ, .qu true x f => (List.range M.sz).all fun i => f.truth M (wider ρ x i)
  | ρ, .qu false x f => (List.range M.sz).any fun i => f.truth M (wider ρ x i)
/-! ### the negation normal form -/
def Fm.nf : Fm → Bool → Fm
  | .tt b, n => .tt (b != n)
  | .eq l r, n => if n = true then .neg (.eq l r) else .eq l r
  | .neg f, n => f.nf (!n)
  | .bin .and f g, n => .bin (if n = true then .or else .and) (f.nf n) (g.nf n)
  | .bin .or f g, n => .bin (if n = true then .and else .or) (f.nf n) (g.nf n)
  | .bin .imp f g, n => .bin (if n = true then .and else .or) (f.nf (!n)) (g.nf n)
  | .bin .iff f g, n => if n = true then .bin .and (.bin .or (f.nf false) (g.nf false)) (.bin .or (f.nf true) (g.nf true)) else .bin .and (.bin .or (f.nf true) (g.nf false)) (.bin .or (g.nf true) (f.nf false))
  | .qu a x f, n => .qu (a != n) x (f.nf n)
def Fm.sz : Fm → Nat × Nat
  | .tt _ => (1, 1)
  | .eq _ _ => (1, 2)
  | .neg f => (f.sz.2, f.sz.1)
  | .bin .and f g => (1 + f.sz.1 + g.sz.1, 1 + f.sz.2 + g.sz.2)
  | .bin .or f g => (1 + f.sz.1 + g.sz.1, 1 + f.sz.2 + g.sz.2)
  | .bin .imp f g => (1 + f.sz.2 + g.sz.1, 1 + f.sz.1 + g.sz.2)
  | .bin .iff f g => (3 + f.sz.1 + f.sz.2 + g.sz.1 + g.sz.2, 3 + f.sz.1 + f.sz.2 + g.sz.1 + g.sz.2)
  | .qu _ _ f => (1 + f.sz.1, 1 + f.sz.2)
def Fm.cnt : Fm → Nat
  | .tt _ => 1
  | .eq _ _ => 1
  | .neg _ => 2
  | .bin _ f g => 1 + (f.cnt + g.cnt)
  | .qu _ _ f => 1 + f.cnt
def Fm.nnf : Fm → Prop
  | .tt _ => True
  | .eq _ _ => True
  | .neg (.eq _ _) => True
  | .neg _ => False
  | .bin .and f g => f.nnf ∧ g.nnf
  | .bin .or f g => f.nnf ∧ g.nnf
  | .bin _ _ _ => False
  | .qu _ _ f => f.nnf
theorem nnf_nf : ∀ (φ : Fm) (n : Bool), (φ.nf n).nnf
  | .tt b, n => trivial
  | .eq l r, n => by cases n <;> exact trivial
  | .neg f, n => nnf_nf f (!n)
  | .bin .and f g, n => by cases n <;> exact ⟨nnf_nf f _, nnf_nf g _⟩
  | .bin .or f g, n => by cases n <;> exact ⟨nnf_nf f _, nnf_nf g _⟩
  | .bin .imp f g, n => by cases n <;> exact ⟨nnf_nf f _, nnf_nf g _⟩
  | .bin .iff f g, n => by cases n <;> exact ⟨⟨nnf_nf _ _, nnf_nf _ _⟩, ⟨nnf_nf _ _, nnf_nf _ _⟩⟩
  | .qu a x f, n => nnf_nf f n
theorem cnt_nf : ∀ (φ : Fm) (n : Bool), (φ.nf n).cnt = if n = true then φ.sz.2 else φ.sz.1
  | .tt b, n => by cases n <;> rfl
  | .eq l r, n => by cases n <;> rfl
  | .neg f, n => by
    have := cnt_nf f (!n)
    show (f.nf (!n)).cnt = _
    rw [this]
    cases n <;> rfl
  | .bin .and f g, n => by
    have a := cnt_nf f n
    have b := cnt_nf g n
    show 1 + ((f.nf n).cnt + (g.nf n).cnt) = _
    cases n
    · show _ = 1 + f.sz.1 + g.sz.1
      simp at a b
      omega
    · show _ = 1 + f.sz.2 + g.sz.2
      simp at a b
      omega
  | .bin .or f g, n => by
    have a := cnt_nf f n
    have b := cnt_nf g n
    show 1 + ((f.nf n).cnt + (g.nf n).cnt) = _
    cases n
    · show _ = 1 + f.sz.1 + g.sz.1
      simp at a b
      omega
    · show _ = 1 + f.sz.2 + g.sz.2
      simp at a b
      omega
  | .bin .imp f g, n => by
    have a := cnt_nf f (!n)
    have b := cnt_nf g n
    show 1 + ((f.nf (!n)).cnt + (g.nf n).cnt) = _
    cases n
    · show _ = 1 + f.sz.2 + g.sz.1
      simp at a b
      show 1 + ((f.nf true).cnt + (g.nf false).cnt) = _
      omega
    · show _ = 1 + f.sz.1 + g.sz.2
      simp at a b
      show 1 + ((f.nf false).cnt + (g.nf true).cnt) = _
      omega
  | .bin .iff f g, n => by
    have a := cnt_nf f true
    have b := cnt_nf g true
    have c := cnt_nf f false
    have d := cnt_nf g false
    simp at a b c d
    cases n
    · show 1 + ((1 + ((f.nf true).cnt + (g.nf false).cnt)) + (1 + ((g.nf true).cnt + (f.nf false).cnt))) = 3 + f.sz.1 + f.sz.2 + g.sz.1 + g.sz.2
      omega
    · show 1 + ((1 + ((f.nf false).cnt + (g.nf false).cnt)) + (1 + ((f.nf true).cnt + (g.nf true).cnt))) = 3 + f.sz.1 + f.sz.2 + g.sz.1 + g.sz.2
      omega
  | .qu a x f, n => by
    have := cnt_nf f n
    show 1 + (f.nf n).cnt = _
    rw [this]
    cases n <;> rfl
theorem high_nf : ∀ (φ : Fm) (n : Bool), (φ.nf n).high ≤ 2 * φ.high
  | .tt b, n => by show 1 ≤ 2 * 1; decide
  | .eq l r, n => by
    cases n
    · show 1 ≤ 2 * 1; decide
    · show 1 + 1 ≤ 2 * 1; decide
  | .neg f, n => by
    have := high_nf f (!n)
    show (f.nf (!n)).high ≤ 2 * (f.high + 1)
    omega
  | .bin .and f g, n => by
    have a := high_nf f n
    have b := high_nf g n
    show max (f.nf n).high (g.nf n).high + 1 ≤ 2 * (max f.high g.high + 1)
    omega
  | .bin .or f g, n => by
    have a := high_nf f n
    have b := high_nf g n
    show max (f.nf n).high (g.nf n).high + 1 ≤ 2 * (max f.high g.high + 1)
    omega
  | .bin .imp f g, n => by
    have a := high_nf f (!n)
    have b := high_nf g n
    show max (f.nf (!n)).high (g.nf n).high + 1 ≤ 2 * (max f.high g.high + 1)
    omega
  | .bin .iff f g, n => by
    have a := high_nf f true
    have b := high_nf g true
    have c := high_nf f false
    have d := high_nf g false
    cases n
    · show max (max (f.nf true).high (g.nf false).high + 1) (max (g.nf true).high (f.nf false).high + 1) + 1 ≤ 2 * (max f.high g.high + 1)
      omega
    · show max (max (f.nf false).high (g.nf false).high + 1) (max (f.nf true).high (g.nf true).high + 1) + 1 ≤ 2 * (max f.high g.high + 1)
      omega
  | .qu a x f, n => by
    have := high_nf f n
    show (f.nf n).high + 1 ≤ 2 * (f.high + 1)
    omega
theorem fm20_nf {NM : List Str} : ∀ (φ : Fm) (n : Bool), fm20 NM φ → fm20 NM (φ.nf n)
  | .tt b, n, _ => trivial
  | .eq l r, n, h => by cases n <;> exact h
  | .neg f, n, h => fm20_nf f (!n) h
  | .bin .and f g, n, h => ⟨fm20_nf f n h.1, fm20_nf g n h.2⟩
  | .bin .or f g, n, h => ⟨fm20_nf f n h.1, fm20_nf g n h.2⟩
  | .bin .imp f g, n, h => ⟨fm20_nf f _ h.1, fm20_nf g n h.2⟩
  | .bin .iff f g, n, h => by
    cases n
    · exact ⟨⟨fm20_nf f _ h.1, fm20_nf g _ h.2⟩, ⟨fm20_nf g _ h.2, fm20_nf f _ h.1⟩⟩
    · exact ⟨⟨fm20_nf f _ h.1, fm20_nf g _ h.2⟩, ⟨fm20_nf f _ h.1, fm20_nf g _ h.2⟩⟩
  | .qu a x f, n, h => ⟨h.1, fm20_nf f n h.2⟩
theorem truth_nf (M : Mdl) : ∀ (φ : Fm) (n : Bool) (ρ : Str → Int), (φ.nf n).truth M ρ = (φ.truth M ρ != n)
  | .tt b, n, ρ => rfl
  | .eq l r, n, ρ => by
    cases n
    · show eqHolds M ρ l r = (eqHolds M ρ l r != false)
      simp
    · show (!eqHolds M ρ l r) = (eqHolds M ρ l r != true)
      simp
  | .neg f, n, ρ => by
    show (f.nf (!n)).truth M ρ = ((!f.truth M ρ) != n)
    rw [truth_nf M f (!n) ρ]
    cases f.truth M ρ <;> cases n <;> rfl
  | .bin .and f g, n, ρ => by
    have a := truth_nf M f n ρ
    have b := truth_nf M g n ρ
    show Op.fn _ ((f.nf n).truth M ρ) ((g.nf n).truth M ρ) = ((f.truth M ρ && g.truth M ρ) != n)
    rw [a, b]
    cases f.truth M ρ <;> cases g.truth M ρ <;> cases n <;> rfl
  | .bin .or f g, n, ρ => by
    have a := truth_nf M f n ρ
    have b := truth_nf M g n ρ
    show Op.fn _ ((f.nf n).truth M ρ) ((g.nf n).truth M ρ) = ((f.truth M ρ || g.truth M ρ) != n)
    rw [a, b]
    cases f.truth M ρ <;> cases g.truth M ρ <;> cases n <;> rfl
  | .bin .imp f g, n, ρ => by
    have a := truth_nf M f (!n) ρ
    have b := truth_nf M g n ρ
    show Op.fn _ ((f.nf (!n)).truth M ρ) ((g.nf n).truth M ρ) = ((g.truth M ρ || !f.truth M ρ) != n)
    rw [a, b]
    cases f.truth M ρ <;> cases g.truth M ρ <;> cases n <;> rfl
  | .bin .iff f g, n, ρ => by
    have a := truth_nf M f true ρ
    have b := truth_nf M g true ρ
    have c := truth_nf M f false ρ
    have d := truth_nf M g false ρ
    cases n
    · show (((f.nf true).truth M ρ || (g.nf false).truth M ρ) && ((g.nf true).truth M ρ || (f.nf false).truth M ρ)) = ((f.truth M ρ == g.truth M ρ) != false)
      rw [a, b, c, d]
      cases f.truth M ρ <;> cases g.truth M ρ <;> rfl
    · show (((f.nf false).truth M ρ || (g.nf false).truth M ρ) && ((f.nf true).truth M ρ || (g.nf true).truth M ρ)) = ((f.truth M ρ == g.truth M ρ) != true)
      rw [a, b, c, d]
      cases f.truth M ρ <;> cases g.truth M ρ <;> rfl
  | .qu a x f, n, ρ => by
    have h : ∀ i : Int, (f.nf n).truth M (wider ρ x i) = (f.truth M (wider ρ x i) != n) := fun i => truth_nf M f n _
    cases a <;> cases n
    · show ((List.range M.sz).any fun i => (f.nf false).truth M (wider ρ x i)) = (((List.range M.sz).any fun i => f.truth M (wider ρ x i)) != false)
      simp [h]
    · show ((List.range M.sz).all fun i => (f.nf true).truth M (wider ρ x i)) = (((List.range M.sz).any fun i => f.truth M (wider ρ x i)) != true)
      simp [h, List.not_any_eq_all_not]
    · show ((List.range M.sz).all fun i => (f.nf false).truth M (wider ρ x i)) = (((List.range M.sz).all fun i => f.truth M (wider ρ x i)) != false)
      simp [h]
    · show ((List.range M.sz).any fun i => (f.nf true).truth M (wider ρ x i)) = (((List.range M.sz).all fun i => f.truth M (wider ρ x i)) != true)
      simp [h, List.not_all_eq_any_not]
end Own
set_option maxHeartbeats 2000000
namespace Own
open PySem PySem.Spec PyProof.Rows L2 HT
/-! ### two kinds of tables, written to -/
theorem AllT.keep {α : Type} {H H' : Hp} {q p : Addr} {emb : α → V} {n : Nat} (h : AllT H q emb n) (b : But p H H') (ne : q ≠ p) : AllT H' q emb n := by
  obtain ⟨rows, e, l, al⟩ := h
  exact ⟨rows, b q _ ne e, l, al⟩
theorem AllT.same {α : Type} {H H' : Hp} {q : Addr} {emb : α → V} {n : Nat} (h : AllT H q emb n) (b : Same H H') : AllT H' q emb n := by
  obtain ⟨rows, e, l, al⟩ := h
  exact ⟨rows, b q _ e, l, al⟩
theorem AllT.le {α : Type} {H : Hp} {q : Addr} {emb : α → V} {n m : Nat} (h : AllT H q emb n) (l : n ≤ m) : AllT H q emb m := by
  obtain ⟨rows, e, l1, al⟩ := h
  exact ⟨rows, e, Nat.le_trans l1 l, al⟩
theorem AllT.lst {α : Type} {H H' : Hp} {q d : Addr} {emb : α → V} {n : Nat} (h : AllT H q emb n) (b : But d H H') (hI : Ints H d) : AllT H' q emb n := by
  obtain ⟨ms, _, ed⟩ := hI
  have h2 := h
  obtain ⟨rows, e, _⟩ := h2
  exact h.keep b (ne_of e ed (fun z => nomatch z))
theorem AllT.nil {α : Type} {H : Hp} {q : Addr} {emb : α → V} (e : H q = some (.dT [])) : AllT H q emb 0 := ⟨[], e, Nat.le_refl _, fun _ z => nomatch z⟩
theorem AllT.one {α : Type} {H : Hp} {q : Addr} {emb : α → V} {k : List Key} {x : α} (e : H q = some (.dT [(k, emb x)])) : AllT H q emb 1 := ⟨_, e, Nat.le_refl _, fun y hy => by rw [List.mem_singleton.mp hy]; exact ⟨x, rfl⟩⟩
theorem AllT.lock {α : Type} {H : Hp} {q p : Addr} {emb : α → V} {n : Nat} {kvs : List (Key × V)} (h : AllT H q emb n) (e : H p = some (.dK kvs)) : q ≠ p := by
  obtain ⟨rows, e2, _⟩ := h
  exact ne_of e2 e (fun z => nomatch z)
structure Two (H : Hp) (Qs Rs : List Addr) (n : Nat) : Prop where
  fs : ∀ q ∈ Qs, AllT H q V.int n
  ps : ∀ r ∈ Rs, AllT H r V.bl n
  ne : ∀ q ∈ Qs, ∀ r ∈ Rs, q ≠ r
theorem Two.same {H H' : Hp} {Qs Rs : List Addr} {n : Nat} (h : Two H Qs Rs n) (b : Same H H') : Two H' Qs Rs n := ⟨fun q m => (h.fs q m).same b, fun q m => (h.ps q m).same b, h.ne⟩
theorem Two.lst {H H' : Hp} {Qs Rs : List Addr} {n : Nat} {d : Addr} (h : Two H Qs Rs n) (b : But d H H') (hI : Ints H d) : Two H' Qs Rs n := ⟨fun q m => (h.fs q m).lst b hI, fun q m => (h.ps q m).lst b hI, h.ne⟩
theorem Two.le {H : Hp} {Qs Rs : List Addr} {n m : Nat} (h : Two H Qs Rs n) (l : n ≤ m) : Two H Qs Rs m := ⟨fun q z => (h.fs q z).le l, fun q z => (h.ps q z).le l, h.ne⟩
theorem Two.putF {H : Hp} {Qs Rs : List Addr} {n : Nat} (h : Two H Qs Rs n) {q : Addr} (hq : q ∈ Qs) (k : List Key) (x : Int) :
    ∃ rows, H q = some (.dT rows) ∧ rows.length ≤ n ∧ Two (L2.upd H q (.dT (putK rows k (.int x)))) Qs Rs (n + 1) := by
  obtain ⟨rows, e, l, A⟩ := (h.fs q hq).put k x
  refine ⟨rows, e, l, fun p hp => ?_, fun r hr => ((h.ps r hr).keep But.upd (h.ne q hq r hr).symm).le (Nat.le_succ _), h.ne⟩
  by_cases c : p = q
  · subst c; exact A
  · exact ((h.fs p hp).keep But.upd c).le (Nat.le_succ _)
theorem Two.putP {H : Hp} {Qs Rs : List Addr} {n : Nat} (h : Two H Qs Rs n) {r : Addr} (hr : r ∈ Rs) (k : List Key) (x : Bool) :
    ∃ rows, H r = some (.dT rows) ∧ rows.length ≤ n ∧ Two (L2.upd H r (.dT (putK rows k (.bl x)))) Qs Rs (n + 1) := by
  obtain ⟨rows, e, l, A⟩ := (h.ps r hr).put k x
  refine ⟨rows, e, l, fun q hq => ((h.fs q hq).keep But.upd (h.ne q hq r hr)).le (Nat.le_succ _), fun p hp => ?_, h.ne⟩
  by_cases c : p = r
  · subst c; exact A
  · exact ((h.ps p hp).keep But.upd c).le (Nat.le_succ _)
theorem merge_app : ∀ (more kvs : List (Key × V)), ((kvs ++ more).map (·.1)).Nodup → mergeK kvs more = kvs ++ more
  | [], kvs, _ => by rw [List.append_nil]; rfl
  | p :: r, kvs, nd => by
    show mergeK (putK kvs p.1 p.2) r = _
    have n1 : valV kvs p.1 = none := by
      unfold valV
      rw [List.map_append] at nd
      have : kvs.find? (fun kv => decide (kv.1 = p.1)) = none := List.find?_eq_none.mpr fun x hx => by
        rw [decide_eq_true_iff]
        exact fun z => (List.nodup_append.mp nd).2.2 _ (List.mem_map.mpr ⟨x, hx, rfl⟩) p.1 (List.mem_cons_self ..) z
      rw [this]; rfl
    rw [putK_new p.2 n1, merge_app r (kvs ++ [(p.1, p.2)]) (by rw [List.append_assoc]; exact nd), List.append_assoc]
    rfl
theorem merge_nil {kvs : List (Key × V)} (h : (kvs.map (·.1)).Nodup) : mergeK [] kvs = kvs := merge_app kvs [] h
/-! ### tables and known values, as they stand -/
def TabAt (H : Hp) (T : Addr) (M : Mdl) : Prop := ∃ F G, H T = some (.tup [.int M.sz, .ref F, .ref G]) ∧ FnsAt H F V.int 0 M.fn ∧ FnsAt H G V.bl false M.pr
theorem TabAt.same {H H' : Hp} {T : Addr} {M : Mdl} (h : TabAt H T M) (s : Same H H') : TabAt H' T M := by
  obtain ⟨F, G, e, a, b⟩ := h
  exact ⟨F, G, s _ _ e, a.same s, b.same s⟩
theorem FnsAt.lst {α : Type} {H H' : Hp} {F d : Addr} {emb : α → V} {z : α} {fn : Str → List Int → α} (h : FnsAt H F emb z fn) (b : But d H H') (hI : Ints H d) : FnsAt H' F emb z fn := by
  obtain ⟨ms, _, ed⟩ := hI
  obtain ⟨kvs, e, al⟩ := h
  refine ⟨kvs, b _ _ (ne_of e ed (fun z => nomatch z)) e, fun f vs => ?_⟩
  rcases al f vs with h | ⟨q, rows, h1, h2, h3⟩
  · exact .inl h
  · exact .inr ⟨q, rows, h1, b _ _ (ne_of h2 ed (fun z => nomatch z)) h2, h3⟩
theorem TabAt.lst {H H' : Hp} {T d : Addr} {M : Mdl} (h : TabAt H T M) (b : But d H H') (hI : Ints H d) : TabAt H' T M := by
  obtain ⟨F, G, e, a1, b1⟩ := h
  have hI2 := hI
  obtain ⟨ms, _, ed⟩ := hI2
  exact ⟨F, G, b _ _ (ne_of e ed (fun z => nomatch z)) e, a1.lst b hI, b1.lst b hI⟩
def KnAt (H : Hp) (a : Addr) (NM : List Str) (ρ : Str → Int) : Prop := ∃ kvs : List (Key × V), H a = some (.dK kvs) ∧ kvs.length ≤ 100 ∧ ∀ x ∈ NM, valV kvs (.inr x) = some (.int (ρ x))
theorem KnAt.same {H H' : Hp} {a : Addr} {NM : List Str} {ρ : Str → Int} (h : KnAt H a NM ρ) (s : Same H H') : KnAt H' a NM ρ := by
  obtain ⟨kvs, e, l, al⟩ := h
  exact ⟨kvs, s _ _ e, l, al⟩
theorem put_len_in {κ : Type} [DecidableEq κ] {kvs : List (κ × V)} {k : κ} {v u : V} (h : valV kvs k = some u) : (putK kvs k v).length = kvs.length := by
  unfold putK
  obtain ⟨x, hx, _⟩ := valV_mem h
  have : (kvs.any fun kv => decide (kv.1 = k)) = true := by
    unfold valV at h
    cases q : kvs.find? fun kv => decide (kv.1 = k) with
    | none => rw [q] at h; cases h
    | some p => exact List.any_eq_true.mpr ⟨p, List.mem_of_find?_eq_some q, (by have := List.find?_some q; exact this)⟩
  rw [if_pos this, List.length_map]
/-- what a wider assignment holds -/
theorem KnAt.put {H : Hp} {a : Addr} {NM : List Str} {ρ : Str → Int} {kvs : List (Key × V)} (l : kvs.length ≤ 100) (al : ∀ x ∈ NM, valV kvs (.inr x) = some (.int (ρ x))) {x : Str} (hx : x ∈ NM) (i : Int) (e : H a = some (.dK (putK kvs (.inr x) (.int i)))) : KnAt H a NM (wider ρ x i) := by
  refine ⟨_, e, by rw [put_len_in (al x hx)]; exact l, fun y hy => ?_⟩
  rw [valV_put]
  unfold wider
  by_cases c : y = x
  · rw [if_pos (by rw [c]), if_pos c]
  · rw [if_neg (fun z => c (Sum.inr.inj z)), if_neg c]; exact al y hy
/-! ### is it ('true',) -/
theorem isTr_data {f : Str} {as : List Ter} : PyData.eqv (Ter.ap f as).dat trueT.dat = isTr (.ap f as) := by
  show ((f == ("true" : Str)) && PyData.eqvAll (Ter.dats as) []) = (f == "true" && as.isEmpty)
  cases as <;> rfl
theorem isTr_var {k : Key} : PyData.eqv (Ter.var k).dat trueT.dat = false := by cases k <;> rfl
theorem isTr_eq (t : Ter) : PyData.eqv t.dat trueT.dat = isTr t := by
  cases t with
  | var k => rw [isTr_var]; rfl
  | ap f as => exact isTr_data
theorem sym20_not {f : Str} {n : Nat} (h : sym20 f n) : (f == ("true" : Str)) = false := by
  rcases h with ⟨rfl, _⟩ | ⟨rfl, _⟩ | ⟨rfl, _⟩ | ⟨rfl, _⟩ <;> decide +kernel
theorem isTr_wf {NM : List Str} {t : Ter} (h : t.wf sym20 (nam20 NM)) : isTr t = false := by
  cases t with
  | var k => rfl
  | ap f as => show (f == "true" && as.isEmpty) = false; rw [sym20_not h.1]; rfl
theorem isTr_pred {f : Str} {as : List Ter} (h : (f = ("p" : Str) ∧ as.length = 1) ∨ (f = ("q" : Str) ∧ as.length = 2) ∨ (f = ("r" : Str) ∧ as.length = 0)) : isTr (.ap f as) = false := by
  show (f == "true" && as.isEmpty) = false
  rcases h with ⟨rfl, _⟩ | ⟨rfl, _⟩ | ⟨rfl, _⟩ <;> rw [show ((_ : Str) == ("true" : Str)) = false by decide +kernel] <;> rfl
theorem sym20_str {f : Str} {n : Nat} (h : sym20 f n) : PyData.strOk f = true := by
  rcases h with ⟨rfl, _⟩ | ⟨rfl, _⟩ | ⟨rfl, _⟩ | ⟨rfl, _⟩ <;> decide +kernel
theorem fine20 {NM : List Str} (hN : ∀ x ∈ NM, PyData.strOk x = true) {t : Ter} (h : t.wf sym20 (nam20 NM)) : t.wf symFine keyFine := wf_mono (fun _ _ h => sym20_str h) (fun k h => by obtain ⟨x, rfl, hx⟩ := h; exact hN x hx) t h
theorem atom20_fine {NM : List Str} (hN : ∀ x ∈ NM, PyData.strOk x = true) {l r : Ter} (h : atom20 NM l r) : l.wf symFine keyFine ∧ r.wf symFine keyFine := by
  rcases h with ⟨a, b⟩ | ⟨f, as, rfl, hf, hw, rfl⟩
  · exact ⟨fine20 hN a, fine20 hN b⟩
  · refine ⟨⟨?_, wfs_mono (fun _ _ h => sym20_str h) (fun k h => by obtain ⟨x, rfl, hx⟩ := h; exact hN x hx) as hw⟩, ⟨by show PyData.strOk _ = true; decide +kernel, trivial⟩⟩
    rcases hf with ⟨rfl, _⟩ | ⟨rfl, _⟩ | ⟨rfl, _⟩ <;> (show PyData.strOk _ = true; decide +kernel)
end Own
set_option maxHeartbeats 2000000
namespace Own
open PySem PySem.Spec PyProof.Rows L2 HT
/-! ### {**d, k: v} -/
section
variable {prog : Program} {w : World} {A : Around} {E : Value → Shared → Prop} {s : Shared}
theorem mix_noref {k : Key} {a : Addr} : (mixKind prog w).is k (.ref a) = false := by cases k <;> rfl
theorem wpAny_dictPut_pairs {K : Type} [DecidableEq K] {knd : KeyKind prog w K} {d : Addr} {kvs : List (K × Value)} {k : K} {key v : Value} {Q : Unit → Shared → Prop} (hkey : knd.is k key = true) (hm : s.heap.DictOf knd d kvs)
    (hQ : ∀ h', h'.DictOf knd d (stored kvs k v) → Heap.SameBut d s.heap h' → Q () { s with heap := h' })
    (hsz : kvs.length ≤ sizeLine) :
    wpAny (model prog w) A (dictPut d (knd.hash k) key v) Q E s := by
  obtain ⟨o, es, ep, ho, hc, hd, hk, hp, hn⟩ := hm
  have hes : es.size ≤ sizeLine := by have e1 := hp.length; have e2 : es.toList.length = es.size := by simp
                                      omega
  unfold dictPut
  refine wpAny_bind (wpAny_dictFind_of hkey ho hd hk ?_)
  have hidx : (es.findIdx? fun e => knd.is k e.key) = kvs.findIdx? fun kv => decide (kv.1 = k) := by
    rw [← hp.findIdx k]; obtain ⟨l⟩ := es; simp
  cases hi : es.findIdx? fun e => knd.is k e.key with
  | some i =>
    refine wpAny_updateDict ho hd (hQ _ ⟨_, _, ep, Heap.get?_update_self _ ho (Obj.isFreed_of_dict (Obj.data_mapDict hd _)),
      hc.mapDict _, Obj.data_mapDict hd _, hk.modify _ _, ?_, ?_⟩ (Heap.SameBut.update ..))
    · rw [stored, if_pos (any_of_findIdx_some (hidx ▸ hi))]
      have hl : (es.toList.findIdx? fun e => knd.is k e.key) = some i := by rw [← hi]; obtain ⟨l⟩ := es; simp
      have := hp.modify hn hl v
      obtain ⟨l⟩ := es
      simpa using this
    · rw [stored, if_pos (any_of_findIdx_some (hidx ▸ hi)), keys_map_store]; exact hn
  | none =>
    have hnot : k ∉ kvs.map (·.1) := not_mem_of_findIdx_none (hidx ▸ hi)
    have hany : ¬ (kvs.any fun kv => decide (kv.1 = k)) = true := by
      rw [List.any_eq_true]; rintro ⟨kv, hkv, he⟩
      exact hnot (List.mem_map.mpr ⟨kv, hkv, of_decide_eq_true he⟩)
    refine wpAny_updateDictKeys (hz := hes) ho hd (hQ _ ⟨_, _, ep + 1, Heap.get?_update_self _ ho (Obj.isFreed_of_dict (Obj.data_mapDictKeys hd _)),
      hc.mapDictKeys _, Obj.data_mapDictKeys hd _, hk.push hkey _, ?_, ?_⟩ (Heap.SameBut.update ..))
    · rw [stored, if_neg hany]
      have := hp.append hkey (knd.hash k) v
      obtain ⟨l⟩ := es
      simpa using this
    · rw [stored, if_neg hany, List.map_append, List.nodup_append]
      refine ⟨hn, by simp, ?_⟩
      intro a ha b hb
      simp only [List.map_cons, List.map_nil, List.mem_singleton] at hb
      subst hb
      exact fun e => hnot (e ▸ ha)
theorem wpAny_mergeMapping {d o : Addr} {kvs more : List (Key × Value)} {Q : Unit → Shared → Prop} (hdo : d ≠ o) (hoS : (o == sysModules) = false) (hd : s.heap.DictOf (mixKind prog w) d kvs) (ho : s.heap.DictOf (mixKind prog w) o more)
    (hQ : ∀ h', h'.DictOf (mixKind prog w) d (merged kvs more) → h'.DictOf (mixKind prog w) o more → Heap.SameBut d s.heap h' → Q () { s with heap := h' })
    (hsz : kvs.length + more.length ≤ sizeLine) : wpAny (model prog w) A (mergeMapping d (.ref o) false) Q E s := by
  obtain ⟨od, esd, epd, hod, hcd, hdd, hkd, hpd, hnd⟩ := id hd
  obtain ⟨oo, eso, epo, hoo, hco, hdo', hko, hpo, hno⟩ := id ho
  have hlen : more.length = eso.size := by rw [← hpo.length]; simp
  unfold mergeMapping
  refine wpAny_bind (wpAny_isInstance ho.typeIs isSubtype_dict_dict ?_)
  rw [if_pos rfl]
  refine wpAny_bind (wpAny_specialOf ho.typeIs F.slot_dict_iter.lookup (wpAny_bind (wpAny_pure ?_)))
  simp only [beq_self_eq_true]
  rw [if_neg (by rw [hoS]; exact Bool.false_ne_true)]
  have loop : wpAny (model prog w) A (do
      let l ← dictEntries o
      let epoch ← dictEpoch o
      forIn (List.range l.size) PUnit.unit fun i (_ : PUnit) => (do
          let l' ← dictEntries o
          match l'[i]? with
            | some e => do
              holding [e.key, e.val] (dictPut d e.hash e.key e.val)
              let ep' ← dictEpoch o
              if (ep' != epoch) = true then do
                  (unsupported "dict.changed-during-merge" : Sem PUnit)
                  pure (ForInStep.yield PUnit.unit)
                else pure (ForInStep.yield PUnit.unit)
            | _ => do
              (unsupported "dict.changed-during-merge" : Sem PUnit)
              pure (ForInStep.yield PUnit.unit) : Sem (ForInStep PUnit))
      pure ()) Q E s := by
    refine wpAny_bind (wpAny_dictEntries hoo hdo' ?_)
    refine wpAny_bind (wpAny_dictEpoch hoo hdo' ?_)
    refine wpAny_bind ?_
    rw [List.range_eq_range']
    refine wpAny_forIn_list _
      (fun rest _ s' => ∃ h' i, s' = { s with heap := h' } ∧ rest = List.range' i (eso.size - i) ∧ i ≤ eso.size ∧ h'.DictOf (mixKind prog w) d (merged kvs (more.take i)) ∧ h'.get? o = some oo ∧ Heap.SameBut d s.heap h')
      _ ?_ ?_ _ _ ⟨s.heap, 0, rfl, by simp, Nat.zero_le _, by simpa [merged] using hd, hoo, Heap.SameBut.refl _ _⟩
    · rintro x rest b s' ⟨h', i, rfl, hr, hi, hd', hoo', hs'⟩
      have hlt : i < eso.size := by
        rcases Nat.lt_or_ge i eso.size with h | h
        · exact h
        · rw [Nat.sub_eq_zero_of_le h] at hr; simp at hr
      obtain ⟨rfl, hrest⟩ : x = i ∧ rest = List.range' (i + 1) (eso.size - (i + 1)) := by
        have e : eso.size - i = (eso.size - (i + 1)) + 1 := by omega
        rw [e, List.range'_succ] at hr
        injection hr with h1 h2
        exact ⟨h1, h2⟩
      refine wpAny_bind (wpAny_dictEntries hoo' hdo' ?_)
      rw [Array.getElem?_eq_getElem hlt]
      obtain ⟨kv, hkv⟩ : ∃ kv, more[x]? = some kv := ⟨more[x]'(by rw [hlen]; exact hlt), List.getElem?_eq_getElem _⟩
      obtain ⟨k, v⟩ := kv
      obtain ⟨hkey, hval⟩ := hpo.get? (e := eso[x]) (by simp [hlt]) hkv
      obtain ⟨k', hkey', hhash⟩ := hko eso[x] (Array.getElem_mem hlt)
      obtain rfl : k' = k := (mixKind prog w).inj _ _ _ hkey' hkey
      show wpAny _ _ (holding [eso[x].key, eso[x].val] (dictPut d eso[x].hash eso[x].key eso[x].val) >>= _) _ _ _
      rw [hhash, hval]
      have hmx : (merged kvs (more.take x)).length ≤ sizeLine := by
        have e1 := merged_length_le kvs (more.take x)
        have e2 : (more.take x).length ≤ more.length := by rw [List.length_take]; omega
        omega
      refine wpAny_bind (wpAny_holding (wpAny_dictPut_pairs (hsz := hmx) hkey hd' fun h'' hd'' hs'' => ?_))
      have hoo'' : h''.get? o = some oo := (hs''.2 o (Ne.symm hdo)).trans hoo'
      refine wpAny_bind (wpAny_dictEpoch hoo'' hdo' ?_)
      rw [if_neg (by simp)]
      exact wpAny_pure ⟨h'', x + 1, rfl, hrest, hlt, by rw [merged_take_succ kvs more x (k', v) hkv]; exact hd'', hoo'', hs'.trans hs''⟩
    · rintro b s' ⟨h', i, rfl, hr, hi, hd', hoo', hs'⟩
      have hin : i = eso.size := by
        rcases Nat.lt_or_ge i eso.size with h | h
        · have e : eso.size - i = (eso.size - (i + 1)) + 1 := by omega
          rw [e, List.range'_succ] at hr; exact nomatch hr
        · exact Nat.le_antisymm hi h
      refine wpAny_pure (hQ h' ?_ ⟨oo, eso, epo, hoo', hco, hdo', hko, hpo, hno⟩ hs')
      rw [hin, ← hlen, List.take_length] at hd'; exact hd'
  refine wpAny_bind (wpAny_dictEntries hod hdd ?_)
  split
  · refine wpAny_bind (wpAny_dictEntries hoo hdo' ?_)
    refine wpAny_bind ?_
    rw [← Array.forIn_toList]
    refine wpAny_forIn_list _ (fun rest _ s' => s' = s ∧ ∀ e ∈ rest, e ∈ eso.toList) _ ?_ ?_ _ _ ⟨rfl, fun e he => he⟩
    · rintro x rest b s' ⟨rfl, al⟩
      obtain ⟨k, hk, _⟩ := hko x (by have := al x (List.mem_cons_self ..); simpa using this)
      split
      · rename_i a ha
        rw [ha, mix_noref] at hk
        cases hk
      · exact wpAny_pure ⟨rfl, fun e he => al e (List.mem_cons_of_mem _ he)⟩
    · rintro b s' ⟨rfl, _⟩
      exact loop
  · exact loop
theorem wpAny_dictStar {e k v : Expr} {env : Env} {pos : Pos} {Q : Value → Shared → Prop}
    (h : wpAny (model prog w) A (eval e env) (fun m s1 => wpAny (model prog w) A (mergeMapping s.heap.objs.size m false) (fun _ s2 =>
      wpAny (model prog w) A (subDict [(eval k env, do let x ← eval v env; standAt pos; pure x)]) (fun q s3 => wpAny (model prog w) A (mergeMapping s.heap.objs.size (.ref q) false) (fun _ s4 => Q (.ref s.heap.objs.size) s4) (fun _ _ => False) s3) E s2) (fun _ _ => False) s1) E
      { s with heap := s.heap.push { cls := .type "dict", data := .dict #[] } }) :
    wpAny (model prog w) A (eval (.Dict [none, some k] [e, v] pos) env) Q E s := by
  rw [arm_eval_Dict]
  refine wpAny_bind (wpAny_standAt ?_)
  show wpAny _ _ (dictDisplay [(none, do let x ← eval e env; standAt pos; pure x), (some (eval k env), do let x ← eval v env; standAt pos; pure x)]) Q E s
  unfold dictDisplay
  dsimp only
  rw [List.forIn_cons]
  dsimp only
  rw [if_pos (by decide)]
  refine wpAny_bind (wpAny_bind (wpAny_bind (wpAny_pure ?_)))
  dsimp only
  refine wpAny_bind (wpAny_alloc ?_)
  refine wpAny_bind (wpAny_holding (wpAny_bind (wpAny_mono h (fun m s1 h1 => ?_) (fun _ _ z => z))))
  refine wpAny_bind (wpAny_standAt (wpAny_pure ?_))
  refine wpAny_bind (wpAny_onRaise (wpAny_tryCatch (wpAny_onRaise (wpAny_holding (wpAny_mono h1 (fun _ s2 h2 => ?_) (fun _ _ z => z.elim))))))
  refine wpAny_pure ?_
  dsimp only
  rw [List.forIn_cons]
  dsimp only
  rw [if_neg (by simp)]
  refine wpAny_bind (wpAny_pure ?_)
  dsimp only
  rw [List.forIn_nil]
  refine wpAny_pure ?_
  dsimp only
  rw [if_neg (by simp)]
  refine wpAny_bind (wpAny_bind (wpAny_holding (wpAny_mono h2 (fun q s3 h3 => ?_) (fun _ _ z => z))))
  refine wpAny_bind (wpAny_onRaise (wpAny_holding (wpAny_mono h3 (fun _ s4 h4 => ?_) (fun _ _ z => z.elim))))
  exact wpAny_pure (wpAny_pure h4)
end
def tStar (td tk tv : TE) : TE := fun σ H Q => ∀ p, H p = none → td σ (upd H p (.dK [])) fun x H1 => ∃ (a : Addr) (kvs : List (Key × V)), x = .ref a ∧ Rd H1 a (.dK kvs) ∧ H1 p = some (.dK []) ∧ a ≠ p ∧ kvs.length ≤ 1000000 ∧
  ∀ q, upd H1 p (.dK kvs) q = none → tPairs [(tk, tv)] σ (upd (upd H1 p (.dK kvs)) q (.dK [])) fun ps H3 => H3 q = some (.dK []) ∧ H3 p = some (.dK kvs) ∧ q ≠ p ∧ ∃ (k : Key) (z : V), ps = [(kV k, z)] ∧ Q (.ref p) (upd (upd H3 q (.dK [(k, z)])) p (.dK (putK kvs k z)))
theorem pe_star {X : Cx} {e k v : Expr} {td tk tv : TE} {pos : Pos} (he : PE X e td) (hk : PE X k tk) (hv : PE X v tv) : PE X (.Dict [none, some k] [e, v] pos) (tStar td tk tv) := by
  refine ⟨fun pins s σ H Q I h => ?_⟩
  have hn := I.hok.fresh (Nat.le_refl s.heap.objs.size)
  have I1 := I.laid (a := s.heap.objs.size) (o := .dK []) (h' := s.heap.push { cls := .type "dict", data := .dict #[] }) (t' := s.toks) (fun _ _ q => Heap.get?_push_of_some _ q) (Nat.le_refl _) (dk_empty s.heap I.big)
  refine wpAny_dictStar (thn (he.run pins _ σ _ _ I1 (h _ hn)) fun m s1 ⟨x, H1, I2, rx, a, kvs, ex, hr, ep, nap, lk, q1⟩ => ?_)
  subst ex
  cases rx
  obtain ⟨z0, hd0, vs0, r0, dd0⟩ := dk_of I2.hok ep
  cases r0
  obtain ⟨za, hda, vs, ra, dda⟩ := dk_rd I2.hok hr
  have lvs : vs.length ≤ 1000000 := by rw [← ra.length]; exact lk
  have hnd : (vs.map (·.1)).Nodup := by obtain ⟨_, _, _, _, _, _, _, _, hn⟩ := dda; exact hn
  refine wpAny_mergeMapping (Ne.symm nap) hda dd0 dda (fun h' dd' _ sb => ?_) (by rw [sizeLine_eq, List.length_nil]; omega)
  rw [merged_nil_of_nodup vs hnd] at dd'
  have hex : ∃ q, h'.get? s.heap.objs.size = some q := let ⟨q, _, _, hq, _⟩ := dd'; ⟨q, hq⟩
  have I3 := d_write (t' := s1.toks) I2 (ob := .dK kvs) (by rw [ep]; exact True.intro) sb hex (dk_new za hd0 ra dd')
  have I4 := I3.laid (a := h'.objs.size) (o := .dK []) (h' := h'.push { cls := .type "dict", data := .dict #[] }) (t' := s1.toks) (fun _ _ q => Heap.get?_push_of_some _ q) (Nat.le_refl _) (dk_empty h' I3.big)
  have hn3 := I3.hok.fresh (Nat.le_refl h'.objs.size)
  refine wpAny_subDict (knd := mixKind X.prog X.w) (by show 1 ≤ 15; decide) (thn ((pps_cons (pos := pos) hk hv pps_nil).run pins _ σ _ _ I4 (q1 _ hn3)) fun ws s2 ⟨ps, H5, I5, rel, eq, ep5, nqp, kk, z, eps, q2⟩ => ?_)
  subst eps
  obtain ⟨rs, c, rk⟩ := carries_of (P := X.prog) (w := X.w) (kvs := [(kk, z)]) rel
  obtain ⟨_, hdq, vs5, r5, dd5⟩ := dk_of I5.hok eq
  cases r5
  refine ⟨rs, c, dd5, fun h6 dd6 sb6 => ?_⟩
  have hex6 : ∃ q, h6.get? h'.objs.size = some q := let ⟨q, _, _, hq, _⟩ := dd6; ⟨q, hq⟩
  have rk6 : KV [(kk, z)] (merged [] rs) := rk.merge .nil
  have I6 := d_write (t' := s2.toks + ws.length) I5 (ob := .dK [(kk, z)]) (by rw [eq]; exact True.intro) sb6 hex6 (dk_new (by show 1 ≤ sizeLine; decide) hdq rk6 dd6)
  have ep6 : upd H5 h'.objs.size (.dK [(kk, z)]) s.heap.objs.size = some (.dK kvs) := by rw [upd_ne (Ne.symm nqp)]; exact ep5
  obtain ⟨zp, hdp, vsp, rp, ddp⟩ := dk_of I6.hok ep6
  have lvp : vsp.length ≤ 1000000 := by rw [← rp.length]; exact lk
  obtain ⟨w0, ew, rw0⟩ : ∃ w0, merged [] rs = [(kk, w0)] ∧ RelV z w0 := by
    generalize merged [] rs = ms at rk6
    unfold KV at rk6
    cases rk6 with
    | @cons p q ps qs h t =>
      cases t
      exact ⟨q.2, by rw [show q = (q.1, q.2) from rfl, ← h.1], h.2⟩
  rw [ew] at dd6
  refine wpAny_mergeMapping (Ne.symm nqp) hdq ddp dd6 (fun h7 dd7 _ sb7 => ?_) (by rw [sizeLine_eq, List.length_singleton]; omega)
  have hex7 : ∃ q, h7.get? s.heap.objs.size = some q := let ⟨q, _, _, hq, _⟩ := dd7; ⟨q, hq⟩
  have lz : (putK kvs kk z).length ≤ sizeLine := by
    have := length_putK kvs kk z
    rw [sizeLine_eq]; omega
  have I7 := d_write (t' := s2.toks + ws.length) I6 (ob := .dK (putK kvs kk z)) (by rw [ep6]; exact True.intro) sb7 hex7 (dk_new lz hdp (rp.put kk rw0) dd7)
  exact ⟨.ref s.heap.objs.size, _, I7, rfl, q2⟩
end Own
set_option maxHeartbeats 2000000
namespace Own
open PySem PySem.Spec PyProof.Rows L2 HT
/-! ### t[::-1], a tuple -/
theorem adjust_rev (n : Nat) : Builtin.Slice.sliceAdjust none none (-1) (n : Int) = ((n : Int) - 1, -1) := by
  unfold Builtin.Slice.sliceAdjust
  have h1 : (-1 : Int) < 0 := by decide
  simp only [h1, if_true]
theorem places_rev (n : Nat) : Builtin.Slice.slicePlaces ((n : Int) - 1) (-1) (-1) = n := by
  unfold Builtin.Slice.slicePlaces
  have h1 : ¬ ((-1 : Int) > 0) := by decide
  simp only [h1, if_false]
  have e : (- -1 : Int) = 1 := by decide
  rw [e, Int.ediv_one]
  split <;> omega
theorem pick_rev (xs : Array Value) : ((List.range xs.size).filterMap fun (m : Nat) => xs[(((xs.size : Int) - 1) + (m : Int) * (-1)).toNat]?).toArray = xs.toList.reverse.toArray := by
  congr 1
  have e2 : (List.range xs.size).filterMap (fun (m : Nat) => xs[(((xs.size : Int) - 1) + (m : Int) * (-1)).toNat]?) = (List.range xs.size).filterMap (fun m => xs.toList.reverse[m]?) := by
    apply fm_congr
    intro m hm
    have hm := List.mem_range.mp hm
    have hl : xs.toList.length = xs.size := Array.length_toList
    have e1 : (((xs.size : Int) - 1) + (m : Int) * (-1)).toNat = xs.size - 1 - m := by omega
    rw [e1, List.getElem?_reverse (by omega), hl, Array.getElem?_toList]
  rw [e2]
  have hl : xs.toList.reverse.length = xs.size := by rw [List.length_reverse, Array.length_toList]
  rw [← hl]
  generalize xs.toList.reverse = ys
  have q := PySem.W.krv_all ys.toArray
  simpa using q
section
variable {prog : Program} {w : World} {A : Around} {E : Value → Shared → Prop} {s : Shared}
theorem sliceApplied_rev {sl : Addr} {vl vu vs : Value} {n : Nat} {Q : Int × Int × Nat → Shared → Prop} (hs : s.heap.IsSliceOf sl vl vu vs) (pl : IsPart vl none) (pu : IsPart vu none) (ps : IsPart vs (some (-1)))
    (h : Q ((n : Int) - 1, -1, n) s) : wpAny (model prog w) A (Builtin.Slice.sliceApplied (.ref sl) (pure (n : Int))) Q E s := by
  obtain ⟨os, hos, hcs, hds⟩ := id hs
  unfold Builtin.Slice.sliceApplied Builtin.Slice.sliceFields
  refine wpAny_bind (wpAny_bind (wpAny_field hos hds (x := vl) rfl (wpAny_bind (wpAny_field hos hds (x := vu) rfl (wpAny_bind (wpAny_field hos hds (x := vs) rfl (wpAny_pure ?_)))))))
  refine wpAny_bind (slicePart_ ps ?_); show wpAny _ _ (if ((-1 : Int) == 0) = true then _ else _) _ _ s; rw [if_neg (by decide)]
  refine wpAny_bind (slicePart_ pl (wpAny_bind (slicePart_ pu (wpAny_bind (wpAny_pure ?_)))))
  show wpAny _ _ (match Builtin.Slice.sliceAdjust none none (-1) (n : Int) with | (lo, hi) => pure (lo, (-1 : Int), Builtin.Slice.slicePlaces lo hi (-1))) _ _ s
  rw [adjust_rev n]
  show wpAny _ _ (pure ((n : Int) - 1, (-1 : Int), Builtin.Slice.slicePlaces ((n : Int) - 1) (-1) (-1))) _ _ s
  rw [places_rev n]
  exact wpAny_pure h
theorem getItem_tuple_rev {t sl : Addr} {items : Array Value} {vl vu vs : Value} {Q : Value → Shared → Prop} (ht : IsTup s.heap t items) (hs : s.heap.IsSliceOf sl vl vu vs) (pl : IsPart vl none) (pu : IsPart vu none) (ps : IsPart vs (some (-1)))
    (h : Q (.ref s.heap.objs.size) { s with heap := s.heap.push { cls := .type "tuple", data := .seq items.toList.reverse.toArray } })
    (hsz : items.size ≤ sizeLine) : wpAny (model prog w) A (getItem (.ref t) (.ref sl)) Q E s := by
  have fit : sizeOk (.seq items.toList.reverse.toArray) := by
    show items.toList.reverse.toArray.size ≤ sizeLine
    rw [List.size_toArray, List.length_reverse, Array.length_toList]; omega
  obtain ⟨os, hos, hcs, hds⟩ := id hs
  have hTs : s.TypeIs (.ref sl) "slice" := ⟨os, hos, hcs⟩
  unfold getItem
  try with_reducible refine wpAny_holding ?_
  first | refine wpAny_bind (wpAny_pure ?_) | skip
  refine wpAny_bind (wpAny_sequenceKey ht.typeIs (by decide) ?_)
  refine wpAny_bind (wpAny_callSpecial?_slot (name := Str.ofString "__getitem__") ht.typeIs slot_tuple_getitem (wpAny_call_entry slot_tuple_getitem ht.typeIs entry_tuple_getitem ?_ (args_tuple_getitem _ _)))
  show wpAny _ _ (Builtin.Tuple.tupleItemsOf (.ref t) >>= _) _ _ s; refine wpAny_bind (tupleItemsOf_ ht ?_)
  refine wpAny_bind (wpAny_typeOf hTs ?_); rw [if_pos (by decide)]
  refine wpAny_bind (sliceApplied_rev hs pl pu ps ?_)
  show wpAny _ _ (if (((items.size : Int) - 1) == 0 && (-1 : Int) == 1 && items.size == items.size) = true then _ else _) _ _ s
  rw [if_neg (by simp), pick_rev]
  first
    | exact wpAny_bind (m := Builtin.Tuple.tupleExact _) (wpAny_newObj_type (wpAny_pure ⟨_, rfl, wpAny_pure h⟩) fit)
    | exact wpAny_bind (m := Builtin.Tuple.tupleExact _) (wpAny_newObj_type (wpAny_bind (wpAny_pure (wpAny_pure ⟨_, rfl, wpAny_pure h⟩))) fit)
    | exact wpAny_bind (wpAny_bind (m := Builtin.Tuple.tupleExact _) (wpAny_newObj_type (wpAny_pure (wpAny_pure ⟨_, rfl, wpAny_pure h⟩)) fit))
    | exact wpAny_bind (wpAny_bind (m := Builtin.Tuple.tupleExact _) (wpAny_newObj_type (wpAny_pure ⟨_, rfl, wpAny_pure h⟩) fit))
end
def tRevT (K : PySem.W.Frag) (te : TE) : TE := fun σ H Q => te σ H fun x H1 => ∃ a xs, x = .ref a ∧ SqT K H1 a xs ∧ ∀ p, H1 p = none → Q (.ref p) (upd H1 p (.tup xs.reverse))
theorem pe_revT {X : Cx} {e : Expr} {te : TE} {k1 : Nat} {p1 p2 p3 pos : Pos} (he : PE X e te) :
    PE X (.Subscript e (.Slice none none (some (.UnaryOp .USub (.Constant (.int 1) k1 p1) p2)) p3) pos) (tRevT X.K te) := by
  refine ⟨fun pins s σ H Q I h => ?_⟩
  refine Subscript_ (thn (he.run pins s σ H _ I h) fun v s1 ⟨x, H1, I1, r1, q1⟩ => ?_)
  obtain ⟨a, xs, ex, hx, q⟩ := q1
  subst ex
  cases r1
  have hst : PO X (some (.UnaryOp .USub (.Constant (.int 1) k1 p1) p2)) (tPart (tUn (rU fun i => .int (-i)) (tC (.int 1)))) := po_some (pe_un un_neg pe_int)
  refine wpAny_Slice (thn (po_none.run pins s1 σ H1 (fun o H2 => o = none ∧ H2 = H1) I1 ⟨rfl, rfl⟩) fun vl s2 ⟨l, H2, I2, pl, el, e2⟩ => ?_)
  subst el e2
  refine thn (po_none.run pins s2 σ H2 (fun o H3 => o = none ∧ H3 = H2) I2 ⟨rfl, rfl⟩) fun vu s3 ⟨u, H3, I3, pu, eu, e3⟩ => ?_
  subst eu e3
  refine thn (hst.run pins s3 σ H3 (fun o H4 => o = some (-1) ∧ H4 = H3) I3 ⟨1, rfl, -1, rfl, rfl, rfl⟩) fun vs s4 ⟨o, H4, I4, ps, eo, e4⟩ => ?_
  subst eo e4
  have I5 : Inv X pins σ H4 { s4 with heap := s4.heap.push { cls := .type "slice", data := .fields #[vl, vu, vs] } } := I4.kept (t' := s4.toks) fun b ob q => Heap.get?_push_of_some _ q
  obtain ⟨its, r, ht, hz⟩ := I5.tuple hx
  have hlen := r.length
  show wpAny (model X.prog X.w) X.A (subscriptTail e (.Slice none none (some (.UnaryOp .USub (.Constant (.int 1) k1 p1) p2)) p3) (.ref a) (.ref s4.heap.objs.size)) (EP X pins σ Q) X.xe { s4 with heap := s4.heap.push { cls := .type "slice", data := .fields #[vl, vu, vs] } }
  refine tail_any (ops := [.ref a, .ref s4.heap.objs.size]) ht.typeIs slot_tuple_getitem.lookup ?_ (by with_unfolding_all rfl)
  refine getItem_tuple_rev ht (Heap.IsSliceOf.new _ vl vu vs) pl pu ps ?_ (by rw [List.size_toArray]; omega)
  refine ⟨.ref _, _, I5.laid (t' := s4.toks) (o := .tup xs.reverse) (fun b ob q => Heap.get?_push_of_some _ q) (Nat.le_refl _) ?_, rfl, q _ (I5.hok.fresh (Nat.le_refl _))⟩
  exact ⟨by rw [List.length_reverse]; omega, _, r.reverse, IsTup.new _ _⟩
end Own
set_option maxHeartbeats 2000000
namespace Own
open PySem PySem.Spec PyProof.Rows L2 HT
/-! ### t += u, tuples -/
theorem noI_tuple_add : typeLookup (.type "tuple") (dunderI "add") = pure none := by rw [typeLookup_type, builtinLookup_eq_fast]; kernel_rfl
section
variable {prog : Program} {w : World} {A : Around} {E : Value → Shared → Prop} {s : Shared}
theorem icat_tup {t b : Addr} {vs ws : List Value} {Q : Value → Shared → Prop} (ht : IsTup s.heap t vs.toArray) (hb : IsTup s.heap b ws.toArray)
    (h0 : vs = [] → Q (.ref b) s) (h1 : vs ≠ [] → ws = [] → Q (.ref t) s) (h2 : vs ≠ [] → ws ≠ [] → Q (.ref s.heap.objs.size) { s with heap := s.heap.push { cls := .type "tuple", data := .seq (vs ++ ws).toArray } })
    (hsz : vs.length + ws.length ≤ sizeLine) : wpAny (model prog w) A (inplaceOp .Add (.ref t) (.ref b)) Q E s := by
  obtain ⟨⟨cls, dd, data, sl⟩, ho, hc, n, hd⟩ := id ht
  obtain ⟨⟨cls2, dd2, data2, sl2⟩, ho2, hc2, n2, hd2⟩ := id hb
  simp only at hc hd hc2 hd2
  subst hc hd hc2 hd2
  have e : vs.toArray ++ ws.toArray = (vs ++ ws).toArray := by simp
  refine wpAny_inplaceOp_concat ⟨_, ho, rfl⟩ ⟨_, ho2, rfl⟩ noI_tuple_add noFill_tuple_add seq_tuple_add ?_
  by_cases hv : vs = []
  · exact call_meets PySem.F.slot_tuple_add ⟨_, ho, rfl⟩ PySem.F.entry_tuple_add (PySem.F.args_tuple_add_2 _ _) (tuple_addW0 t b vs.toArray ws.toArray n n2 dd dd2 sl sl2 (by simp [hv])) ⟨ho, ho2, h0 hv⟩
  by_cases hw : ws = []
  · exact call_meets PySem.F.slot_tuple_add ⟨_, ho, rfl⟩ PySem.F.entry_tuple_add (PySem.F.args_tuple_add_2 _ _) (tuple_addW1 t b vs.toArray ws.toArray n n2 dd dd2 sl sl2 (by simpa using hv) (by simp [hw])) ⟨ho, ho2, h1 hv hw⟩
  · refine call_meets PySem.F.slot_tuple_add ⟨_, ho, rfl⟩ PySem.F.entry_tuple_add (PySem.F.args_tuple_add_2 _ _) (tuple_addW2 t b vs.toArray ws.toArray n n2 dd dd2 sl sl2 (by simpa using hv) (by simpa using hw) (by rw [List.size_toArray, List.size_toArray]; exact hsz)) ⟨ho, ho2, ?_⟩
    rw [e]
    exact h2 hv hw
end
theorem ip_catA {X : Cx} : PIp X .Add (rCatA X.K) := by
  intro pins s σ H x y v u Q I rx ry h
  obtain ⟨a, b, xs, ys, rfl, rfl, ha, hb, hz, q0, q1, q2⟩ := h
  cases rx
  cases ry
  obtain ⟨its, r1, p1, _⟩ := I.tuple ha
  obtain ⟨its2, r2, p2, _⟩ := I.tuple hb
  refine icat_tup p1 p2 (fun z => ⟨.ref b, H, I, rfl, q0 (r1.nil_iff.mp z)⟩) (fun z1 z2 => ⟨.ref a, H, I, rfl, q1 (fun z => z1 (r1.nil_iff.mpr z)) (r2.nil_iff.mp z2)⟩) (fun z1 z2 => ?_) (by rw [← r1.length, ← r2.length]; exact hz)
  refine ⟨.ref s.heap.objs.size, _, I.laid (t' := s.toks) (o := .tup (xs ++ ys)) (fun b ob q => Heap.get?_push_of_some _ q) (Nat.le_refl _) ?_, rfl, q2 (fun z => z1 (r1.nil_iff.mpr z)) (fun z => z2 (r2.nil_iff.mpr z)) _ (I.hok.fresh (Nat.le_refl _))⟩
  exact ⟨by rw [List.length_append]; exact hz, _, r1.append r2, IsTup.new _ _⟩
end Own
set_option maxHeartbeats 2000000
namespace Own
open PySem PySem.Spec PyProof.Rows L2 HT
/-! ### formulas within a scope -/
def fmS : List Str → Fm → Prop
  | _, .tt _ => True
  | NM, .eq l r => atom20 NM l r ∧ l.nest ≤ 3 ∧ r.nest ≤ 3 ∧ l.size ≤ 20 ∧ r.size ≤ 20
  | NM, .neg f => fmS NM f
  | NM, .bin _ f g => fmS NM f ∧ fmS NM g
  | NM, .qu _ x f => fmS (x :: NM) f
theorem atom20_mono {A B : List Str} (h : ∀ x ∈ A, x ∈ B) {l r : Ter} (a : atom20 A l r) : atom20 B l r := by
  have u : ∀ k, nam20 A k → nam20 B k := fun k hk => by obtain ⟨x, e, hx⟩ := hk; exact ⟨x, e, h x hx⟩
  rcases a with ⟨h1, h2⟩ | ⟨f, as, h1, h2, h3, h4⟩
  · exact .inl ⟨wf_mono (fun _ _ z => z) u l h1, wf_mono (fun _ _ z => z) u r h2⟩
  · exact .inr ⟨f, as, h1, h2, wfs_mono (fun _ _ z => z) u as h3, h4⟩
theorem fmS_mono : ∀ (φ : Fm) (A B : List Str), (∀ x ∈ A, x ∈ B) → fmS A φ → fmS B φ
  | .tt _, _, _, _, _ => trivial
  | .eq l r, A, B, h, a => ⟨atom20_mono h a.1, a.2⟩
  | .neg f, A, B, h, a => fmS_mono f A B h a
  | .bin _ f g, A, B, h, a => ⟨fmS_mono f A B h a.1, fmS_mono g A B h a.2⟩
  | .qu _ x f, A, B, h, a => fmS_mono f (x :: A) (x :: B) (fun y hy => by
    rcases List.mem_cons.mp hy with e | hy
    · rw [e]; exact List.mem_cons_self ..
    · exact List.mem_cons_of_mem _ (h y hy)) a
/-! ### new names -/
def varN (k : Nat) : Str := ("V" : Str) ++ ((toString (k : Int) : String) : Str)
theorem varN_inj : ∀ j : Fin 64, ∀ k : Fin 64, varN j = varN k → j = k := by decide +kernel
theorem varN_ok : ∀ k : Fin 64, PyData.strOk (varN k) = true := by decide +kernel
mutual
def Ter.rn (η : Str → Str) : Ter → Ter
  | .var (.inr x) => .var (.inr (η x))
  | .var (.inl i) => .var (.inl i)
  | .ap f as => .ap f (Ter.rns η as)
def Ter.rns (η : Str → Str) : List Ter → List Ter
  | [] => []
  | a :: r => a.rn η :: Ter.rns η r
end
theorem rns_len (η : Str → Str) : ∀ as : List Ter, (Ter.rns η as).length = as.length
  | [] => rfl
  | _ :: r => congrArg (· + 1) (rns_len η r)
theorem rns_app (η : Str → Str) : ∀ as bs : List Ter, Ter.rns η (as ++ bs) = Ter.rns η as ++ Ter.rns η bs
  | [], _ => rfl
  | a :: r, bs => congrArg (a.rn η :: ·) (rns_app η r bs)
mutual
theorem rn_sz (η : Str → Str) : ∀ t : Ter, (t.rn η).nest = t.nest ∧ (t.rn η).size = t.size
  | .var (.inr _) => ⟨rfl, rfl⟩
  | .var (.inl _) => ⟨rfl, rfl⟩
  | .ap f as => by
    have := rns_sz η as
    exact ⟨by show Ter.nests _ + 1 = Ter.nests as + 1; rw [this.1], by show Ter.sizes _ + 1 = Ter.sizes as + 1; rw [this.2]⟩
theorem rns_sz (η : Str → Str) : ∀ ts : List Ter, Ter.nests (Ter.rns η ts) = Ter.nests ts ∧ Ter.sizes (Ter.rns η ts) = Ter.sizes ts
  | [] => ⟨rfl, rfl⟩
  | t :: r => by
    have a := rn_sz η t
    have b := rns_sz η r
    exact ⟨by show max _ _ = max _ _; rw [a.1, b.1], by show _ + _ = _ + _; rw [a.2, b.2]⟩
end
mutual
theorem rn_wf {η : Str → Str} {A B : List Str} (h : ∀ x ∈ A, η x ∈ B) : ∀ t : Ter, t.wf sym20 (nam20 A) → (t.rn η).wf sym20 (nam20 B)
  | .var (.inr x), ⟨y, e, hy⟩ => by cases e; exact ⟨_, rfl, h x hy⟩
  | .var (.inl _), ⟨y, e, _⟩ => by cases e
  | .ap f as, hw => ⟨by rw [rns_len]; exact hw.1, rns_wf h as hw.2⟩
theorem rns_wf {η : Str → Str} {A B : List Str} (h : ∀ x ∈ A, η x ∈ B) : ∀ ts : List Ter, Ter.wfs sym20 (nam20 A) ts → Ter.wfs sym20 (nam20 B) (Ter.rns η ts)
  | [], _ => trivial
  | t :: r, hw => ⟨rn_wf h t hw.1, rns_wf h r hw.2⟩
end
theorem atom20_rn {η : Str → Str} {A B : List Str} (h : ∀ x ∈ A, η x ∈ B) {l r : Ter} (a : atom20 A l r) : atom20 B (l.rn η) (r.rn η) := by
  rcases a with ⟨h1, h2⟩ | ⟨f, as, rfl, h2, h3, rfl⟩
  · exact .inl ⟨rn_wf h l h1, rn_wf h r h2⟩
  · exact .inr ⟨f, _, rfl, by rw [rns_len]; exact h2, rns_wf h as h3, rfl⟩
def nmS (η : Str → Str) (x y : Str) : Str → Str := fun z => if z = x then y else η z
def Fm.ren : Fm → (Str → Str) → Nat → Fm × Nat
  | .tt b, _, k => (.tt b, k)
  | .eq l r, η, k => (.eq (l.rn η) (r.rn η), k)
  | .neg f, η, k => (.neg (f.ren η k).1, (f.ren η k).2)
  | .bin o f g, η, k => (.bin o (f.ren η k).1 (g.ren η (f.ren η k).2).1, (g.ren η (f.ren η k).2).2)
  | .qu a x f, η, k => (.qu a (varN k) (f.ren (nmS η x (varN k)) (k + 1)).1, (f.ren (nmS η x (varN k)) (k + 1)).2)
def Fm.qn : Fm → Nat
  | .tt _ => 0
  | .eq _ _ => 0
  | .neg f => f.qn
  | .bin _ f g => f.qn + g.qn
  | .qu _ _ f => f.qn + 1
theorem qn_le : ∀ φ : Fm, φ.qn + 1 ≤ 2 ^ φ.high
  | .tt _ => by show 0 + 1 ≤ 2 ^ 1; decide
  | .eq _ _ => by show 0 + 1 ≤ 2 ^ 1; decide
  | .neg f => by
    have a := qn_le f
    have p : 2 ^ (f.high + 1) = 2 ^ f.high * 2 := Nat.pow_succ ..
    show f.qn + 1 ≤ 2 ^ (f.high + 1)
    omega
  | .bin _ f g => by
    have a := qn_le f
    have b := qn_le g
    have p : 2 ^ (max f.high g.high + 1) = 2 ^ max f.high g.high * 2 := Nat.pow_succ ..
    have q := two_max f.high g.high
    show f.qn + g.qn + 1 ≤ 2 ^ (max f.high g.high + 1)
    omega
  | .qu _ _ f => by
    have a := qn_le f
    have p : 2 ^ (f.high + 1) = 2 ^ f.high * 2 := Nat.pow_succ ..
    show f.qn + 1 + 1 ≤ 2 ^ (f.high + 1)
    omega
theorem ren_high : ∀ (φ : Fm) (η : Str → Str) (k : Nat), (φ.ren η k).1.high = φ.high ∧ (φ.ren η k).2 = k + φ.qn
  | .tt b, η, k => ⟨rfl, rfl⟩
  | .eq l r, η, k => ⟨rfl, rfl⟩
  | .neg f, η, k => by
    have a := ren_high f η k
    exact ⟨congrArg (· + 1) a.1, a.2⟩
  | .bin o f g, η, k => by
    have a := ren_high f η k
    have b := ren_high g η (f.ren η k).2
    refine ⟨by show max _ _ + 1 = max _ _ + 1; rw [a.1, b.1], ?_⟩
    show (g.ren η (f.ren η k).2).2 = k + (f.qn + g.qn)
    omega
  | .qu c x f, η, k => by
    have a := ren_high f (nmS η x (varN k)) (k + 1)
    refine ⟨congrArg (· + 1) a.1, ?_⟩
    show (f.ren (nmS η x (varN k)) (k + 1)).2 = k + (f.qn + 1)
    omega
theorem ren_fmS : ∀ (φ : Fm) (η : Str → Str) (k : Nat) (A B : List Str), fmS A φ → (∀ x ∈ A, η x ∈ B) → fmS B (φ.ren η k).1
  | .tt b, η, k, A, B, _, _ => trivial
  | .eq l r, η, k, A, B, h, m => by
    have a := rn_sz η l
    have b := rn_sz η r
    refine ⟨atom20_rn m h.1, ?_⟩
    rw [a.1, a.2, b.1, b.2]
    exact h.2
  | .neg f, η, k, A, B, h, m => ren_fmS f η k A B h m
  | .bin o f g, η, k, A, B, h, m => ⟨ren_fmS f η k A B h.1 m, ren_fmS g η _ A B h.2 m⟩
  | .qu c x f, η, k, A, B, h, m => ren_fmS f (nmS η x (varN k)) (k + 1) (x :: A) (varN k :: B) h fun y hy => by
    unfold nmS
    by_cases e : y = x
    · rw [if_pos e]; exact List.mem_cons_self ..
    · rw [if_neg e]
      rcases List.mem_cons.mp hy with z | hy
      · exact absurd z e
      · exact List.mem_cons_of_mem _ (m y hy)
mutual
theorem val_rn {M : Mdl} {η : Str → Str} {ρ ρ' : Str → Int} {A : List Str} (h : ∀ x ∈ A, ρ' (η x) = ρ x) : ∀ t : Ter, t.wf sym20 (nam20 A) → (t.rn η).val M ρ' = t.val M ρ
  | .var (.inr x), ⟨y, e, hy⟩ => by cases e; exact h x hy
  | .var (.inl _), ⟨y, e, _⟩ => by cases e
  | .ap f as, hw => by
    show M.fn f (Ter.vals M ρ' (Ter.rns η as)) = M.fn f (Ter.vals M ρ as)
    rw [vals_rn h as hw.2]
theorem vals_rn {M : Mdl} {η : Str → Str} {ρ ρ' : Str → Int} {A : List Str} (h : ∀ x ∈ A, ρ' (η x) = ρ x) : ∀ ts : List Ter, Ter.wfs sym20 (nam20 A) ts → Ter.vals M ρ' (Ter.rns η ts) = Ter.vals M ρ ts
  | [], _ => rfl
  | t :: r, hw => by
    show (t.rn η).val M ρ' :: Ter.vals M ρ' (Ter.rns η r) = t.val M ρ :: Ter.vals M ρ r
    rw [val_rn h t hw.1, vals_rn h r hw.2]
end
theorem isTr_rn {η : Str → Str} (t : Ter) : isTr (t.rn η) = isTr t := by
  cases t with
  | var k => cases k <;> rfl
  | ap f as => show (f == "true" && (Ter.rns η as).isEmpty) = (f == "true" && as.isEmpty); cases as <;> rfl
theorem eqHolds_rn {M : Mdl} {η : Str → Str} {ρ ρ' : Str → Int} {A : List Str} (h : ∀ x ∈ A, ρ' (η x) = ρ x) {l r : Ter} (a : atom20 A l r) : eqHolds M ρ' (l.rn η) (r.rn η) = eqHolds M ρ l r := by
  unfold eqHolds
  rw [isTr_rn]
  rcases a with ⟨h1, h2⟩ | ⟨f, as, rfl, h2, h3, rfl⟩
  · rw [isTr_wf h2, if_neg Bool.false_ne_true, if_neg Bool.false_ne_true, val_rn h l h1, val_rn h r h2]
  · rw [show isTr (.ap "true" []) = true by decide +kernel, if_pos rfl, if_pos rfl]
    show M.pr f (Ter.vals M ρ' (Ter.rns η as)) = M.pr f (Ter.vals M ρ as)
    rw [vals_rn h as h3]
/-- capture does not happen: the new names are new -/
theorem truth_ren (M : Mdl) : ∀ (φ : Fm) (A : List Str) (η : Str → Str) (k : Nat) (ρ ρ' : Str → Int), fmS A φ → (∀ x ∈ A, ρ' (η x) = ρ x) → (∀ x ∈ A, ∃ j, j < k ∧ η x = varN j) → (φ.ren η k).2 ≤ 63 → (φ.ren η k).1.truth M ρ' = φ.truth M ρ
  | .tt b, _, _, _, _, _, _, _, _, _ => rfl
  | .eq l r, A, η, k, ρ, ρ', h, m, _, _ => eqHolds_rn m h.1
  | .neg f, A, η, k, ρ, ρ', h, m, n, b => congrArg (!·) (truth_ren M f A η k ρ ρ' h m n b)
  | .bin o f g, A, η, k, ρ, ρ', h, m, n, b => by
    have b : (g.ren η (f.ren η k).2).2 ≤ 63 := b
    have hf := ren_high f η k
    have hg := ren_high g η (f.ren η k).2
    show o.fn _ _ = o.fn _ _
    rw [truth_ren M f A η k ρ ρ' h.1 m n (by omega), truth_ren M g A η (f.ren η k).2 ρ ρ' h.2 m (fun x hx => by obtain ⟨j, l, e⟩ := n x hx; exact ⟨j, by omega, e⟩) b]
  | .qu c x f, A, η, k, ρ, ρ', h, m, n, b => by
    have b : (f.ren (nmS η x (varN k)) (k + 1)).2 ≤ 63 := b
    have hf := ren_high f (nmS η x (varN k)) (k + 1)
    have st : ∀ i : Int, (f.ren (nmS η x (varN k)) (k + 1)).1.truth M (wider ρ' (varN k) i) = f.truth M (wider ρ x i) := fun i => truth_ren M f (x :: A) (nmS η x (varN k)) (k + 1) (wider ρ x i) (wider ρ' (varN k) i) h
      (fun y hy => by
        unfold nmS wider
        by_cases e : y = x
        · rw [if_pos e, if_pos rfl, if_pos e]
        · rw [if_neg e, if_neg e]
          rcases List.mem_cons.mp hy with z | hy
          · exact absurd z e
          · obtain ⟨j, l, ej⟩ := n y hy
            rw [if_neg fun z => by
              have := varN_inj ⟨j, by omega⟩ ⟨k, by omega⟩ (ej.symm.trans z)
              have := congrArg Fin.val this
              simp at this
              omega]
            exact m y hy)
      (fun y hy => by
        unfold nmS
        by_cases e : y = x
        · exact ⟨k, Nat.lt_succ_self k, by rw [if_pos e]⟩
        · rw [if_neg e]
          rcases List.mem_cons.mp hy with z | hy
          · exact absurd z e
          · obtain ⟨j, l, ej⟩ := n y hy
            exact ⟨j, by omega, ej⟩) b
    cases c
    · show (List.range M.sz).any _ = (List.range M.sz).any _
      congr 1; funext i; exact st i
    · show (List.range M.sz).all _ = (List.range M.sz).all _
      congr 1; funext i; exact st i
/-! ### free names, the first one first -/
def nmK (bd acc : List Key) (k : Key) : List Key := if hasK bd k = true then acc else addK acc k
mutual
def Ter.fv (bd : List Key) (acc : List Key) : Ter → List Key
  | .var k => nmK bd acc k
  | .ap _ as => Ter.fvs bd acc as
def Ter.fvs (bd : List Key) (acc : List Key) : List Ter → List Key
  | [] => acc
  | a :: r => Ter.fvs bd (a.fv bd acc) r
end
def Fm.fv : Fm → List Key → List Key → List Key
  | .tt _, _, acc => acc
  | .eq l r, bd, acc => r.fv bd (l.fv bd acc)
  | .neg f, bd, acc => f.fv bd acc
  | .bin _ f g, bd, acc => g.fv bd (f.fv bd acc)
  | .qu _ x f, bd, acc => f.fv (bd ++ [.inr x]) acc
def nmKs (bd acc ks : List Key) : List Key := ks.foldl (nmK bd) acc
theorem hasK_nmK (bd acc : List Key) (k x : Key) : (hasK bd x || hasK (nmK bd acc k) x) = (hasK bd x || hasK acc x || decide (k = x)) := by
  unfold nmK
  by_cases h : hasK bd k = true
  · rw [if_pos h]
    by_cases e : k = x
    · subst e; rw [h]; simp
    · rw [decide_eq_false e, Bool.or_false]
  · rw [if_neg h, hasK_addK, Bool.or_assoc]
theorem hasK_nmKs (bd : List Key) : ∀ (ks acc : List Key) (x : Key), (hasK bd x || hasK (nmKs bd acc ks) x) = (hasK bd x || hasK acc x || hasK ks x)
  | [], acc, x => by show _ = (hasK bd x || hasK acc x || false); rw [Bool.or_false]; rfl
  | k :: r, acc, x => by
    show (hasK bd x || hasK (nmKs bd (nmK bd acc k) r) x) = _
    rw [hasK_nmKs bd r, hasK_nmK, Bool.or_assoc]
    rfl
theorem nmKs_addK (bd acc b : List Key) (k : Key) : nmKs bd acc (addK b k) = nmK bd (nmKs bd acc b) k := by
  by_cases h : hasK b k = true
  · have e : addK b k = b := by unfold addK; rw [if_pos h]
    have h2 : (hasK bd k || hasK (nmKs bd acc b) k) = true := by rw [hasK_nmKs, h, Bool.or_true]
    rw [e]
    unfold nmK
    by_cases h3 : hasK bd k = true
    · rw [if_pos h3]
    · rw [if_neg h3]
      unfold addK
      rw [Bool.not_eq_true] at h3
      rw [h3, Bool.false_or] at h2
      rw [if_pos h2]
  · have e : addK b k = b ++ [k] := by unfold addK; rw [if_neg h]
    rw [e]
    unfold nmKs
    rw [List.foldl_append]
    rfl
mutual
theorem nmKs_into (bd acc : List Key) : ∀ (t : Ter) (b : List Key), nmKs bd acc (Ter.into b t) = Ter.fv bd (nmKs bd acc b) t
  | .var k, b => nmKs_addK bd acc b k
  | .ap _ as, b => nmKs_intos bd acc as b
theorem nmKs_intos (bd acc : List Key) : ∀ (ts : List Ter) (b : List Key), nmKs bd acc (Ter.intos b ts) = Ter.fvs bd (nmKs bd acc b) ts
  | [], _ => rfl
  | t :: r, b => by
    show nmKs bd acc (Ter.intos (Ter.into b t) r) = _
    rw [nmKs_intos bd acc r, nmKs_into bd acc t]
    rfl
end
/-- the names of two sides, without those that are bound -/
theorem nm_two (bd acc : List Key) (l r : Ter) : nmKs bd acc (Ter.intos [] [l, r]) = r.fv bd (l.fv bd acc) := nmKs_intos bd acc [l, r] []
mutual
theorem fv_len (bd : List Key) : ∀ (t : Ter) (acc : List Key), (t.fv bd acc).length ≤ acc.length + t.size
  | .var k, acc => by
    show (nmK bd acc k).length ≤ acc.length + 1
    unfold nmK
    split
    · omega
    · exact addK_len acc k
  | .ap _ as, acc => Nat.le_trans (fvs_len bd as acc) (by show _ ≤ acc.length + (Ter.sizes as + 1); omega)
theorem fvs_len (bd : List Key) : ∀ (ts : List Ter) (acc : List Key), (Ter.fvs bd acc ts).length ≤ acc.length + Ter.sizes ts
  | [], acc => by show acc.length ≤ acc.length + 0; omega
  | t :: r, acc => by
    have h1 := fv_len bd t acc
    have h2 := fvs_len bd r (t.fv bd acc)
    show (Ter.fvs bd (t.fv bd acc) r).length ≤ acc.length + (t.size + Ter.sizes r)
    omega
end
theorem mem_nmK {bd acc : List Key} {k x : Key} (h : x ∈ nmK bd acc k) : x ∈ acc ∨ (x = k ∧ k ∉ bd) := by
  unfold nmK at h
  split at h
  · exact .inl h
  · rename_i hb
    unfold addK at h
    split at h
    · exact .inl h
    · rcases List.mem_append.mp h with h | h
      · exact .inl h
      · exact .inr ⟨List.mem_singleton.mp h, fun z => hb (hasK_iff.mpr z)⟩
theorem nmK_sub {bd acc : List Key} {k x : Key} (h : x ∈ acc) : x ∈ nmK bd acc k := by
  unfold nmK
  split
  · exact h
  · unfold addK
    split
    · exact h
    · exact List.mem_append_left _ h
theorem nmK_in {bd acc : List Key} {k : Key} : k ∈ bd ∨ k ∈ nmK bd acc k := by
  by_cases h : hasK bd k = true
  · exact .inl (hasK_iff.mp h)
  · refine .inr ?_
    unfold nmK
    rw [if_neg h]
    unfold addK
    split
    · rename_i h2; exact hasK_iff.mp h2
    · exact List.mem_append_right _ (List.mem_singleton.mpr rfl)
mutual
theorem tfv_sub (bd : List Key) : ∀ (t : Ter) (acc : List Key) (x : Key), x ∈ acc → x ∈ t.fv bd acc
  | .var _, _, _, h => nmK_sub h
  | .ap _ as, acc, x, h => tfvs_sub bd as acc x h
theorem tfvs_sub (bd : List Key) : ∀ (ts : List Ter) (acc : List Key) (x : Key), x ∈ acc → x ∈ Ter.fvs bd acc ts
  | [], _, _, h => h
  | t :: r, acc, x, h => tfvs_sub bd r _ x (tfv_sub bd t acc x h)
end
theorem fv_sub : ∀ (φ : Fm) (bd acc : List Key) (x : Key), x ∈ acc → x ∈ φ.fv bd acc
  | .tt _, _, _, _, h => h
  | .eq l r, bd, acc, x, h => tfv_sub bd r _ x (tfv_sub bd l acc x h)
  | .neg f, bd, acc, x, h => fv_sub f bd acc x h
  | .bin _ f g, bd, acc, x, h => fv_sub g bd _ x (fv_sub f bd acc x h)
  | .qu _ _ f, bd, acc, x, h => fv_sub f _ acc x h
/-- all names that occur are bound, or free and told -/
def Reach (bd fr : List Key) (A : List Str) : Prop := ∀ x : Str, (.inr x : Key) ∈ bd ∨ (.inr x : Key) ∈ fr → x ∈ A
mutual
theorem tfv_wf {bd : List Key} {L A : List Str} : ∀ (t : Ter) (acc : List Key), t.wf sym20 (nam20 L) → Reach bd (t.fv bd acc) A → t.wf sym20 (nam20 A)
  | .var k, acc, h, r => by
    obtain ⟨x, rfl, _⟩ := h
    exact ⟨x, rfl, r x nmK_in⟩
  | .ap f as, acc, h, r => ⟨h.1, tfvs_wf as acc h.2 r⟩
theorem tfvs_wf {bd : List Key} {L A : List Str} : ∀ (ts : List Ter) (acc : List Key), Ter.wfs sym20 (nam20 L) ts → Reach bd (Ter.fvs bd acc ts) A → Ter.wfs sym20 (nam20 A) ts
  | [], _, _, _ => trivial
  | t :: r, acc, h, q => ⟨tfv_wf t acc h.1 fun x hx => q x (hx.imp id (tfvs_sub bd r _ _)), tfvs_wf r _ h.2 q⟩
end
theorem fv_fmS : ∀ (φ : Fm) (bd acc : List Key) (L A : List Str), fmS L φ → Reach bd (φ.fv bd acc) A → fmS A φ
  | .tt _, _, _, _, _, _, _ => trivial
  | .eq l r, bd, acc, L, A, h, q => by
    refine ⟨?_, h.2⟩
    rcases h.1 with ⟨h1, h2⟩ | ⟨f, as, rfl, h2, h3, h4⟩
    · exact .inl ⟨tfv_wf l acc h1 fun x hx => q x (hx.imp id (tfv_sub bd r _ _)), tfv_wf r _ h2 q⟩
    · exact .inr ⟨f, as, rfl, h2, tfvs_wf as acc h3 (fun x hx => q x (hx.imp id (tfv_sub bd r _ _))), h4⟩
  | .neg f, bd, acc, L, A, h, q => fv_fmS f bd acc L A h q
  | .bin _ f g, bd, acc, L, A, h, q => ⟨fv_fmS f bd acc L A h.1 fun x hx => q x (hx.imp id (fv_sub g bd _ _)), fv_fmS g bd _ L A h.2 q⟩
  | .qu _ x f, bd, acc, L, A, h, q => fv_fmS f (bd ++ [.inr x]) acc (x :: L) (x :: A) h fun y hy => by
    rcases hy with hy | hy
    · rcases List.mem_append.mp hy with hy | hy
      · exact List.mem_cons_of_mem _ (q y (.inl hy))
      · have := Sum.inr.inj (List.mem_singleton.mp hy)
        rw [this]; exact List.mem_cons_self ..
    · exact List.mem_cons_of_mem _ (q y (.inr hy))
mutual
theorem tfv_mem {bd : List Key} {L : List Str} : ∀ (t : Ter) (acc : List Key), t.wf sym20 (nam20 L) → ∀ k ∈ t.fv bd acc, k ∈ acc ∨ nam20 L k
  | .var k, acc, h, x, hx => by
    rcases mem_nmK hx with hx | ⟨rfl, _⟩
    · exact .inl hx
    · exact .inr h
  | .ap f as, acc, h, x, hx => tfvs_mem as acc h.2 x hx
theorem tfvs_mem {bd : List Key} {L : List Str} : ∀ (ts : List Ter) (acc : List Key), Ter.wfs sym20 (nam20 L) ts → ∀ k ∈ Ter.fvs bd acc ts, k ∈ acc ∨ nam20 L k
  | [], _, _, k, hk => .inl hk
  | t :: r, acc, h, k, hk => by
    rcases tfvs_mem r _ h.2 k hk with q | q
    · exact tfv_mem t acc h.1 k q
    · exact .inr q
end
mutual
theorem tfv_bd {bd : List Key} {L : List Str} (hb : ∀ x ∈ L, (.inr x : Key) ∈ bd) : ∀ (t : Ter) (acc : List Key), t.wf sym20 (nam20 L) → t.fv bd acc = acc
  | .var k, acc, h => by
    obtain ⟨x, rfl, hx⟩ := h
    show nmK bd acc _ = acc
    unfold nmK
    rw [if_pos (hasK_iff.mpr (hb x hx))]
  | .ap f as, acc, h => tfvs_bd hb as acc h.2
theorem tfvs_bd {bd : List Key} {L : List Str} (hb : ∀ x ∈ L, (.inr x : Key) ∈ bd) : ∀ (ts : List Ter) (acc : List Key), Ter.wfs sym20 (nam20 L) ts → Ter.fvs bd acc ts = acc
  | [], _, _ => rfl
  | t :: r, acc, h => by
    show Ter.fvs bd (t.fv bd acc) r = acc
    rw [tfv_bd hb t acc h.1, tfvs_bd hb r acc h.2]
end
theorem fv_bd : ∀ (φ : Fm) (bd acc : List Key) (L : List Str), (∀ x ∈ L, (.inr x : Key) ∈ bd) → fmS L φ → φ.fv bd acc = acc
  | .tt _, _, _, _, _, _ => rfl
  | .eq l r, bd, acc, L, hb, h => by
    show r.fv bd (l.fv bd acc) = acc
    rcases h.1 with ⟨h1, h2⟩ | ⟨f, as, rfl, h2, h3, rfl⟩
    · rw [tfv_bd hb l acc h1, tfv_bd hb r acc h2]
    · show Ter.fvs bd acc as = acc
      exact tfvs_bd hb as acc h3
  | .neg f, bd, acc, L, hb, h => fv_bd f bd acc L hb h
  | .bin _ f g, bd, acc, L, hb, h => by
    show g.fv bd (f.fv bd acc) = acc
    rw [fv_bd f bd acc L hb h.1, fv_bd g bd acc L hb h.2]
  | .qu _ x f, bd, acc, L, hb, h => fv_bd f _ acc (x :: L) (fun y hy => by
    rcases List.mem_cons.mp hy with e | hy
    · rw [e]; exact List.mem_append_right _ (List.mem_singleton.mpr rfl)
    · exact List.mem_append_left _ (hb y hy)) h
mutual
theorem tfv_in {bd : List Key} {L : List Str} : ∀ (t : Ter) (acc : List Key), t.wf sym20 (nam20 L) → ∀ k ∈ t.fv bd acc, k ∈ acc ∨ (k ∉ bd ∧ nam20 L k)
  | .var k, acc, h, x, hx => by
    rcases mem_nmK hx with hx | ⟨rfl, n⟩
    · exact .inl hx
    · exact .inr ⟨n, h⟩
  | .ap f as, acc, h, x, hx => tfvs_in as acc h.2 x hx
theorem tfvs_in {bd : List Key} {L : List Str} : ∀ (ts : List Ter) (acc : List Key), Ter.wfs sym20 (nam20 L) ts → ∀ k ∈ Ter.fvs bd acc ts, k ∈ acc ∨ (k ∉ bd ∧ nam20 L k)
  | [], _, _, k, hk => .inl hk
  | t :: r, acc, h, k, hk => by
    rcases tfvs_in r _ h.2 k hk with q | q
    · exact tfv_in t acc h.1 k q
    · exact .inr q
end
theorem fv_in : ∀ (φ : Fm) (bd acc : List Key) (L : List Str), fmS L φ → ∀ k ∈ φ.fv bd acc, k ∈ acc ∨ (k ∉ bd ∧ nam20 L k)
  | .tt _, _, _, _, _, k, hk => .inl hk
  | .eq l r, bd, acc, L, h, k, hk => by
    have hk : k ∈ r.fv bd (l.fv bd acc) := hk
    rcases h.1 with ⟨h1, h2⟩ | ⟨f, as, rfl, h2, h3, rfl⟩
    · rcases tfv_in r _ h2 k hk with q | q
      · exact tfv_in l acc h1 k q
      · exact .inr q
    · exact tfvs_in as acc h3 k hk
  | .neg f, bd, acc, L, h, k, hk => fv_in f bd acc L h k hk
  | .bin _ f g, bd, acc, L, h, k, hk => by
    rcases fv_in g bd _ L h.2 k hk with q | q
    · exact fv_in f bd acc L h.1 k q
    · exact .inr q
  | .qu _ x f, bd, acc, L, h, k, hk => by
    rcases fv_in f _ acc (x :: L) h k hk with q | ⟨n, y, e, hy⟩
    · exact .inl q
    · refine .inr ⟨fun z => n (List.mem_append_left _ z), y, e, ?_⟩
      rcases List.mem_cons.mp hy with z | hy
      · exact absurd (List.mem_append_right _ (List.mem_singleton.mpr (by rw [e, z]))) n
      · exact hy
theorem nmK_nd {bd acc : List Key} {k : Key} (h : acc.Nodup) : (nmK bd acc k).Nodup := by
  unfold nmK
  split
  · exact h
  · unfold addK
    split
    · exact h
    · rename_i hh
      refine List.nodup_append.mpr ⟨h, List.nodup_cons.mpr ⟨List.not_mem_nil, List.nodup_nil⟩, fun a ha b hb z => hh (hasK_iff.mpr ?_)⟩
      rw [← List.mem_singleton.mp hb, ← z]; exact ha
mutual
theorem tfv_nd (bd : List Key) : ∀ (t : Ter) (acc : List Key), acc.Nodup → (t.fv bd acc).Nodup
  | .var _, _, h => nmK_nd h
  | .ap _ as, acc, h => tfvs_nd bd as acc h
theorem tfvs_nd (bd : List Key) : ∀ (ts : List Ter) (acc : List Key), acc.Nodup → (Ter.fvs bd acc ts).Nodup
  | [], _, h => h
  | t :: r, acc, h => tfvs_nd bd r _ (tfv_nd bd t acc h)
end
theorem fv_nd : ∀ (φ : Fm) (bd acc : List Key), acc.Nodup → (φ.fv bd acc).Nodup
  | .tt _, _, _, h => h
  | .eq l r, bd, acc, h => tfv_nd bd r _ (tfv_nd bd l acc h)
  | .neg f, bd, acc, h => fv_nd f bd acc h
  | .bin _ f g, bd, acc, h => fv_nd g bd _ (fv_nd f bd acc h)
  | .qu _ _ f, bd, acc, h => fv_nd f _ acc h
theorem flt_len (a : Key) : ∀ l : List Key, l.Nodup → l.length ≤ (l.filter fun x => decide (x ≠ a)).length + 1
  | [], _ => Nat.zero_le _
  | x :: r, nd => by
    have nd2 := List.nodup_cons.mp nd
    by_cases c : x = a
    · subst c
      have e : r.filter (fun y => decide (y ≠ x)) = r := List.filter_eq_self.mpr fun y hy => decide_eq_true fun z => nd2.1 (z ▸ hy)
      rw [List.filter_cons_of_neg (by simp), e]
      exact Nat.le_refl _
    · rw [List.filter_cons_of_pos (by simp [c])]
      have := flt_len a r nd2.2
      rw [List.length_cons, List.length_cons]
      omega
theorem nd_len : ∀ (L l : List Key), l.Nodup → (∀ x ∈ l, x ∈ L) → l.length ≤ L.length
  | [], l, _, h => by
    cases l with
    | nil => exact Nat.le_refl _
    | cons x r => exact absurd (h x (List.mem_cons_self ..)) List.not_mem_nil
  | a :: L, l, nd, h => by
    have e := flt_len a l nd
    have i := nd_len L (l.filter fun x => decide (x ≠ a)) (List.Sublist.nodup List.filter_sublist nd) fun x hx => by
      have m := List.mem_filter.mp hx
      rcases List.mem_cons.mp (h x m.1) with z | z
      · exact absurd z (of_decide_eq_true m.2)
      · exact z
    rw [List.length_cons]
    omega
/-! ### the closure -/
def clo (f : Fm) : List Key → Fm
  | [] => f
  | .inr x :: r => .qu true x (clo f r)
  | .inl _ :: r => clo f r
theorem clo_ok {f : Fm} : ∀ (ks : List Key) (A : List Str), (∀ k ∈ ks, ∃ x, k = .inr x) → (∀ B : List Str, (∀ x ∈ A, x ∈ B) → (∀ x : Str, (.inr x : Key) ∈ ks → x ∈ B) → fmS B f) → fmS A (clo f ks)
  | [], A, _, h => h A (fun _ z => z) fun _ z => absurd z List.not_mem_nil
  | .inr y :: r, A, al, h => by
    show fmS (y :: A) (clo f r)
    refine clo_ok r (y :: A) (fun k hk => al k (List.mem_cons_of_mem _ hk)) fun B h1 h2 => h B (fun x hx => h1 x (List.mem_cons_of_mem _ hx)) fun x hx => ?_
    rcases List.mem_cons.mp hx with e | hx
    · rw [Sum.inr.inj e]; exact h1 y (List.mem_cons_self ..)
    · exact h2 x hx
  | .inl i :: r, A, al, _ => by
    obtain ⟨x, e⟩ := al _ (List.mem_cons_self ..)
    cases e
theorem clo_high {f : Fm} : ∀ ks : List Key, (clo f ks).high ≤ f.high + ks.length ∧ (clo f ks).qn ≤ f.qn + ks.length
  | [] => ⟨Nat.le_refl _, Nat.le_refl _⟩
  | .inr y :: r => by
    have a := clo_high (f := f) r
    refine ⟨?_, ?_⟩
    · show (clo f r).high + 1 ≤ f.high + (r.length + 1); omega
    · show (clo f r).qn + 1 ≤ f.qn + (r.length + 1); omega
  | .inl _ :: r => by
    have a := clo_high (f := f) r
    refine ⟨?_, ?_⟩
    · show (clo f r).high ≤ f.high + (r.length + 1); omega
    · show (clo f r).qn ≤ f.qn + (r.length + 1); omega
theorem clo_app {f : Fm} : ∀ (as bs : List Key), clo f (as ++ bs) = clo (clo f bs) as
  | [], _ => rfl
  | .inr y :: r, bs => congrArg (Fm.qu true y) (clo_app r bs)
  | .inl _ :: r, bs => clo_app r bs
end Own
set_option maxHeartbeats 2000000
namespace Own
open PySem PySem.Spec PyProof.Rows L2 HT
/-! ### what the names of a scope stand for -/
def KnS (H : Hp) (a : Addr) (NM : List Str) (ρ : Str → Int) : Prop := ∃ kvs : List (Key × V), H a = some (.dK kvs) ∧ kvs.length ≤ NM.length ∧ ∀ x ∈ NM, valV kvs (.inr x) = some (.int (ρ x))
theorem KnS.same {H H' : Hp} {a : Addr} {NM : List Str} {ρ : Str → Int} (h : KnS H a NM ρ) (s : Same H H') : KnS H' a NM ρ := by
  obtain ⟨kvs, e, l, al⟩ := h
  exact ⟨kvs, s _ _ e, l, al⟩
theorem KnS.put {H : Hp} {a : Addr} {NM : List Str} {ρ : Str → Int} {kvs : List (Key × V)} (l : kvs.length ≤ NM.length) (al : ∀ x ∈ NM, valV kvs (.inr x) = some (.int (ρ x))) (x : Str) (i : Int) (e : H a = some (.dK (putK kvs (.inr x) (.int i)))) : KnS H a (x :: NM) (wider ρ x i) := by
  refine ⟨_, e, ?_, fun y hy => ?_⟩
  · have := length_putK kvs (Sum.inr x : Key) (V.int i)
    rw [List.length_cons]; omega
  · rw [valV_put]
    unfold wider
    by_cases c : y = x
    · rw [if_pos (by rw [c]), if_pos c]
    · rw [if_neg (fun z => c (Sum.inr.inj z)), if_neg c]
      rcases List.mem_cons.mp hy with z | hy
      · exact absurd z c
      · exact al y hy
/-- what a dict of new names does -/
def NmAt (H : Hp) (a : Addr) (η : Str → Str) (n : Nat) : Prop := ∃ kvs : List (Key × V), H a = some (.dK kvs) ∧ kvs.length ≤ n ∧ ∀ x : Str, (valV kvs (.inr x) = some (.str (η x))) ∨ (valV kvs (.inr x) = none ∧ η x = x)
theorem NmAt.same {H H' : Hp} {a : Addr} {η : Str → Str} {n : Nat} (h : NmAt H a η n) (s : Same H H') : NmAt H' a η n := by
  obtain ⟨kvs, e, l, al⟩ := h
  exact ⟨kvs, s _ _ e, l, al⟩
theorem NmAt.put {H : Hp} {a : Addr} {η : Str → Str} {n : Nat} {kvs : List (Key × V)} (l : kvs.length ≤ n) (al : ∀ x : Str, (valV kvs (.inr x) = some (.str (η x))) ∨ (valV kvs (.inr x) = none ∧ η x = x)) (x y : Str) (e : H a = some (.dK (putK kvs (.inr x) (.str y)))) : NmAt H a (nmS η x y) (n + 1) := by
  refine ⟨_, e, ?_, fun z => ?_⟩
  · have := length_putK kvs (Sum.inr x : Key) (V.str y)
    omega
  · rw [valV_put]
    unfold nmS
    by_cases c : z = x
    · rw [if_pos (by rw [c]), if_pos c]; exact .inl rfl
    · rw [if_neg (fun w => c (Sum.inr.inj w)), if_neg c]; exact al z
/-! ### formulas as data -/
def Fm.qs (S : Str → Prop) : Fm → Prop
  | .tt _ => True
  | .eq _ _ => True
  | .neg f => f.qs S
  | .bin _ f g => f.qs S ∧ g.qs S
  | .qu _ x f => S x ∧ f.qs S
abbrev okS (x : Str) : Prop := PyData.strOk x = true
theorem fm_fine : ∀ (φ : Fm) (NM : List Str), (∀ x ∈ NM, okS x) → fmS NM φ → φ.qs okS → φ.ter.wf symFine keyFine ∧ φ.ter.nest ≤ φ.high + 3
  | .tt b, NM, hN, _, _ => by
    refine ⟨⟨?_, trivial⟩, by show 0 + 1 ≤ 1 + 3; decide⟩
    cases b <;> (show PyData.strOk _ = true; decide +kernel)
  | .eq l r, NM, hN, h, _ => by
    have a := atom20_fine hN h.1
    have m1 := h.2.1
    have m2 := h.2.2.1
    exact ⟨⟨by show PyData.strOk "equal" = true; decide +kernel, a.1, a.2, trivial⟩, by show max l.nest (max r.nest 0) + 1 ≤ 1 + 3; omega⟩
  | .neg f, NM, hN, h, q => by
    have a := fm_fine f NM hN h q
    exact ⟨⟨by show PyData.strOk "not" = true; decide +kernel, a.1, trivial⟩, by have := a.2; show max f.ter.nest 0 + 1 ≤ f.high + 1 + 3; omega⟩
  | .bin o f g, NM, hN, h, q => by
    have a := fm_fine f NM hN h.1 q.1
    have b := fm_fine g NM hN h.2 q.2
    refine ⟨⟨?_, a.1, b.1, trivial⟩, by have := a.2; have := b.2; show max f.ter.nest (max g.ter.nest 0) + 1 ≤ max f.high g.high + 1 + 3; omega⟩
    cases o <;> (show PyData.strOk _ = true; decide +kernel)
  | .qu c x f, NM, hN, h, q => by
    have a := fm_fine f (x :: NM) (fun y hy => by
      rcases List.mem_cons.mp hy with e | hy
      · rw [e]; exact q.1
      · exact hN y hy) h q.2
    refine ⟨⟨?_, q.1, a.1, trivial⟩, by have := a.2; show max 1 (max f.ter.nest 0) + 1 ≤ f.high + 1 + 3; omega⟩
    cases c <;> (show PyData.strOk _ = true; decide +kernel)
theorem qs_clo {S : Str → Prop} {f : Fm} (h : f.qs S) : ∀ ks : List Key, (∀ k ∈ ks, ∃ x, k = .inr x ∧ S x) → (clo f ks).qs S
  | [], _ => h
  | .inr y :: r, al => by
    obtain ⟨x, e, hx⟩ := al _ (List.mem_cons_self ..)
    cases e
    exact ⟨hx, qs_clo h r fun k hk => al k (List.mem_cons_of_mem _ hk)⟩
  | .inl _ :: r, al => qs_clo h r fun k hk => al k (List.mem_cons_of_mem _ hk)
theorem qs_ren : ∀ (φ : Fm) (η : Str → Str) (k : Nat), (φ.ren η k).2 ≤ 63 → (φ.ren η k).1.qs okS
  | .tt _, _, _, _ => trivial
  | .eq _ _, _, _, _ => trivial
  | .neg f, η, k, h => qs_ren f η k h
  | .bin _ f g, η, k, h => by
    have h : (g.ren η (f.ren η k).2).2 ≤ 63 := h
    have a := ren_high g η (f.ren η k).2
    exact ⟨qs_ren f η k (by omega), qs_ren g η _ h⟩
  | .qu _ x f, η, k, h => by
    have h : (f.ren (nmS η x (varN k)) (k + 1)).2 ≤ 63 := h
    have a := ren_high f (nmS η x (varN k)) (k + 1)
    exact ⟨varN_ok ⟨k, by omega⟩, qs_ren f _ _ h⟩
/-! ### the parts of a formula -/
def Fm.parts : Fm → List Fm
  | .tt _ => []
  | .eq _ _ => []
  | .neg f => [f]
  | .bin _ f g => [f, g]
  | .qu _ _ f => [f]
def Fm.cnt2 : Fm → Nat
  | .tt _ => 1
  | .eq _ _ => 1
  | .neg f => f.cnt2 + 1
  | .bin _ f g => f.cnt2 + g.cnt2 + 1
  | .qu _ _ f => f.cnt2 + 1
end Own
set_option maxHeartbeats 2000000
namespace Own
open PySem PySem.Spec PyProof.Rows L2 HT
def Fm.wth : Fm → List Fm → Fm
  | .neg _, [g] => .neg g
  | .bin o _ _, [g, h] => .bin o g h
  | f, _ => f
/-- not an equation, not a quantifier -/
def Fm.plain : Fm → Prop
  | .eq _ _ => False
  | .qu _ _ _ => False
  | _ => True
def renP (η : Str → Str) : Nat → List Fm → List Fm × Nat
  | k, [] => ([], k)
  | k, f :: r => ((f.ren η k).1 :: (renP η (f.ren η k).2 r).1, (renP η (f.ren η k).2 r).2)
theorem renP_snoc (η : Str → Str) : ∀ (as : List Fm) (k : Nat) (f : Fm), renP η k (as ++ [f]) = ((renP η k as).1 ++ [(f.ren η (renP η k as).2).1], (f.ren η (renP η k as).2).2)
  | [], k, f => rfl
  | a :: r, k, f => by
    show ((a.ren η k).1 :: (renP η (a.ren η k).2 (r ++ [f])).1, (renP η (a.ren η k).2 (r ++ [f])).2) = _
    rw [renP_snoc η r]
    rfl
theorem ren_plain {φ : Fm} (h : φ.plain) (η : Str → Str) (k : Nat) : φ.ren η k = (φ.wth (renP η k φ.parts).1, (renP η k φ.parts).2) := by
  cases φ with
  | tt b => rfl
  | eq l r => exact h.elim
  | neg f => rfl
  | bin o f g => rfl
  | qu a x f => exact h.elim
theorem renP_len (η : Str → Str) : ∀ (as : List Fm) (k : Nat), (renP η k as).1.length = as.length
  | [], _ => rfl
  | a :: r, k => congrArg (· + 1) (renP_len η r _)
def qnP (as : List Fm) : Nat := (as.map Fm.qn).sum
theorem renP_num (η : Str → Str) : ∀ (as : List Fm) (k : Nat), (renP η k as).2 = k + qnP as
  | [], k => rfl
  | a :: r, k => by
    have h := (ren_high a η k).2
    have i := renP_num η r (a.ren η k).2
    show (renP η (a.ren η k).2 r).2 = k + (a.qn + qnP r)
    omega
theorem qnP_parts {φ : Fm} (h : φ.plain) : qnP φ.parts = φ.qn := by
  cases φ with
  | tt b => rfl
  | eq l r => exact h.elim
  | neg f => show f.qn + 0 = f.qn; omega
  | bin o f g => show f.qn + (g.qn + 0) = f.qn + g.qn; omega
  | qu a x f => exact h.elim
theorem qnP_take : ∀ (as : List Fm) (i : Nat) (f : Fm), as[i]? = some f → qnP (as.take i) + f.qn ≤ qnP as
  | [], _, _, h => by simp at h
  | a :: r, 0, f, h => by
    have : a = f := by simpa using h
    subst this
    show 0 + a.qn ≤ a.qn + qnP r; omega
  | a :: r, i + 1, f, h => by
    have := qnP_take r i f (by simpa using h)
    show a.qn + qnP (r.take i) + f.qn ≤ a.qn + qnP r
    omega
theorem parts_high {φ f : Fm} (h : f ∈ φ.parts) : f.high < φ.high := by
  cases φ with
  | tt b => cases h
  | eq l r => cases h
  | neg g => rw [List.mem_singleton.mp h]; show g.high < g.high + 1; omega
  | bin o g k =>
    show f.high < max g.high k.high + 1
    rcases List.mem_cons.mp h with e | h
    · rw [e]; omega
    · rw [List.mem_singleton.mp h]; omega
  | qu a x g => rw [List.mem_singleton.mp h]; show g.high < g.high + 1; omega
/-- sides of an equation, loosely -/
def lw (_ : Str) (n : Nat) : Prop := n ≤ 3
def strK (k : Key) : Prop := ∃ x, k = .inr x
theorem sym20_lw (f : Str) (n : Nat) (h : sym20 f n) : lw f n := by
  show n ≤ 3
  rcases h with ⟨_, rfl⟩ | ⟨_, rfl⟩ | ⟨_, rfl⟩ | ⟨_, rfl⟩ <;> decide
theorem atom20_loose {NM : List Str} {l r : Ter} (a : atom20 NM l r) : l.wf lw strK ∧ r.wf lw strK := by
  have u : ∀ k, nam20 NM k → strK k := fun k h => by obtain ⟨x, e, _⟩ := h; exact ⟨x, e⟩
  rcases a with ⟨h1, h2⟩ | ⟨f, as, rfl, h2, h3, rfl⟩
  · exact ⟨wf_mono sym20_lw u l h1, wf_mono sym20_lw u r h2⟩
  · refine ⟨⟨?_, wfs_mono sym20_lw u as h3⟩, ⟨by show 0 ≤ 3; decide, trivial⟩⟩
    show as.length ≤ 3
    rcases h2 with ⟨_, e⟩ | ⟨_, e⟩ | ⟨_, e⟩ <;> omega
/-- the formulas that wait, with the names bound around them -/
abbrev Wt := Fm × List Key
inductive WtAt (H : Hp) : V → Wt → Prop
  | mk {p b : Addr} {x : V} {φ : Fm} {bd : List Key} : H p = some (.tup [x, .ref b]) → TmAt H x φ.ter → H b = some (.tup (bd.map kV)) → WtAt H (.ref p) (φ, bd)
inductive WtAll (H : Hp) : List V → List Wt → Prop
  | nil : WtAll H [] []
  | cons {v : V} {vs : List V} {x : Wt} {xs : List Wt} : WtAt H v x → WtAll H vs xs → WtAll H (v :: vs) (x :: xs)
theorem WtAt.mono {H H' : Hp} (m : Tups H H') {v : V} {x : Wt} (h : WtAt H v x) : WtAt H' v x := by
  cases h with
  | mk e1 e2 e3 => exact .mk (m _ _ e1) (TmAt.mono m _ _ e2) (m _ _ e3)
theorem WtAll.mono {H H' : Hp} (m : Tups H H') : ∀ {vs : List V} {xs : List Wt}, WtAll H vs xs → WtAll H' vs xs
  | _, _, .nil => .nil
  | _, _, .cons a r => .cons (a.mono m) (r.mono m)
theorem WtAll.app {H : Hp} : ∀ {vs ws : List V} {xs ys : List Wt}, WtAll H vs xs → WtAll H ws ys → WtAll H (vs ++ ws) (xs ++ ys)
  | _, _, _, _, .nil, b => b
  | _, _, _, _, .cons a r, b => .cons a (r.app b)
theorem WtAll.len {H : Hp} : ∀ {vs : List V} {xs : List Wt}, WtAll H vs xs → vs.length = xs.length
  | _, _, .nil => rfl
  | _, _, .cons _ r => congrArg (· + 1) r.len
theorem WtAll.last {H : Hp} : ∀ {vs : List V} {xs : List Wt}, WtAll H vs xs → vs ≠ [] → ∃ vs' v xs' x, vs = vs' ++ [v] ∧ xs = xs' ++ [x] ∧ WtAll H vs' xs' ∧ WtAt H v x
  | _, _, .nil, h => absurd rfl h
  | _, _, .cons a .nil, _ => ⟨[], _, [], _, rfl, rfl, .nil, a⟩
  | _, _, .cons a (.cons b r), _ => by
    obtain ⟨vs', v, xs', x, e1, e2, h1, h2⟩ := WtAll.last (.cons b r) (by simp)
    exact ⟨_ :: vs', v, _ :: xs', x, by rw [e1]; rfl, by rw [e2]; rfl, .cons a h1, h2⟩
def fvW (acc : List Key) (st : List Wt) : List Key := st.foldl (fun a e => e.1.fv e.2 a) acc
def cntW (st : List Wt) : Nat := (st.map fun e => e.1.cnt2).sum
theorem cntW_app (a b : List Wt) : cntW (a ++ b) = cntW a + cntW b := by unfold cntW; rw [List.map_append, List.sum_append]
theorem cnt2_pos : ∀ φ : Fm, 1 ≤ φ.cnt2
  | .tt _ => Nat.le_refl _
  | .eq _ _ => Nat.le_refl _
  | .neg _ => Nat.succ_le_succ (Nat.zero_le _)
  | .bin _ _ _ => Nat.succ_le_succ (Nat.zero_le _)
  | .qu _ _ _ => Nat.succ_le_succ (Nat.zero_le _)
def Fm.inner (φ : Fm) (bd : List Key) : List Key := match φ with
  | .qu _ x _ => bd ++ [.inr x]
  | _ => bd
/-- an equation tells its names at once; of all others the parts tell theirs -/
def Fm.here (φ : Fm) (bd acc : List Key) : List Key := match φ with
  | .eq l r => r.fv bd (l.fv bd acc)
  | _ => acc
theorem fv_parts (φ : Fm) (bd acc : List Key) : φ.fv bd acc = fvW (φ.here bd acc) (φ.parts.map fun f => (f, φ.inner bd)) := by cases φ <;> rfl
theorem cnt_parts (φ : Fm) (bd : List Key) : cntW (φ.parts.map fun f => (f, φ.inner bd)) + 1 = φ.cnt2 := by
  cases φ with
  | tt b => rfl
  | eq l r => rfl
  | neg f => show f.cnt2 + 0 + 1 = f.cnt2 + 1; omega
  | bin o f g => show f.cnt2 + (g.cnt2 + 0) + 1 = f.cnt2 + g.cnt2 + 1; omega
  | qu a x f => show f.cnt2 + 0 + 1 = f.cnt2 + 1; omega
theorem fmS_inner {φ f : Fm} {L : List Str} (h : fmS L φ) (m : f ∈ φ.parts) : ∃ L2, fmS L2 f := by
  cases φ with
  | tt b => cases m
  | eq l r => cases m
  | neg g => rw [List.mem_singleton.mp m]; exact ⟨L, h⟩
  | bin o g k =>
    rcases List.mem_cons.mp m with e | m
    · rw [e]; exact ⟨L, h.1⟩
    · rw [List.mem_singleton.mp m]; exact ⟨L, h.2⟩
  | qu a x g => rw [List.mem_singleton.mp m]; exact ⟨x :: L, h⟩
theorem two_size {NM : List Str} {l r : Ter} (h : fmS NM (.eq l r)) : Ter.sizes [l, r] ≤ 40 := by
  have a := h.2.2.2.1
  have b := h.2.2.2.2
  show l.size + (r.size + 0) ≤ 40
  omega
end Own
set_option maxHeartbeats 2000000
namespace Own
open PySem PySem.Spec PyProof.Rows L2 HT
/-! ### own classes: a method that raises, len(o), x in o -/
section
variable {X : Cx} {CX : CXT} {pins : List (Addr × Obj)} {σ : L2.St} {H : Hp} {s : Shared} {a C dx f : Addr} {fs : List (Str × V)} {fd : FuncData} {ps : List Str} {k : Nat} {sp : Sp} {E : L2.St → XK} {m : Str} {o e : Expr} {es : List Expr} {ta : TE} {t : TA} {apos pos : Pos}
def tMethE (C : Addr) (m : Str) (sp : Sp) (E : L2.St → XK) (ta : TE) (t : TA) : TE := fun σ H Q => ta σ H fun x H1 => ∃ a dx fs, x = .ref a ∧ H1 a = some (.ins C dx fs) ∧ fs.lookup m = none ∧ t σ H1 fun vs H2 => sp (x :: vs) H2 Q (E σ)
theorem pe_methE {pl : Sem Bool} (he : PE X o ta) (c : Cls X.K C) (hm : Meth X.K C m f) (F : FnOk X.prog X.w X.K X.mg X.base CX k f fd ps sp) (hr : Room k X.A) (hb : Binds X.K fd ps []) (hx : ∀ σ, PassesAt CX X σ (E σ)) (ha : PA X (e :: es) t)
    (hst : starEach (e :: es) X.env = (false, eval e X.env) :: starEach es X.env := by rfl) (hpl : (backTo pos (starEach es X.env)).any (·.1) = false := by rfl)
    (ht : eval (.Call (.Attribute o m apos) (e :: es) [] pos) X.env = (do
      let ov ← eval o X.env
      standAt apos.atName
      let (f, first) ← holding [ov] (getMethod ov m pl)
      callWith pos f first (backTo pos (starEach (e :: es) X.env)) (backToKw pos (keywordEach [] X.env))) := by rfl) :
    PE X (.Call (.Attribute o m apos) (e :: es) [] pos) (tMethE C m sp E ta t) := by
  refine ⟨fun pins s σ H Q I h => ?_⟩
  refine PySem.W.methodCall_KW (pl := pl) (thn (he.run pins s σ H _ I h) fun u s1 ⟨x, H1, I1, rx, a, dx, fs, ex, ea, l, q⟩ => ?_) ht
  subst ex
  obtain rfl : u = Value.ref a := rx
  refine getmeth_ok I1 ea c hm l ?_
  refine PySem.W.callWith_K (first := [.ref a]) (h₀ := X.base) I.ok.mod.kin hm.kp (thn (ha.run pos pins s1 σ H1 _ I1 q) fun us s2 ⟨vs, H2, I2, r, q2⟩ => ⟨I2.kIn, ?_⟩) hst hpl
  exact run_fnS (us := .ref a :: us) (vs := .ref a :: vs) F hr hb (hx σ) I2 (.cons rfl r) q2
/-- the callee runs within a built-in's call -/
theorem run_in {A : Around} {E : XK} {Q : VK} {us : List Value} {ws : List V} (F : FnOk X.prog X.w X.K X.mg X.base CX k f fd ps sp) (hr : Room k A) (e0 : Env0 X.prog X.w X.K X.mg X.base A X.stack s H) (hb : Binds X.K fd ps []) (hx : Passes CX X E) (I : Inv X pins σ H s) (r : Vals ws us) (h : sp ws H Q E) :
    wpAny (model X.prog X.w) A (call (.ref f) us) (EP X pins σ Q) X.xe s := by
  have hl : us.length = ps.length := by rw [← r.length]; exact F.len _ _ _ _ h
  have b := hb s us I.kIn (by rw [List.append_nil]; exact hl)
  rw [List.append_nil] at b
  refine wpAny_call (codeAny_mono (F.run A X.stack s H ⟨us, []⟩ us ws Q E hr e0 b r h) fun r s' hq => ?_)
  cases r with
  | error e => exact hx pins σ H s e s' I hq
  | ok fl =>
    cases fl with
    | ret u => exact I.after hq
    | next => exact False.elim hq
    | brk => exact False.elim hq
    | cont => exact False.elim hq
theorem ins_at (I : Inv X pins σ H s) (e : H a = some (.ins C dx fs)) : ∃ od, PySem.W.InstAt s.heap a (PySem.W.instObj C dx) C (some od) := by
  obtain ⟨mA, O, _⟩ := ins_get I.hok e
  obtain ⟨od, J, _⟩ := O.look
  exact ⟨od, J⟩
def rLenOwn (C : Addr) (sp : Sp) (E : XK) : List V → Hp → VK → Prop := fun xs H Q => ∃ a dx fs, xs = [V.ref a] ∧ H a = some (.ins C dx fs) ∧ sp [.ref a] H (fun z H' => ∃ i : Int, z = .int i ∧ 0 ≤ i ∧ i < 2 ^ 63 ∧ Q z H') E
theorem call_lenOwn {E : XK} (hs : PySem.W.findIn X.K (.ref C) "__len__" = some (some (.ref f))) (hf : PySem.W.isFn X.K (.ref f) = true) (F : FnOk X.prog X.w X.K X.mg X.base CX k f fd ps sp) (hr : Room (k + 1) X.A) (hb : Binds X.K fd ps []) (hx : Passes CX X E) : CallR X (.builtin "len") (rLenOwn C sp E) := by
  intro pins s σ H xs us Q I r h
  obtain ⟨a, dx, fs, rfl, hsl, q⟩ := h
  obtain ⟨u, rfl, ru⟩ := r.one
  cases (show u = Value.ref a from ru)
  obtain ⟨od, J⟩ := ins_at I hsl
  obtain ⟨m, hF⟩ := I.fr
  refine PySem.W.len_K hF I.ok.mod.kin J hs hf (wpAny_mono (run_in (us := [.ref a]) (ws := [.ref a]) F hr.in1 I.env0.in1 hb hx I (.cons rfl .nil) q) (fun r s' z => ?_) fun _ _ y => y)
  obtain ⟨z', H', I', rz, i, ei, h0, h1, qz⟩ := z
  subst ei
  obtain ⟨t, e⟩ := (show ∃ t, r = Value.int i t from rz)
  subst e
  exact ⟨⟨h0, h1⟩, .int i, H', I'.tok _, ⟨_, rfl⟩, qz⟩
def rInOwn (C : Addr) (sp : Sp) (E : XK) : R2 := fun x y H Q => ∃ a dx fs, y = V.ref a ∧ H a = some (.ins C dx fs) ∧ sp [.ref a, x] H (fun z H' => ∃ b : Bool, z = .bl b ∧ Q (.bl b) H') E
theorem op_inOwn {E : XK} (hs : PySem.W.findIn X.K (.ref C) "__contains__" = some (some (.ref f))) (hf : PySem.W.isFn X.K (.ref f) = true) (F : FnOk X.prog X.w X.K X.mg X.base CX k f fd ps sp) (hr : Room k X.A) (hb : Binds X.K fd ps []) (hx : Passes CX X E) : OpR X (compareOp .In) (rInOwn C sp E) := by
  intro pins s σ H x y v u Q I rx ry h
  obtain ⟨a, dx, fs, rfl, hsl, q⟩ := h
  cases (show u = Value.ref a from ry)
  obtain ⟨od, J⟩ := ins_at I hsl
  obtain ⟨m, hF⟩ := I.fr
  refine PySem.W.in_K hF I.ok.mod.kin J hs hf (wpAny_mono (run_in (us := [.ref a, v]) (ws := [.ref a, x]) F hr I.env0 hb hx I (.cons rfl (.cons rx .nil)) q) (fun r s' z => ?_) fun _ _ y => y)
  obtain ⟨z', H', I', rz, b, eb, qz⟩ := z
  subst eb
  cases (show r = Value.bool b from rz)
  exact wpAny_truthy_bool ⟨.bl b, H', I', rfl, qz⟩
end
end Own
namespace Own
open PySem PySem.Spec PyProof.Rows L2 HT

/-! ### enumerate(a tuple) -/
/-- the tuple at a, each item in a new pair with its number -/
def IteT (K : PySem.W.Frag) (a : Addr) : It :=
  ⟨fun i H => ∃ (xs : List V) (x : V), SqT K H a xs ∧ xs[i]? = some x, fun i H v H' => ∃ T x, v = .ref T ∧ H T = none ∧ H' = upd H T (.tup [.int (i : Nat), x]) ∧ ∀ xs, SqT K H a xs → xs[i]? = some x, fun i H => ∃ xs : List V, SqT K H a xs ∧ xs.length = i⟩
theorem apart_ti {h : Heap} {a it : Addr} {its : Array Value} {i : Nat} (p : h.IsTuple a its) (q : h.IsTupleIter it a i) : a ≠ it := fun z => by
  subst z
  obtain ⟨o, ho, hc, _⟩ := p
  obtain ⟨o', ho', hc', _⟩ := q
  rw [ho] at ho'
  cases ho'
  rw [hc] at hc'
  exact absurd hc' (by decide)
theorem turn_enumT {P : Program} {w : World} {K : PySem.W.Frag} {elts : List Expr} {kk : Nat} {tpos : Pos} (a e it : Addr) :
    Turn P w K (.Tuple elts kk tpos) (IteT K a) [e, it] e (fun i h => (∃ old, IsEnum h e it ((i : Nat) : Int) old) ∧ h.IsTupleIter it a i ∧ e ≠ it ∧ e ≠ a) where
  mem := by simp
  obj := fun i h st b hb => by
    obtain ⟨⟨old, he⟩, ⟨o, ho, hc, hd⟩, _⟩ := st
    have e' : b = e ∨ b = it := by simpa using hb
    rcases e' with z | z
    · rw [z]; exact ⟨_, he, fun v q => nomatch q⟩
    · rw [z]; exact ⟨o, ho, fun v q => by rw [hd] at q; cases q⟩
  keep := fun i h h' st k => let ⟨⟨old, he⟩, hi, hne⟩ := st; ⟨⟨old, k e (by simp) _ he⟩, hi.at fun o q => k it (by simp) o q, hne⟩
  item := by
    intro X hP hw hK hc i pins s σ H E I hf st hg
    subst hP hw hK
    obtain ⟨⟨old, he⟩, hit, hne, hea⟩ := st
    obtain ⟨xs, x, hq, hx⟩ := hg
    obtain ⟨its, rv, p, hz⟩ := I.tuple hq
    have p : s.heap.IsTuple a its.toArray := p
    obtain ⟨u, hu, ru⟩ := rv.get hx
    have hel : e < s.heap.objs.size := Heap.lt_size he
    have hil : it < s.heap.objs.size := by obtain ⟨_, q, _⟩ := hit; exact Heap.lt_size q
    have hai := apart_ti p hit
    have hlt : i < its.toArray.size := by
      rw [List.size_toArray]
      exact (List.getElem?_eq_some_iff.mp hu).1
    refine wpAny_pyNext_enum_itemD (Draws.tuple (A := X.A.in1) (I.ok.hd hc) it a hai its.toArray) he ⟨hit, p⟩ hlt hne (fun m => by
      rcases List.mem_cons.mp m with z | m
      · exact hne z
      · exact hea (List.mem_singleton.mp m)) fun x' h' tk hP ho hit' hT hsz hk => ?_
    have ex : x' = u := by
      have : its.toArray[i]? = some x' := hP
      rw [List.getElem?_toArray, hu] at this
      exact (Option.some.inj this).symm
    subst ex
    refine ⟨_, rfl, wpAny_letOwnedTupleGo_enum (s := { s with heap := h', toks := tk + 1 }) ho fun h'' he' sb => ?_⟩
    have hT2 : h''.get? s.heap.objs.size = some { cls := .type "tuple", data := .seq #[.int i tk, x'] } := (sb.2 _ (Nat.ne_of_gt hel)).trans hT
    have new : ObjOk X.prog X.w (upd H s.heap.objs.size (.tup [.int (i : Nat), x])) h'' s.heap.objs.size (.tup [.int (i : Nat), x]) :=
      ⟨by show 2 ≤ sizeLine; decide, [.int i tk, x'], .cons ⟨_, rfl⟩ (.cons ru .nil), ⟨_, hT2, rfl, _, rfl⟩⟩
    have I1 : Inv X pins σ (upd H s.heap.objs.size (.tup [.int (i : Nat), x])) { s with heap := h'', toks := tk + 1 } :=
      I.turnedNew (ch := [e, it]) (fun b ob hb q => (sb.2 b (fun z => hb (by simp [z]))).trans (hk b ob (fun z => hb (by simp [z])) (fun z => hb (by simp [z])) q)) hf (Nat.le_refl _) new
    refine ⟨.ref s.heap.objs.size, _, I1, rfl, ⟨_, x, rfl, I.hok.fresh (Nat.le_refl _), rfl, fun ys hy => ?_⟩, ⟨⟨x', ?_⟩, hit'.1.at fun o q => (sb.2 it (Ne.symm hne)).trans q, hne, hea⟩, fun b hb => ?_⟩
    · rw [I.tuple_inj hy hq]; exact hx
    · have e1 : ((i + 1 : Nat) : Int) = (i : Int) + 1 := by omega
      rw [e1]; exact he'
    · have hb' : b < s.heap.objs.size := by
        have e' : b = e ∨ b = it := by simpa using hb
        rcases e' with z | z
        · rw [z]; exact hel
        · rw [z]; exact hil
      rw [upd_ne (Nat.ne_of_lt hb')]
      exact (hf b hb).1
  done := by
    intro X hP hw hK hc i pins s σ H E I hf st hg
    subst hP hw hK
    obtain ⟨⟨old, he⟩, hit, hne, hea⟩ := st
    obtain ⟨xs, hq, hx⟩ := hg
    obtain ⟨its, rv, p, hz⟩ := I.tuple hq
    have p : s.heap.IsTuple a its.toArray := p
    obtain ⟨f0, f1, f2, f3, f4, f5⟩ := hf it (by simp)
    have hl := rv.length
    have hai := apart_ti p hit
    have hi : i = its.toArray.size := by rw [List.size_toArray]; omega
    have he2 := he
    rw [hi] at hit
    refine wpAny_pyNext_enum_endD (Draws.tuple (A := X.A.in1) (I.ok.hd hc) it a hai its.toArray) he ⟨hit, p⟩ fun h' eb => ⟨rfl, I.turned (t' := s.toks) (fun b o hb q => eb b o hb q) f0 f1 f3 f4 f5⟩
  self := fun A i s Q E st h => let ⟨⟨_, he⟩, _⟩ := st; wpAny_pyIter_enum he h

set_option maxHeartbeats 1000000 in
theorem meets_enumerate_new1 {v : Value} {o : Obj} {G : Heap → Prop} (B : Begins v o G) :
    Meets (Builtin.«enumerate.__new__» ⟨[.type "enumerate", v], []⟩) (fun _ R s => G s.heap ∧
      R (.ok (.ret (.ref (s.heap.push o).objs.size))) { s with heap := (s.heap.push o).push { cls := .type "enumerate", data := .fields #[.none, .bool false, .ref s.heap.objs.size, rawInt 0, .none, .none] } }) :=
  .of_wp fun prog w A R s h => by
    obtain ⟨hp, g, d, tk, os⟩ := s; obtain ⟨h1, h⟩ := h
    have hsub := sub_enumerate
    have q1 : ∀ {A' : Around} {E : Value → Shared → Prop} {Q : Value → Shared → Prop}, Q (.ref hp.objs.size) ⟨hp.push o, g, d, tk, os⟩ → wpAny (model prog w) A' (pyIter v) Q E ⟨hp, g, d, tk, os⟩ :=
      fun q => B.iter prog w _ _ ⟨hp, g, d, tk, os⟩ _ h1 q
    wp_walk using q1
    refine wpAny_stack_any fun st => wpAny_pure ?_
    split
    · rename_i c _ _ _ _ _
      cases (c == Value.type "enumerate")
      · wp_walk using q1
        exact ⟨_, rfl, h⟩
      · wp_walk using q1
        exact ⟨_, rfl, h⟩
    · wp_walk using q1
      exact ⟨_, rfl, h⟩
theorem call_enumerate_tup {prog : Program} {w : World} {A : Around} {E : Value → Shared → Prop} {s : Shared} {t : Addr} {items : Array Value} {Q : Value → Shared → Prop} (h1 : s.heap.IsTuple t items)
    (h : ∀ h', IsEnum h' (s.heap.objs.size + 1) s.heap.objs.size 0 .none → h'.IsTupleIter s.heap.objs.size t 0 → h'.objs.size = s.heap.objs.size + 2 →
      (∀ b o, s.heap.get? b = some o → h'.get? b = some o) → Q (.ref (s.heap.objs.size + 1)) { s with heap := h' }) :
    wpAny (model prog w) A (call (.type "enumerate") [.ref t]) Q E s := by
  refine callType_new F.called_enumerate (by decide) (F.typeCall_enumerate_1 _) (F.newCall_enumerate_1 _) (fun obj => F.args_object_init_2 obj _) F.entry_enumerate_new
    (meets_enumerate_new1 (begins_tuple t items)) ⟨h1, ?_⟩
  have hz : (s.heap.push { cls := .type "tuple_iterator", data := .fields #[.ref t, .int 0 0] }).objs.size = s.heap.objs.size + 1 := Heap.size_push ..
  show _ ∧ _
  rw [hz]
  have he : IsEnum ((s.heap.push { cls := .type "tuple_iterator", data := .fields #[.ref t, .int 0 0] }).push
      { cls := .type "enumerate", data := .fields #[.none, .bool false, .ref s.heap.objs.size, rawInt 0, .none, .none] }) (s.heap.objs.size + 1) s.heap.objs.size 0 .none := by
    have := Heap.get?_push_size (s.heap.push { cls := .type "tuple_iterator", data := .fields #[.ref t, .int 0 0] })
      (o := { cls := .type "enumerate", data := .fields #[.none, .bool false, .ref s.heap.objs.size, rawInt 0, .none, .none] }) rfl
    rw [hz] at this; exact this
  refine ⟨⟨_, he, rfl⟩, h _ he ⟨_, Heap.get?_push_of_some _ (Heap.get?_push_size _ rfl), rfl, rfl⟩ (by rw [Heap.size_push, hz]) fun b o x => Heap.get?_push_of_some _ (Heap.get?_push_of_some _ x)⟩
def iEnumT (K : PySem.W.Frag) (ta : TA) : TI := fun σ H R => ta σ H fun vs H1 => ∃ a xs, vs = [.ref a] ∧ SqT K H1 a xs ∧ R (IteT K a) H1
theorem pi_enumT {X : Cx} {e : Expr} {ta : TA} {p pos tpos : Pos} {elts : List Expr} {kk : Nat} (hg : Gl X "enumerate") (hm : X.mg "enumerate" = none) (ha : PA X [e] ta) (hs : starEach [e] X.env = [(false, eval e X.env)] := by rfl) :
    PI X (.Tuple elts kk tpos) (.Call (.Name "enumerate" p) [e] [] pos) (iEnumT X.K ta) := by
  refine ⟨fun pins s σ H R I h => ?_⟩
  refine Call_ (ld_blt I hg hm boot_enumerate (PyProof.Rows.callWith_type1 (thn (ha.run pos pins s σ H _ I h) fun us s1 ⟨vs, H1, I1, r1, q1⟩ => ?_) hs rfl))
  obtain ⟨a, xs, ex, hq, q⟩ := q1
  subst ex
  cases r1 with
  | cons r rr =>
    cases rr
    cases r
    obtain ⟨its, rv, p', hz⟩ := I1.tuple hq
    have p' : s1.heap.IsTuple a its.toArray := p'
    refine call_enumerate_tup p' fun h' he hit hsz hk => wpAny_pyIter_enum he ?_
    have I2 : Inv X pins σ H1 { s1 with heap := h' } := I1.kept (t' := s1.toks) hk
    have hla : a < s1.heap.objs.size := by obtain ⟨_, q, _⟩ := p'; exact Heap.lt_size q
    refine ⟨s1.heap.objs.size + 1, [s1.heap.objs.size + 1, s1.heap.objs.size], _, _, H1, rfl, I2, turn_enumT a (s1.heap.objs.size + 1) s1.heap.objs.size, ⟨⟨.none, he⟩, hit, Nat.succ_ne_self _, Nat.ne_of_gt (Nat.lt_succ_of_lt hla)⟩, fun b hb => ?_, q⟩
    have e' : b = s1.heap.objs.size + 1 ∨ b = s1.heap.objs.size := by simpa using hb
    have hle : s1.heap.objs.size ≤ b := by
      rcases e' with z | z
      · rw [z]; exact Nat.le_add_right _ _
      · rw [z]; exact Nat.le_refl _
    exact I1.fpOk hle (I1.hok.fresh hle)
--WALK
theorem walk_enumT {K : PySem.W.Frag} {a : Addr} {xs : List V} : Walk (IteT K a) xs.length (fun H => SqT K H a xs) (YPair (fun i => some (.int (i : Nat))) (fun i => xs[i]?)) := by
  refine ⟨fun i _ hi q => ⟨xs, xs[i], q, by simp [hi]⟩, fun _ q => ⟨xs, q, rfl⟩, fun i H v H' _ q y => ?_⟩
  obtain ⟨T, x, h1, h2, h3, h4⟩ := y
  exact ⟨T, .int (i : Nat), x, h1, h2, h3, rfl, h4 xs q⟩
end Own
namespace Own
open PySem PySem.Spec PyProof.Rows L2 RT HT

/-! ### pieces of tuples and sums of them, wherever they stand -/
theorem slA {K : PySem.W.Frag} {H : Hp} {a : Addr} {xs : List V} {lo hi : Option Int} {Q : VK} (e : H a = some (.tup xs)) (q : ∀ p H', Same H H' → H' p = some (.tup (cutV xs lo hi)) → Q (.ref p) H') : rSlA K (.ref a) lo hi H Q := by
  refine ⟨a, xs, rfl, .inl (.inl e), fun h => ?_, fun _ p np => q p _ (same_new np _) upd_same⟩
  refine q a H (Same.refl _) ?_
  rw [e]
  have : cutV xs lo hi = xs := by
    unfold cutV
    rw [h.1, h.2]
    simp
  rw [this]
theorem slLo {σ : L2.St} {K : PySem.W.Frag} {H : Hp} {a : Addr} {xs : List V} {lo : Option Int} {Q : VK} (e : H a = some (.tup xs)) (q : ∀ p H', Same H H' → H' p = some (.tup (cutV xs lo none)) → Q (.ref p) H') : tNoPart σ H (fun u H3 => rSlA K (.ref a) lo u H3 Q) := slA e q
theorem catA {K : PySem.W.Frag} {H : Hp} {a b : Addr} {xs ys : List V} {Q : VK} (ea : H a = some (.tup xs)) (eb : H b = some (.tup ys)) (l : xs.length + ys.length ≤ 1000000) (q : ∀ p H', Same H H' → H' p = some (.tup (xs ++ ys)) → Q (.ref p) H') : rCatA K (.ref a) (.ref b) H Q := by
  refine ⟨a, b, xs, ys, rfl, rfl, .inl (.inl ea), .inl (.inl eb), small6 l, fun h => ?_, fun _ h => ?_, fun _ _ p np => q p _ (same_new np _) upd_same⟩
  · subst h
    exact q b H (Same.refl _) eb
  · subst h
    exact q a H (Same.refl _) (by rw [List.append_nil]; exact ea)
theorem LitAll.take {H : Hp} : ∀ {vs : List V} {c : List Lit} (i : Nat), LitAll H vs c → LitAll H (vs.take i) (c.take i)
  | _, _, 0, _ => .nil
  | _, _, _ + 1, .nil => .nil
  | _, _, i + 1, .cons a r => .cons a (r.take i)
theorem LitAll.drop {H : Hp} : ∀ {vs : List V} {c : List Lit} (i : Nat), LitAll H vs c → LitAll H (vs.drop i) (c.drop i)
  | _, _, 0, h => h
  | _, _, _ + 1, .nil => .nil
  | _, _, i + 1, .cons _ r => r.drop i
/-! ### alike and opposite literals -/
def eT (t u : Ter) : Bool := PyData.eqv t.dat u.dat
theorem eT_comm (t u : Ter) : eT t u = eT u t := PySem.W.eqv_comm _ _
theorem eT_refl (t : Ter) : eT t t = true := ter_refl t
def litD (x : Lit) : PyData := .tuple [.bool x.1, x.2.1.dat, x.2.2.dat]
theorem dp_lit {K : PySem.W.Frag} {H : Hp} {v : V} {x : Lit} (h : LitAt H v x) : Dp K H v (litD x) := by
  cases h with
  | mk e a b => exact .tup (.inl (.inl e)) (.cons (.bl _) (.cons (dp_ter _ _ a) (.cons (dp_ter _ _ b) .nil)))
theorem dp_lits {K : PySem.W.Frag} {H : Hp} : ∀ {vs : List V} {c : List Lit}, LitAll H vs c → DpAll K H vs (c.map litD)
  | _, _, .nil => .nil
  | _, _, .cons a r => .cons (dp_lit a) (dp_lits r)
theorem eqv_lit (x y : Lit) : PyData.eqv (litD x) (litD y) = ((x.1 == y.1) && (eT x.2.1 y.2.1 && eT x.2.2 y.2.2)) := by
  have e : PyData.eqv (litD x) (litD y) = ((x.1 == y.1) && (eT x.2.1 y.2.1 && (eT x.2.2 y.2.2 && true))) := rfl
  rw [e, Bool.and_true]
def alikeL (x y : Lit) : Bool := (x.1 == y.1) && ((eT x.2.1 y.2.1 && eT x.2.2 y.2.2) || (!isTrueT x.2.2 && (!isTrueT y.2.2 && (eT x.2.1 y.2.2 && eT x.2.2 y.2.1))))
theorem alike1 {x y : Lit} (h : PyData.eqv (litD x) (litD y) = true) : alikeL x y = true := by
  rw [eqv_lit] at h
  unfold alikeL
  revert h
  cases (x.1 == y.1) <;> cases eT x.2.1 y.2.1 <;> cases eT x.2.2 y.2.2 <;> simp
theorem alike2 {x y : Lit} (h : PyData.eqv (litD x) (litD y) = false) (g : isTrueT x.2.2 = true ∨ isTrueT y.2.2 = true) : alikeL x y = false := by
  rw [eqv_lit] at h
  unfold alikeL
  revert h g
  cases (x.1 == y.1) <;> cases eT x.2.1 y.2.1 <;> cases eT x.2.2 y.2.2 <;> cases isTrueT x.2.2 <;> cases isTrueT y.2.2 <;> simp
theorem alike3 {x y : Lit} (h : PyData.eqv (litD x) (litD y) = false) (g1 : isTrueT x.2.2 = false) (g2 : isTrueT y.2.2 = false) : alikeL x y = PyData.eqv (litD x) (litD (y.1, y.2.2, y.2.1)) := by
  rw [eqv_lit] at h
  refine Eq.trans ?_ (eqv_lit x (y.1, y.2.2, y.2.1)).symm
  show ((x.1 == y.1) && ((eT x.2.1 y.2.1 && eT x.2.2 y.2.2) || (!isTrueT x.2.2 && (!isTrueT y.2.2 && (eT x.2.1 y.2.2 && eT x.2.2 y.2.1))))) = ((x.1 == y.1) && (eT x.2.1 y.2.2 && eT x.2.2 y.2.1))
  rw [g1, g2]
  revert h
  cases (x.1 == y.1) <;> cases eT x.2.1 y.2.1 <;> cases eT x.2.2 y.2.2 <;> simp
def oppL (x y : Lit) : Bool := (x.1 != y.1) && alikeL (y.1, x.2) y
/-- the same of the law: the sign of the first one turned -/
def oppR (x y : Lit) : Bool := alikeL (!x.1, x.2) y
theorem opp_sym (x y : Lit) : oppL x y = oppR y x := by
  unfold oppL oppR alikeL
  show ((x.1 != y.1) && ((y.1 == y.1) && ((eT x.2.1 y.2.1 && eT x.2.2 y.2.2) || (!isTrueT x.2.2 && (!isTrueT y.2.2 && (eT x.2.1 y.2.2 && eT x.2.2 y.2.1)))))) = (((!y.1) == x.1) && ((eT y.2.1 x.2.1 && eT y.2.2 x.2.2) || (!isTrueT y.2.2 && (!isTrueT x.2.2 && (eT y.2.1 x.2.2 && eT y.2.2 x.2.1)))))
  rw [eT_comm y.2.1 x.2.1, eT_comm y.2.2 x.2.2, eT_comm y.2.1 x.2.2, eT_comm y.2.2 x.2.1]
  cases x.1 <;> cases y.1 <;> cases isTrueT x.2.2 <;> cases isTrueT y.2.2 <;> cases eT x.2.1 y.2.2 <;> cases eT x.2.2 y.2.1 <;> rfl
def trivL (x : Lit) : Bool := x.1 && eT x.2.1 x.2.2
def tautL (pre : List Lit) : List Lit → Bool
  | [] => false
  | x :: r => trivL x || (pre.any (oppL x) || tautL (pre ++ [x]) r)
def tautR : List Lit → Bool
  | [] => false
  | x :: r => trivL x || (r.any (oppR x) || tautR r)
theorem taut_gen : ∀ (c pre : List Lit), tautL pre c = (tautR c || pre.any fun p => c.any fun x => oppL x p)
  | [], pre => by
    show false = (false || pre.any fun p => false)
    induction pre with
    | nil => rfl
    | cons p r ih => simpa using ih
  | x :: r, pre => by
    show (trivL x || (pre.any (oppL x) || tautL (pre ++ [x]) r)) = ((trivL x || (r.any (oppR x) || tautR r)) || pre.any fun p => (oppL x p || r.any fun y => oppL y p))
    rw [taut_gen r (pre ++ [x]), List.any_append]
    have e1 : ([x].any fun p => r.any fun y => oppL y p) = r.any (oppR x) := by
      show ((r.any fun y => oppL y x) || false) = _
      rw [Bool.or_false]
      congr 1
      funext y
      exact opp_sym y x
    have e2 : (pre.any fun p => (oppL x p || r.any fun y => oppL y p)) = (pre.any (oppL x) || pre.any fun p => r.any fun y => oppL y p) := by
      induction pre with
      | nil => rfl
      | cons p q ih =>
        show ((oppL x p || r.any fun y => oppL y p) || q.any fun p => (oppL x p || r.any fun y => oppL y p)) = ((oppL x p || q.any (oppL x)) || ((r.any fun y => oppL y p) || q.any fun p => r.any fun y => oppL y p))
        rw [ih]
        cases oppL x p <;> cases (r.any fun y => oppL y p) <;> cases q.any (oppL x) <;> rfl
    rw [e1, e2]
    cases trivL x <;> cases tautR r <;> cases r.any (oppR x) <;> cases pre.any (oppL x) <;> cases (pre.any fun p => r.any fun y => oppL y p) <;> rfl
theorem taut_eq (c : List Lit) : tautL [] c = tautR c := by rw [taut_gen]; show (tautR c || false) = _; rw [Bool.or_false]
theorem tautL_at {c : List Lit} {i : Nat} {x : Lit} (h : c[i]? = some x) : tautL (c.take i) (c.drop i) = (trivL x || ((c.take i).any (oppL x) || tautL (c.take (i + 1)) (c.drop (i + 1)))) := by
  have hi := (List.getElem?_eq_some_iff.mp h).1
  have e : c.drop i = x :: c.drop (i + 1) := by rw [List.drop_eq_getElem_cons hi]; rw [List.getElem?_eq_getElem hi] at h; cases h; rfl
  have e2 : c.take (i + 1) = c.take i ++ [x] := by rw [List.take_add_one, h]; rfl
  rw [e, e2]
  rfl
theorem tautR_at {c : List Lit} {i : Nat} {x : Lit} (h : c[i]? = some x) : tautR (c.drop i) = (trivL x || ((c.drop (i + 1)).any (oppR x) || tautR (c.drop (i + 1)))) := by
  have hi := (List.getElem?_eq_some_iff.mp h).1
  have e : c.drop i = x :: c.drop (i + 1) := by rw [List.drop_eq_getElem_cons hi]; rw [List.getElem?_eq_getElem hi] at h; cases h; rfl
  rw [e]
  rfl
end Own
namespace Own
open PySem PySem.Spec PyProof.Rows L2 HT

/-! ### max(list of ints, default=d) -/
def maxI (d : Int) : List Int → Int
  | [] => d
  | x :: xs => PySem.W.maxOf x xs
def rMaxDf (K : PySem.W.Frag) : List V → List V → Hp → VK → Prop := fun vs zs H Q => ∃ (a : Addr) (ns : List Int) (d : Int), vs = [V.ref a] ∧ zs = [.int d] ∧ SqL K H a (ns.map V.int) ∧ Q (.int (maxI d ns)) H
theorem cr_maxDf {X : Cx} (hc : X.calm = true) (hu : X.A.units + 1 < cLine) : CallRK X (.builtin "max") ["default"] (rMaxDf X.K) := by
  intro pins s σ H vs zs us ws Q I r r2 h
  obtain ⟨a, ns, d, rfl, rfl, hs, q⟩ := h
  obtain ⟨its, rv, hl, _⟩ := I.list hs
  rw [Vals.ref1 r]
  cases r2 with
  | cons rd rr =>
    cases rr
    have hd : ∀ {v : Value} {n : Int}, RelV (.int n) v → ∃ t, v = .int n t := fun h => h
    obtain ⟨td, rfl⟩ := hd rd
    obtain ⟨as, ra⟩ := Dp.readsAll I (ns.map PyData.int) (ns.map V.int) its (dp_ints ns) rv
    refine PySem.W.max_list_datum_default (α := Int) (xs := ns) (I.ok.hd hc) hl.isList ⟨as, ra⟩ hu (fun e h' tk hk => ?_) (fun y ys i v h' tk e hi hh hk => ?_)
    · subst e
      exact ⟨.int d, H, I.kept hk, ⟨_, rfl⟩, q⟩
    · subst e
      obtain ⟨bs, rb⟩ := hh
      have hv : ∀ {d : PyData}, Reads h' v d bs → d = .int (PySem.W.maxOf y ys) → ∃ t, v = .int (PySem.W.maxOf y ys) t := fun r e => by
        subst e
        cases r
        exact ⟨_, rfl⟩
      obtain ⟨t, hv⟩ := hv rb rfl
      rw [hv]
      exact ⟨.int _, H, I.kept hk, ⟨_, rfl⟩, q⟩
theorem maxI_snoc (d x : Int) (xs : List Int) (h : ∀ y ∈ xs, d ≤ y) (hx : d ≤ x) : maxI d (xs ++ [x]) = max (maxI d xs) x := by
  have lt : ∀ a b : Int, PySem.W.DatumOrd.lt a b = decide (a < b) := fun a b => rfl
  cases xs with
  | nil =>
    show x = max d x
    omega
  | cons y ys =>
    show PySem.W.maxOf y (ys ++ [x]) = max (PySem.W.maxOf y ys) x
    unfold PySem.W.maxOf
    rw [List.foldl_append]
    generalize ys.foldl (fun a y => if PySem.W.DatumOrd.lt a y = true then y else a) y = m
    show (if PySem.W.DatumOrd.lt m x = true then x else m) = max m x
    rw [lt]
    by_cases c : m < x
    · rw [decide_eq_true c, if_pos rfl]; omega
    · rw [decide_eq_false c, if_neg Bool.false_ne_true]; omega
/-! ### any walk of a comprehension -/
theorem walk_gen {J : It} {n : Nat} {G : Hp → Prop} {Y : Nat → Hp → V → Hp → Prop} (w : Walk J n G Y) {Z : V → Hp → (Hp → Prop) → Prop} {Qd : Hp → Prop} {H0 : Hp} (Pv : Nat → Hp → Prop) (h0 : Pv 0 H0) (hG : ∀ i F, i ≤ n → Pv i F → G F)
    (hs : ∀ i x F F2, i < n → Pv i F → Y i F x F2 → Z x F2 (Pv (i + 1))) (hd : ∀ F, Pv n F → Qd F) :
    ∃ W : Nat → Nat → Hp → Prop, (∃ m, W 0 m H0) ∧ ∀ i m F, W i m F → (J.stop i F ∧ Qd F) ∨ (J.go i F ∧ ∃ Nx : Hp → Prop, (∀ F2, Nx F2 → ∃ m', m' < m ∧ W (i + 1) m' F2) ∧ ∀ x F2, J.yld i F x F2 → Z x F2 Nx) := by
  refine ⟨fun i m F => m = n - i ∧ i ≤ n ∧ Pv i F, ⟨n, (Nat.sub_zero n).symm, Nat.zero_le _, h0⟩, ?_⟩
  rintro i m F ⟨rfl, le, pv⟩
  have gf := hG i F le pv
  rcases Nat.lt_or_eq_of_le le with lt | rfl
  · exact .inr ⟨w.goes i F lt gf, Pv (i + 1), fun F2 p2 => ⟨_, by omega, rfl, lt, p2⟩, fun x F2 y => hs i x F F2 lt pv (w.yields i F x F2 lt gf y)⟩
  · exact .inl ⟨w.stops F gf, hd F pv⟩
/-! ### a list or a tuple, walked -/
def iLT (K : PySem.W.Frag) (tl : TE) : TI := fun σ H R => tl σ H fun x H1 => ∃ a, x = .ref a ∧ (((∃ xs, SqL K H1 a xs) ∧ R (Itl K a) H1) ∨ ((∃ xs, SqT K H1 a xs) ∧ R (Itt K a) H1))
theorem pi_lt {X : Cx} {tg l : Expr} {tl : TE} (hl : PE X l tl) : PI X tg l (iLT X.K tl) := by
  refine ⟨fun pins s σ H R I h => ?_⟩
  refine thn (hl.run pins s σ H _ I h) fun v s1 ⟨x, H1, I1, r1, q1⟩ => ?_
  obtain ⟨a, e, q⟩ := q1
  subst e
  cases r1
  rcases q with ⟨⟨xs, hq⟩, q⟩ | ⟨⟨xs, hq⟩, q⟩
  · obtain ⟨its, rv, p, hz⟩ := I1.list hq
    refine wpAny_pyIter_list p.isList ?_
    refine ⟨s1.heap.objs.size, [s1.heap.objs.size], _, _, H1, rfl, I1.kept (t' := s1.toks) fun b o e => Heap.get?_push_of_some _ e, turn_list a _, ⟨_, Heap.get?_push_size _ rfl, rfl, rfl⟩, fun b hb => ?_, q⟩
    have e : b = s1.heap.objs.size := by simpa using hb
    subst e
    exact I1.fpOk (Nat.le_refl _) (I1.hok.fresh (Nat.le_refl _))
  · obtain ⟨its, rv, p, hz⟩ := I1.tuple hq
    refine wpAny_pyIter_tuple (show s1.heap.IsTuple a its.toArray from p) ?_
    refine ⟨s1.heap.objs.size, [s1.heap.objs.size], _, _, H1, rfl, I1.kept (t' := s1.toks) fun b o e => Heap.get?_push_of_some _ e, turn_tuple a _, ⟨_, Heap.get?_push_size _ rfl, rfl, rfl⟩, fun b hb => ?_, q⟩
    have e : b = s1.heap.objs.size := by simpa using hb
    subst e
    exact I1.fpOk (Nat.le_refl _) (I1.hok.fresh (Nat.le_refl _))
end Own
namespace Own
open PySem PySem.Spec PyProof.Rows L2 RT HT

/-! ### list(reversed(a tuple)) -/
theorem walks_tupRev {prog : Program} {w : World} {A : Around} (hh : A.handled = none) (I l : Addr) (hne : l ≠ I) (items : Array Value) (hsz : items.size ≤ sizeLine) :
    Walks prog w A I [I, l] [I] items.size (fun i v => items[items.size - 1 - i]? = some v) (fun i h => i ≤ items.size ∧ IsRt h I l ((items.size : Int) - 1 - (i : Int)) ∧ h.IsTuple l items) where
  sub := fun b hb => by simp at hb; simp [hb]
  frame := fun _ _ _ x hk => ⟨x.1, x.2.1.at fun o e => hk I (by simp) o e, x.2.2.at fun o e => hk l (by simp) o e⟩
  item := fun i s Q E hi x hQ => by
    have e : (items.size : Int) - 1 - (i : Int) = ((items.size - 1 - i : Nat) : Int) := by omega
    have hit := x.2.1
    rw [e] at hit
    have hx : items[items.size - 1 - i]? = some (items[items.size - 1 - i]'(by omega)) := Array.getElem?_eq_getElem (by omega)
    refine next_rt_item hit x.2.2 hx hsz fun h' hit' hs' => ?_
    have e2 : ((items.size - 1 - i : Nat) : Int) - 1 = (items.size : Int) - 1 - ((i + 1 : Nat) : Int) := by omega
    rw [e2] at hit'
    exact hQ _ h' (s.toks + 1) hx ⟨hi, hit', x.2.2.at fun o eo => (hs'.2 l hne).trans eo⟩ fun b o hb eo => hs'.extBut b o (fun h => hb (by simp [h])) eo
  done := fun s Q E x hQ => by
    have e : (items.size : Int) - 1 - (items.size : Int) = -1 := by omega
    have hit := x.2.1
    rw [e] at hit
    exact next_rt_end hh hit fun h' he' => hQ h' s.toks fun b o hb eo => he' b o (fun h => hb (by simp [h])) eo
  self := fun _ _ _ _ x hQ => iter_rt x.2.1 hQ
theorem nolen_rt : typeLookup (.type "reversed") "__len__" = pure none := by rw [typeLookup_type, builtinLookup_eq_fast]; kernel_rfl
theorem hint_rt : typeLookup (.type "reversed") "__length_hint__" = pure (some (.builtin "reversed.__length_hint__")) := by rw [typeLookup_type, builtinLookup_eq_fast]; kernel_rfl
theorem slot_rt_hint : Slot "reversed" "__length_hint__" "reversed.__length_hint__" :=
  .of (owner := "reversed") (n := "__length_hint__") (by rw [typeLookup_type, builtinLookup_eq_fast]; kernel_rfl) (by decide +kernel) (by decide +kernel) (by decide +kernel)
    (by first | exact .inl (by decide +kernel) | exact .inr (by decide +kernel)) (by rw [isSubtype_type]; kernel_rfl)
theorem entry_rt_hint : entryFor table "reversed.__length_hint__" = some Builtin.«reversed.__length_hint__» := entryFor_of_tree (by kernel_rfl)
theorem args_rt_hint (a : Value) : argsOk "reversed.__length_hint__" ⟨[a], []⟩ := by
  unfold argsOk; rw [signature?_of (id := "reversed.__length_hint__") (n := ['_', '_', 't', 'n', 'i', 'h', '_', 'h', 't', 'g', 'n', 'e', 'l', '_', '_']) (o := ['d', 'e', 's', 'r', 'e', 'v', 'e', 'r']) (by kernel_rfl) owner_rt]; kernel_rfl
theorem bind_rt_hint (self : Value) : bindSpecial (.builtin "reversed.__length_hint__") self = pure (.builtin "reversed.__length_hint__", [self]) := by
  have h : typeOf (.builtin "reversed.__length_hint__") = pure (.type "method_descriptor") := by show builtinType _ = _; rw [builtinType_eq_fast]; kernel_rfl
  unfold bindSpecial
  rw [h]
  rfl
theorem call_rt_hint {prog : Program} {w : World} {A : Around} {E : Value → Shared → Prop} {s : Shared} {it l : Addr} {items : Array Value} {Q : Value → Shared → Prop} (hit : IsRt s.heap it l ((items.size : Int) - 1)) (hl : s.heap.IsTuple l items) (hn : items.size ≤ sizeLine)
    (h : ∀ t tk, Q (.int (items.size : Nat) t) { s with toks := tk }) : wpAny (model prog w) A (call (.builtin "reversed.__length_hint__") [.ref it]) Q E s := by
  refine wpAny_call_entry slot_rt_hint hit.typeIs entry_rt_hint ?_ (args_rt_hint _)
  obtain ⟨o, ho, hc, hd⟩ := id hit
  unfold Builtin.«reversed.__length_hint__»
  refine wpAny_bind (wpAny_of_eq (a := Value.ref it) rfl ?_)
  refine wpAny_bind (wpAny_field ho hd (x := .ref l) rfl ?_)
  rw [if_neg (show ¬ ((Value.ref l == Value.none) = true) from Bool.false_ne_true)]
  have hz : ((items.size : Nat) : Int) < 2 ^ 63 := by rw [sizeLine_eq] at hn; omega
  refine wpAny_bind (len_tuple hl hz ?_)
  refine wpAny_bind (wpAny_of_eq (a := some ((items.size : Nat) : Int)) rfl ?_)
  refine wpAny_bind (wpAny_field (s := { s with toks := s.toks + 1 + 1 }) ho hd (x := rawInt ((items.size : Int) - 1)) rfl ?_)
  show wpAny _ _ (if (items.size : Int) < (items.size : Int) - 1 + 1 then _ else _) _ _ _
  rw [if_neg (by omega)]
  rw [show (items.size : Int) - 1 + 1 = (items.size : Nat) by omega]
  refine wpAny_bind (wpAny_mkInt ?_)
  exact wpAny_pure ⟨_, rfl, h _ _⟩
section
variable {prog : Program} {w : World} {A : Around} {E : Value → Shared → Prop} {s : Shared}
theorem extend_rt {R : Result → Shared → Prop} {it l S : Addr} {items : Array Value} {res : Value} {c0 : Nat} (hh : A.handled = none) (hit : IsRt s.heap it l ((items.size : Int) - 1)) (hl : s.heap.IsTuple l items) (hne : l ≠ it) (hn : items.size ≤ sizeLine)
    (hS : s.heap.get? S = some { cls := .type "list", data := .seq #[] c0 }) (hSi : S ≠ it) (hSl : S ≠ l)
    (hR : ∀ h' tk acc c', (∀ b o, b ≠ S → b ≠ it → s.heap.get? b = some o → h'.get? b = some o) → h'.get? S = some { cls := .type "list", dict := none, data := .seq acc c', slots := #[] } →
      ItemsOf (fun i v => items[items.size - 1 - i]? = some v) acc items.size → R (.ok (.ret res)) { s with heap := h', toks := tk }) :
    wpAny (model prog w) A.in1 (Builtin.List.listExtendWith (.ref S) (.ref it) res)
      (fun fin s' => match fin with | .done f => R (.ok f) s' | .again c' => c'.quiet = true ∧ codeAny (model prog w) A c' R s') (fun e s' => R (.error e) s') s := by
  have W := (walks_tupRev (prog := prog) (w := w) (A := A.in1) hh it l hne items hn).toS
  have hSf : S ∉ [it, l] := by simp only [List.mem_cons, List.not_mem_nil, or_false, not_or]; exact ⟨hSi, hSl⟩
  have hT : s.TypeIs (.ref it) "reversed" := IsRt.typeIs hit
  have h1 : Builtin.List.listSameRef (.ref S) (.ref it) = false := by simp [Builtin.List.listSameRef, hSi]
  unfold Builtin.List.listExtendWith
  refine wpAny_bind (wpAny_typeOf hT ?_); rw [if_neg (by rw [h1]; decide)]
  refine wpAny_bind (iter_rt hit ?_); refine wpAny_bind (wpAny_holding ?_)
  unfold Builtin.List.listLengthHint
  refine wpAny_bind (wpAny_specialOf hT nolen_rt ?_); show wpAny _ A.in1 (specialOf (Value.ref it) (Str.ofString "__length_hint__") >>= _) _ _ s
  refine wpAny_bind (wpAny_specialOf hT hint_rt ?_); generalize hid : ("reversed.__length_hint__" : String) = id0
  wp_delta
  rw [show splitId id0 = some ("reversed", "__length_hint__") from by subst hid; decide +kernel]; subst hid
  refine wpAny_bind (wpAny_isInstance (b := true) hT (by rw [isSubtype_type]; kernel_rfl) ?_)
  rw [if_neg (by decide), if_neg (by decide +kernel)]
  refine wpAny_bind (wpAny_rule ?_)
  rw [bind_rt_hint]
  refine wpAny_bind (wpAny_pure ?_)
  refine wpAny_bind (wpAny_attempt (call_rt_hint hit hl hn fun t tk => ?_))
  have fi : Builtin.List.listFitsIndex ((items.size : Nat) : Int) = true := by
    rw [sizeLine_eq] at hn
    unfold Builtin.List.listFitsIndex
    simp only [Bool.and_eq_true, decide_eq_true_eq]
    omega
  have nl : Builtin.List.listTooLong ((items.size : Nat) : Int).toNat = false := by
    rw [Int.toNat_natCast]
    exact notLongL hn
  have ea : asInt? (Value.int ((items.size : Nat) : Int) t) = pure (some ((items.size : Nat) : Int)) := rfl
  dsimp only
  rw [ea]
  refine wpAny_bind ?_
  refine wpAny_pure ?_
  dsimp only
  rw [fi, if_neg (show ¬ ((!true) = true) by decide), if_neg (by omega), nl, if_neg Bool.false_ne_true]
  refine wpAny_pure ?_
  have e0 : ((items.size : Nat) : Int) - 1 - ((0 : Nat) : Int) = (items.size : Int) - 1 := by omega
  by_cases hz : items.size = 0
  · rw [if_neg (by rw [hz]; decide)]
    refine wpAny_pure ⟨plainId_quiet F.plain_extend_loop _, codeAny_extend_loopS W hn S hSf res items.size 0 _ _ _ rfl (Nat.zero_le _) ⟨Nat.zero_le _, by rw [e0]; exact hit, hl⟩ hS (ItemsOf.nil _) fun s' acc' c' hm hS' hacc => ?_⟩
    rw [Moved.eq_with hm]
    refine hR s'.heap s'.toks acc' c' (fun b o hbS hbi e => hm.heap b o (fun hmem => ?_) e) hS' hacc
    rcases List.mem_cons.mp hmem with e' | hmem
    · exact hbS e'
    · exact hbi (List.mem_singleton.mp hmem)
  · have nz : ((((items.size : Nat) : Int) != 0) || [Value.type "set"].any fun _ => false) = true := by
      rw [bne_iff_ne.mpr (by omega)]; rfl
    rw [if_pos (by rw [show (((items.size : Nat) : Int) != 0) = true from bne_iff_ne.mpr (by omega)]; rfl)]
    refine wpAny_bind (wpAny_rule ?_)
    refine wpAny_bind ?_
    show wpAny _ A.in1 (updateSeq S (·.push .none) >>= fun _ => updateSeq S (·.pop)) _ _ _
    refine wpAny_bind (wpAny_updateSeq hS rfl ?_ (Nat.zero_le _) (by show 1 ≤ sizeLine + 1; exact Nat.le_add_left _ _))
    have hS₂ := Heap.get?_update_self (Obj.mapSeq (·.push Value.none)) hS rfl
    refine wpAny_updateSeq hS₂ rfl ?_ (by show 1 ≤ sizeLine; rw [sizeLine_eq]; decide) (Nat.zero_le _)
    have hS₃ := Heap.get?_update_self (Obj.mapSeq (·.pop)) hS₂ rfl
    have oth : ∀ b o, b ≠ S → s.heap.get? b = some o → ((s.heap.update S (Obj.mapSeq (·.push Value.none))).update S (Obj.mapSeq (·.pop))).get? b = some o :=
      fun b o hb e => (Heap.get?_update_other _ _ (Ne.symm hb)).trans ((Heap.get?_update_other _ _ (Ne.symm hb)).trans e)
    refine wpAny_pure ⟨plainId_quiet F.plain_extend_loop _, codeAny_extend_loopS W hn S hSf res items.size 0 _ _ _ rfl (Nat.zero_le _) ⟨Nat.zero_le _, by rw [e0]; exact hit.at fun o e => oth it o (Ne.symm hSi) e, ?_⟩ hS₃ (ItemsOf.nil _) fun s' acc' c' hm hS' hacc => ?_⟩
    · exact hl.at fun o e => oth l o (Ne.symm hSl) e
    rw [Moved.eq_with hm]
    refine hR s'.heap s'.toks acc' c' (fun b o hbS hbi e => hm.heap b o (fun hmem => ?_) (oth b o hbS e)) hS' hacc
    rcases List.mem_cons.mp hmem with e' | hmem
    · exact hbS e'
    · exact hbi (List.mem_singleton.mp hmem)
theorem call_list_rt {it l : Addr} {items : Array Value} {Q : Value → Shared → Prop} (hh : A.handled = none) (hit : IsRt s.heap it l ((items.size : Int) - 1)) (hl : s.heap.IsTuple l items) (hne : l ≠ it) (hn : items.size ≤ sizeLine)
    (hQ : ∀ h' tk acc c', (∀ b o, b ≠ it → s.heap.get? b = some o → h'.get? b = some o) → h'.get? s.heap.objs.size = some { cls := .type "list", dict := none, data := .seq acc c', slots := #[] } →
      ItemsOf (fun i v => items[items.size - 1 - i]? = some v) acc items.size → Q (.ref s.heap.objs.size) { s with heap := h', toks := tk }) :
    wpAny (model prog w) A (call (.type "list") [.ref it]) Q E s := by
  refine callType_codes (Q₁ := fun obj s₁ => obj = .ref s.heap.objs.size ∧ s₁ = { s with heap := s.heap.push { cls := .type "list", data := .seq #[] } }) PySem.F.called_list (PySem.F.typeCall_list_1 _) PySem.F.entry_list_init (code_list_new _ ⟨rfl, rfl⟩) fun obj s₁ h₁ => ?_
  obtain ⟨rfl, rfl⟩ := h₁
  have hS : (s.heap.push { cls := .type "list", data := .seq #[] }).get? s.heap.objs.size = some { cls := .type "list", data := .seq #[] } := Heap.get?_push_size _ rfl
  refine ⟨⟨_, hS, rfl⟩, PySem.F.args_list_init_2 _ _, ?_⟩
  obtain ⟨oi, hoi, _⟩ := id hit
  obtain ⟨ol, hol, _⟩ := id hl
  have nSi : s.heap.objs.size ≠ it := Nat.ne_of_gt (Heap.lt_size hoi)
  have nSl : s.heap.objs.size ≠ l := Nat.ne_of_gt (Heap.lt_size hol)
  have k0 : ∀ b o, s.heap.get? b = some o → ((s.heap.push { cls := .type "list", data := .seq #[] }).update s.heap.objs.size (Obj.mapSeq (fun _ => (#[] : Array Value)))).get? b = some o :=
    fun b o e => (Heap.get?_update_other _ _ (Nat.ne_of_gt (Heap.lt_size e))).trans (Heap.get?_push_of_some _ e)
  show wpAny _ _ (do let old ← Builtin.List.listItems (.ref s.heap.objs.size); Builtin.List.listUpdate (.ref s.heap.objs.size) (fun _ => #[]); letGo old.toList.reverse; Builtin.List.listExtendWith (.ref s.heap.objs.size) (.ref it) .none) _ _ _
  refine wpAny_bind ?_; unfold Builtin.List.listItems
  refine wpAny_bind (wpAny_seqItems hS rfl (wpAny_pure ?_))
  show wpAny _ _ (updateSeq s.heap.objs.size (fun _ => #[]) >>= fun _ => letGo (#[] : Array Value).toList.reverse >>= fun _ => Builtin.List.listExtendWith (.ref s.heap.objs.size) (.ref it) .none) _ _ _
  refine wpAny_bind (wpAny_updateSeq hS rfl ?_)
  refine wpAny_bind (wpAny_letGo ?_)
  refine extend_rt (A := A.in1) (l := l) (items := items) hh (hit.at fun o e => k0 _ _ e) ?_ hne hn (Heap.get?_update_self (Obj.mapSeq (fun _ => (#[] : Array Value))) hS rfl) nSi nSl fun h' tk acc c' hk hS' hacc => ?_
  · obtain ⟨o, ho, hc⟩ := id hl
    exact ⟨o, k0 _ _ ho, hc⟩
  · exact ⟨rfl, hQ h' tk acc c' (fun b o hb e => hk b o (Nat.ne_of_lt (Heap.lt_size e)) hb (k0 _ _ e)) hS' hacc⟩
end
def tListRevT (K : PySem.W.Frag) (te : TE) : TE := fun σ H Q => te σ H fun v H1 => ∃ (a : Addr) (xs : List V), v = .ref a ∧ SqT K H1 a xs ∧ ∀ q, H1 q = none → Q (.ref q) (upd H1 q (.lst xs.reverse))
theorem pe_listRevT {X : Cx} {e : Expr} {te : TE} {p p2 pos pos2 : Pos} (hc : X.calm = true) (hg : Gl X "list") (hm : X.mg "list" = none) (hg2 : Gl X "reversed") (hm2 : X.mg "reversed" = none) (he : PE X e te)
    (hs : starEach [e] X.env = (false, eval e X.env) :: starEach [] X.env := by rfl)
    (hs2 : starEach [.Call (.Name "reversed" p2) [e] [] pos2] X.env = (false, eval (.Call (.Name "reversed" p2) [e] [] pos2) X.env) :: starEach [] X.env := by rfl) :
    PE X (.Call (.Name "list" p) [.Call (.Name "reversed" p2) [e] [] pos2] [] pos) (tListRevT X.K te) := by
  refine ⟨fun pins s σ H Q I h => ?_⟩
  refine Call_ (ld_blt I hg hm boot_list (callWith_type1 (args_cons (Call_ (ld_blt I hg2 hm2 boot_reversed (callWith_type1 (args_cons (thn (he.run pins s σ H _ I h) fun u s1 ⟨v, H1, I1, r1, q1⟩ => args_nil ?_) hs) hs rfl))) hs2) hs2 rfl))
  obtain ⟨a, xs, ev, hq, q⟩ := q1
  subst ev
  obtain rfl : u = Value.ref a := r1
  obtain ⟨its, rv, p', hz⟩ := I1.tuple hq
  have p' : s1.heap.IsTuple a its.toArray := p'
  have hn : its.toArray.size ≤ sizeLine := by rw [List.size_toArray, ← rv.length]; exact hz
  have hz' := hn
  rw [sizeLine_eq] at hz'
  refine call_reversed_tup p' (fun A E Q k => len_tuple p' (by omega) k) (args_nil ?_)
  have k0 : ∀ b o, s1.heap.get? b = some o → (s1.heap.push (rtObj a ((its.toArray.size : Int) - 1))).get? b = some o := fun b o e => Heap.get?_push_of_some _ e
  obtain ⟨ol, hol, _⟩ := id p'
  have hne : a ≠ s1.heap.objs.size := Nat.ne_of_lt (Heap.lt_size hol)
  refine call_list_rt (s := { s1 with heap := s1.heap.push (rtObj a ((its.toArray.size : Int) - 1)), toks := s1.toks + 1 + 1 }) (I1.ok.hd hc) ⟨_, Heap.get?_push_size _ rfl, rfl, rfl⟩ (p'.at fun o e => k0 _ _ e) hne hn fun h' tk acc c' hk hS' hi => ?_
  have kk : ∀ b o, s1.heap.get? b = some o → h'.get? b = some o := fun b o e => hk b o (Nat.ne_of_lt (Heap.lt_size e)) (k0 b o e)
  have hsz : (s1.heap.push (rtObj a ((its.toArray.size : Int) - 1))).objs.size = s1.heap.objs.size + 1 := Heap.size_push ..
  have fresh : s1.heap.objs.size ≤ (s1.heap.push (rtObj a ((its.toArray.size : Int) - 1))).objs.size := by rw [hsz]; exact Nat.le_succ _
  refine ⟨.ref _, upd H1 _ (.lst xs.reverse), I1.laid (t' := tk) kk fresh (show ObjOk X.prog X.w _ _ _ (.lst xs.reverse) from ⟨by rw [List.length_reverse]; exact hz, acc.toList, c', vals_rev rv hi, ?_⟩), rfl, q _ (I1.hok.fresh fresh)⟩
  rw [Array.toArray_toList]
  exact hS'
end Own
namespace Own
open PySem PySem.Spec PyProof.Rows L2 RT HT

/-! ### the variables of a clause -/
def sides (c : List Lit) : List Ter := c.flatMap fun x => [x.2.1, x.2.2]
theorem sides_app (a b : List Lit) : sides (a ++ b) = sides a ++ sides b := List.flatMap_append
theorem sides_snoc (a : List Lit) (x : Lit) : sides (a ++ [x]) = sides a ++ [x.2.1, x.2.2] := by rw [sides_app]; rfl
def clVars (c : List Lit) : List Key := Ter.intos [] (sides c)
theorem sides_size {c : List Lit} {n : Nat} (h : ∀ x ∈ c, x.2.1.size ≤ n ∧ x.2.2.size ≤ n) : Ter.sizes (sides c) ≤ c.length * (2 * n) := by
  induction c with
  | nil => exact Nat.zero_le _
  | cons x r ih =>
    have h1 := h x List.mem_cons_self
    have h2 := ih fun y hy => h y (List.mem_cons_of_mem _ hy)
    show Ter.sizes ([x.2.1, x.2.2] ++ sides r) ≤ (r.length + 1) * (2 * n)
    rw [Ter.sizes_app, Nat.succ_mul]
    show x.2.1.size + (x.2.2.size + 0) + _ ≤ _
    omega
theorem sides_wf {W : Str → Nat → Prop} {U : Key → Prop} : ∀ {c : List Lit}, (∀ x ∈ c, x.2.1.wf W U ∧ x.2.2.wf W U) → Ter.wfs W U (sides c)
  | [], _ => trivial
  | x :: r, h => ⟨(h x List.mem_cons_self).1, (h x List.mem_cons_self).2, sides_wf (c := r) fun y hy => h y (List.mem_cons_of_mem _ hy)⟩
theorem addK_sub {acc : List Key} {k x : Key} (h : x ∈ acc) : x ∈ addK acc k := by
  unfold addK
  split
  · exact h
  · exact List.mem_append_left _ h
theorem addK_mem (acc : List Key) (k : Key) : k ∈ addK acc k := by
  unfold addK
  split
  · exact hasK_iff.mp (by assumption)
  · exact List.mem_append_right _ (List.mem_singleton.mpr rfl)
theorem addK_nd {acc : List Key} {k : Key} (h : acc.Nodup) : (addK acc k).Nodup := by
  unfold addK
  split
  · exact h
  · rename_i c
    exact nd_snoc h fun z => c (hasK_iff.mpr z)
mutual
theorem into_sub : ∀ (t : Ter) (acc : List Key), ∀ x ∈ acc, x ∈ Ter.into acc t
  | .var k, acc, x, h => addK_sub h
  | .ap f as, acc, x, h => intos_sub as acc x h
theorem intos_sub : ∀ (ts : List Ter) (acc : List Key), ∀ x ∈ acc, x ∈ Ter.intos acc ts
  | [], acc, x, h => h
  | t :: r, acc, x, h => intos_sub r _ x (into_sub t acc x h)
end
mutual
theorem into_nd : ∀ (t : Ter) (acc : List Key), acc.Nodup → (Ter.into acc t).Nodup
  | .var k, acc, h => addK_nd h
  | .ap f as, acc, h => intos_nd as acc h
theorem intos_nd : ∀ (ts : List Ter) (acc : List Key), acc.Nodup → (Ter.intos acc ts).Nodup
  | [], acc, h => h
  | t :: r, acc, h => intos_nd r _ (into_nd t acc h)
end
def anySym (_ : Str) (_ : Nat) : Prop := True
/-- all variables of the term are among these -/
def Ter.inK (ks : List Key) (t : Ter) : Prop := t.wf anySym (· ∈ ks)
def Ter.insK (ks : List Key) (ts : List Ter) : Prop := Ter.wfs anySym (· ∈ ks) ts
mutual
theorem into_in : ∀ (t : Ter) (acc ks : List Key), (∀ x ∈ Ter.into acc t, x ∈ ks) → Ter.inK ks t
  | .var k, acc, ks, h => h k (addK_mem acc k)
  | .ap f as, acc, ks, h => ⟨trivial, intos_in as acc ks h⟩
theorem intos_in : ∀ (ts : List Ter) (acc ks : List Key), (∀ x ∈ Ter.intos acc ts, x ∈ ks) → Ter.insK ks ts
  | [], acc, ks, h => trivial
  | t :: r, acc, ks, h => ⟨into_in t acc ks fun x hx => h x (intos_sub r _ x hx), intos_in r _ ks h⟩
end
theorem clVars_nd (c : List Lit) : (clVars c).Nodup := intos_nd _ _ List.nodup_nil
theorem insK_app {ks : List Key} : ∀ {as bs : List Ter}, Ter.insK ks (as ++ bs) → Ter.insK ks as ∧ Ter.insK ks bs
  | [], _, h => ⟨trivial, h⟩
  | a :: r, bs, h => ⟨⟨h.1, (insK_app (as := r) h.2).1⟩, (insK_app (as := r) h.2).2⟩
theorem sides_in {ks : List Key} : ∀ {c : List Lit}, Ter.insK ks (sides c) → ∀ x ∈ c, Ter.inK ks x.2.1 ∧ Ter.inK ks x.2.2
  | [], _, _, h => by cases h
  | y :: r, h, x, hx => by
    have h : Ter.inK ks y.2.1 ∧ Ter.inK ks y.2.2 ∧ Ter.insK ks (sides r) := h
    rcases List.mem_cons.mp hx with rfl | hx
    · exact ⟨h.1, h.2.1⟩
    · exact sides_in h.2.2 x hx
theorem clVars_in (c : List Lit) : ∀ x ∈ c, Ter.inK (clVars c) x.2.1 ∧ Ter.inK (clVars c) x.2.2 := sides_in (intos_in _ [] _ fun _ h => h)
/-! ### numbering -/
def idxK : List Key → Key → Nat
  | [], _ => 0
  | a :: r, k => if a = k then 0 else idxK r k + 1
def numK : Nat → List Key → List (Key × V)
  | _, [] => []
  | n, k :: r => (k, V.int (n : Nat)) :: numK (n + 1) r
theorem numK_len : ∀ (ks : List Key) (n : Nat), (numK n ks).length = ks.length
  | [], _ => rfl
  | _ :: r, n => congrArg (· + 1) (numK_len r (n + 1))
theorem numK_snoc (k : Key) : ∀ (ks : List Key) (n : Nat), numK n (ks ++ [k]) = numK n ks ++ [(k, V.int ((n + ks.length : Nat) : Int))]
  | [], n => rfl
  | a :: r, n => by
    show (a, V.int (n : Nat)) :: numK (n + 1) (r ++ [k]) = (a, V.int (n : Nat)) :: (numK (n + 1) r ++ _)
    rw [numK_snoc k r (n + 1)]
    congr 3
    simp only [List.length_cons]
    rw [show n + 1 + r.length = n + (r.length + 1) by omega]
theorem numK_none {k : Key} : ∀ {ks : List Key} {n : Nat}, k ∉ ks → valV (numK n ks) k = none
  | [], _, _ => rfl
  | a :: r, n, h => by
    have h1 : ¬ a = k := fun z => h (by rw [z]; exact List.mem_cons_self)
    show valV ((a, V.int (n : Nat)) :: numK (n + 1) r) k = none
    rw [valV_neg h1]
    exact numK_none fun z => h (List.mem_cons_of_mem _ z)
theorem numK_val {k : Key} : ∀ {ks : List Key} {n : Nat}, k ∈ ks → valV (numK n ks) k = some (.int ((n + idxK ks k : Nat) : Int))
  | [], _, h => by cases h
  | a :: r, n, h => by
    show valV ((a, V.int (n : Nat)) :: numK (n + 1) r) k = _
    by_cases c : a = k
    · rw [valV_pos c]
      show some (V.int (n : Nat)) = _
      rw [show idxK (a :: r) k = 0 from if_pos c]
      rfl
    · rw [valV_neg c, numK_val (ks := r) ((List.mem_cons.mp h).resolve_left fun z => c z.symm), show idxK (a :: r) k = idxK r k + 1 from if_neg c]
      rw [show n + 1 + idxK r k = n + (idxK r k + 1) by omega]
theorem idxK_lt {k : Key} : ∀ {ks : List Key}, k ∈ ks → idxK ks k < ks.length
  | [], h => by cases h
  | a :: r, h => by
    show (if a = k then 0 else idxK r k + 1) < r.length + 1
    by_cases c : a = k
    · rw [if_pos c]; omega
    · rw [if_neg c]
      have := idxK_lt (ks := r) ((List.mem_cons.mp h).resolve_left fun z => c z.symm)
      omega
theorem idxK_get {k : Key} : ∀ {ks : List Key}, k ∈ ks → ks[idxK ks k]? = some k
  | [], h => by cases h
  | a :: r, h => by
    by_cases c : a = k
    · rw [show idxK (a :: r) k = 0 from if_pos c, c]; rfl
    · rw [show idxK (a :: r) k = idxK r k + 1 from if_neg c]
      show r[idxK r k]? = some k
      exact idxK_get ((List.mem_cons.mp h).resolve_left fun z => c z.symm)
theorem idxK_first {k : Key} : ∀ {ks : List Key} {m : Nat}, m < idxK ks k → ks[m]? ≠ some k
  | [], _, h => by cases h
  | a :: r, m, h => by
    by_cases c : a = k
    · rw [show idxK (a :: r) k = 0 from if_pos c] at h; omega
    · rw [show idxK (a :: r) k = idxK r k + 1 from if_neg c] at h
      cases m with
      | zero => intro z; exact c (Option.some.inj z)
      | succ m => exact idxK_first (ks := r) (m := m) (by omega)
theorem idxK_inj {ks : List Key} {a b : Key} (ha : a ∈ ks) (hb : b ∈ ks) (h : idxK ks a = idxK ks b) : a = b := by
  have h1 := idxK_get ha
  have h2 := idxK_get hb
  rw [h, h2] at h1
  exact (Option.some.inj h1).symm
def nf (ks : List Key) (k : Key) : Key := .inl ((idxK ks k : Nat) : Int)
theorem nf_inj {ks : List Key} {a b : Key} (ha : a ∈ ks) (hb : b ∈ ks) (h : nf ks a = nf ks b) : a = b := idxK_inj ha hb (by
  have : ((idxK ks a : Nat) : Int) = ((idxK ks b : Nat) : Int) := Sum.inl.inj h
  omega)
mutual
def Ter.num (ks : List Key) : Ter → Ter
  | .var k => .var (nf ks k)
  | .ap f as => .ap f (Ter.nums ks as)
def Ter.nums (ks : List Key) : List Ter → List Ter
  | [] => []
  | a :: r => a.num ks :: Ter.nums ks r
end
theorem nums_len (ks : List Key) : ∀ as : List Ter, (Ter.nums ks as).length = as.length
  | [] => rfl
  | _ :: r => congrArg (· + 1) (nums_len ks r)
theorem nums_app (ks : List Key) : ∀ as bs : List Ter, Ter.nums ks (as ++ bs) = Ter.nums ks as ++ Ter.nums ks bs
  | [], _ => rfl
  | a :: r, bs => congrArg (a.num ks :: ·) (nums_app ks r bs)
mutual
theorem num_size (ks : List Key) : ∀ t : Ter, (t.num ks).size = t.size ∧ (t.num ks).nest = t.nest
  | .var _ => ⟨rfl, rfl⟩
  | .ap f as => by
    obtain ⟨h1, h2⟩ := nums_size ks as
    exact ⟨by show Ter.sizes _ + 1 = Ter.sizes as + 1; rw [h1], by show Ter.nests _ + 1 = Ter.nests as + 1; rw [h2]⟩
theorem nums_size (ks : List Key) : ∀ ts : List Ter, Ter.sizes (Ter.nums ks ts) = Ter.sizes ts ∧ Ter.nests (Ter.nums ks ts) = Ter.nests ts
  | [] => ⟨rfl, rfl⟩
  | t :: r => by
    obtain ⟨h1, h2⟩ := num_size ks t
    obtain ⟨h3, h4⟩ := nums_size ks r
    exact ⟨by show (t.num ks).size + Ter.sizes (Ter.nums ks r) = t.size + Ter.sizes r; rw [h1, h3], by show max (t.num ks).nest (Ter.nests (Ter.nums ks r)) = max t.nest (Ter.nests r); rw [h2, h4]⟩
end
mutual
theorem num_wf {W : Str → Nat → Prop} {U : Key → Prop} {ks : List Key} (hk : ks.length ≤ 900) : ∀ t : Ter, t.wf W U → Ter.inK ks t → (t.num ks).wf W numVar
  | .var k, _, h => ⟨_, rfl, by omega, by have := idxK_lt (show k ∈ ks from h); omega⟩
  | .ap f as, h, g => ⟨by rw [nums_len]; exact h.1, nums_wf hk as h.2 g.2⟩
theorem nums_wf {W : Str → Nat → Prop} {U : Key → Prop} {ks : List Key} (hk : ks.length ≤ 900) : ∀ ts : List Ter, Ter.wfs W U ts → Ter.insK ks ts → Ter.wfs W numVar (Ter.nums ks ts)
  | [], _, _ => trivial
  | t :: r, h, g => ⟨num_wf hk t h.1 g.1, nums_wf hk r h.2 g.2⟩
end
/-! equality of terms stays -/
mutual
theorem eT_num {ks : List Key} : ∀ t u : Ter, t.wf anySym anyNum → u.wf anySym anyNum → Ter.inK ks t → Ter.inK ks u → eT (t.num ks) (u.num ks) = eT t u
  | .var a, .var b, ha, hb, ia, ib => by
    obtain ⟨x, rfl⟩ := ha
    obtain ⟨y, rfl⟩ := hb
    show ((idxK ks (.inl x) : Int) == (idxK ks (.inl y) : Int)) = (x == y)
    by_cases c : x = y
    · rw [c]; rw [beq_self_eq_true, beq_self_eq_true]
    · rw [beq_eq_false_iff_ne.mpr c]
      refine beq_eq_false_iff_ne.mpr fun z => c ?_
      have := idxK_inj (show (.inl x : Key) ∈ ks from ia) (show (.inl y : Key) ∈ ks from ib) (by omega)
      exact Sum.inl.inj this
  | .var a, .ap g bs, ha, _, _, _ => by
    obtain ⟨x, rfl⟩ := ha
    rfl
  | .ap f as, .var b, _, hb, _, _ => by
    obtain ⟨x, rfl⟩ := hb
    rfl
  | .ap f as, .ap g bs, ha, hb, ia, ib => by
    show ((f == g) && PyData.eqvAll (Ter.dats (Ter.nums ks as)) (Ter.dats (Ter.nums ks bs))) = ((f == g) && PyData.eqvAll (Ter.dats as) (Ter.dats bs))
    rw [eT_nums as bs ha.2 hb.2 ia.2 ib.2]
theorem eT_nums {ks : List Key} : ∀ ts us : List Ter, Ter.wfs anySym anyNum ts → Ter.wfs anySym anyNum us → Ter.insK ks ts → Ter.insK ks us → PyData.eqvAll (Ter.dats (Ter.nums ks ts)) (Ter.dats (Ter.nums ks us)) = PyData.eqvAll (Ter.dats ts) (Ter.dats us)
  | [], [], _, _, _, _ => rfl
  | [], _ :: _, _, _, _, _ => rfl
  | _ :: _, [], _, _, _, _ => rfl
  | t :: r, u :: s, ha, hb, ia, ib => by
    show (eT (t.num ks) (u.num ks) && _) = (eT t u && _)
    rw [eT_num t u ha.1 hb.1 ia.1 ib.1, eT_nums r s ha.2 hb.2 ia.2 ib.2]
end
theorem isT_num {ks : List Key} {t : Ter} (h : t.wf anySym anyNum) (i : Ter.inK ks t) : isTrueT (t.num ks) = isTrueT t := eT_num (ks := ks) t trueT h ⟨trivial, trivial⟩ i ⟨trivial, trivial⟩
def litNum (ks : List Key) (x : Lit) : Lit := (x.1, x.2.1.num ks, x.2.2.num ks)
def litW (x : Lit) : Prop := x.2.1.wf anySym anyNum ∧ x.2.2.wf anySym anyNum
def litIn (ks : List Key) (x : Lit) : Prop := Ter.inK ks x.2.1 ∧ Ter.inK ks x.2.2
theorem alike_num {ks : List Key} {x y : Lit} (hx : litW x) (hy : litW y) (ix : litIn ks x) (iy : litIn ks y) : alikeL (litNum ks x) (litNum ks y) = alikeL x y := by
  unfold alikeL
  show ((x.1 == y.1) && ((eT (x.2.1.num ks) (y.2.1.num ks) && eT (x.2.2.num ks) (y.2.2.num ks)) || (!isTrueT (x.2.2.num ks) && (!isTrueT (y.2.2.num ks) && (eT (x.2.1.num ks) (y.2.2.num ks) && eT (x.2.2.num ks) (y.2.1.num ks)))))) = _
  rw [eT_num _ _ hx.1 hy.1 ix.1 iy.1, eT_num _ _ hx.2 hy.2 ix.2 iy.2, eT_num _ _ hx.1 hy.2 ix.1 iy.2, eT_num _ _ hx.2 hy.1 ix.2 iy.1, isT_num hx.2 ix.2, isT_num hy.2 iy.2]
/-! ### the normal form -/
def keepL : List Lit → List Lit → List Lit
  | acc, [] => acc
  | acc, x :: r => if acc.any (alikeL x) = true then keepL acc r else keepL (acc ++ [x]) r
theorem keepL_at {c : List Lit} {i : Nat} {x : Lit} (acc : List Lit) (h : c[i]? = some x) : keepL acc (c.drop i) = if acc.any (alikeL x) = true then keepL acc (c.drop (i + 1)) else keepL (acc ++ [x]) (c.drop (i + 1)) := by
  have hi := (List.getElem?_eq_some_iff.mp h).1
  have e : c.drop i = x :: c.drop (i + 1) := by rw [List.drop_eq_getElem_cons hi]; rw [List.getElem?_eq_getElem hi] at h; cases h; rfl
  rw [e]
  rfl
def numC (c : List Lit) : List Lit := c.map (litNum (clVars c))
def normL (c : List Lit) : List Lit := numC (keepL [] c)
theorem keepL_sub : ∀ (c acc : List Lit), ∀ x ∈ keepL acc c, x ∈ acc ∨ x ∈ c
  | [], acc, x, h => .inl h
  | y :: r, acc, x, h => by
    unfold keepL at h
    split at h
    · rcases keepL_sub r acc x h with h | h
      · exact .inl h
      · exact .inr (List.mem_cons_of_mem _ h)
    · rcases keepL_sub r _ x h with h | h
      · rcases List.mem_append.mp h with h | h
        · exact .inl h
        · rw [List.mem_singleton.mp h]; exact .inr List.mem_cons_self
      · exact .inr (List.mem_cons_of_mem _ h)
theorem keepL_len : ∀ (c acc : List Lit), (keepL acc c).length ≤ acc.length + c.length
  | [], acc => Nat.le_refl _
  | y :: r, acc => by
    unfold keepL
    split
    · have := keepL_len r acc
      simp only [List.length_cons]; omega
    · have := keepL_len r (acc ++ [y])
      rw [List.length_append, List.length_singleton] at this
      simp only [List.length_cons]; omega
/-- no literal is like an earlier one -/
def Apart (c : List Lit) : Prop := c.Pairwise fun a b => alikeL b a = false
theorem keepL_apart : ∀ (c acc : List Lit), Apart acc → Apart (keepL acc c)
  | [], acc, h => h
  | y :: r, acc, h => by
    unfold keepL
    split
    · exact keepL_apart r acc h
    · rename_i z
      refine keepL_apart r _ (List.pairwise_append.mpr ⟨h, List.pairwise_singleton _ _, fun a ha b hb => ?_⟩)
      cases List.mem_singleton.mp hb
      cases e : alikeL y a with
      | false => rfl
      | true => exact absurd (List.any_eq_true.mpr ⟨a, ha, e⟩) z
theorem keepL_id : ∀ (c acc : List Lit), Apart (acc ++ c) → keepL acc c = acc ++ c
  | [], acc, _ => (List.append_nil acc).symm
  | y :: r, acc, h => by
    have n : ¬ acc.any (alikeL y) = true := fun z => by
      obtain ⟨a, ha, e⟩ := List.any_eq_true.mp z
      have := (List.pairwise_append.mp h).2.2 a ha y List.mem_cons_self
      rw [this] at e
      cases e
    unfold keepL
    rw [if_neg n, keepL_id r (acc ++ [y]) (by rw [List.append_assoc]; exact h), List.append_assoc]
    rfl
mutual
theorem into_num {ks : List Key} : ∀ (t : Ter) (acc : List Key), (∀ x ∈ acc, x ∈ ks) → Ter.inK ks t → Ter.into (acc.map (nf ks)) (t.num ks) = (Ter.into acc t).map (nf ks)
  | .var k, acc, ha, hk => by
    show addK (acc.map (nf ks)) (nf ks k) = (addK acc k).map (nf ks)
    have e : hasK (acc.map (nf ks)) (nf ks k) = hasK acc k := by
      cases c : hasK acc k with
      | true => exact hasK_iff.mpr (List.mem_map_of_mem (hasK_iff.mp c))
      | false =>
        cases d : hasK (acc.map (nf ks)) (nf ks k) with
        | false => rfl
        | true =>
          obtain ⟨y, hy, e⟩ := List.mem_map.mp (hasK_iff.mp d)
          have := nf_inj (ha y hy) hk e
          rw [this] at hy
          rw [hasK_iff.mpr hy] at c
          cases c
    unfold addK
    rw [e]
    split
    · rfl
    · rw [List.map_append]; rfl
  | .ap f as, acc, ha, h => intos_num as acc ha h.2
theorem intos_num {ks : List Key} : ∀ (ts : List Ter) (acc : List Key), (∀ x ∈ acc, x ∈ ks) → Ter.insK ks ts → Ter.intos (acc.map (nf ks)) (Ter.nums ks ts) = (Ter.intos acc ts).map (nf ks)
  | [], acc, ha, _ => rfl
  | t :: r, acc, ha, h => by
    show Ter.intos (Ter.into (acc.map (nf ks)) (t.num ks)) (Ter.nums ks r) = (Ter.intos (Ter.into acc t) r).map (nf ks)
    rw [into_num t acc ha h.1, intos_num r _ (fun x hx => into_of ha h.1 x hx) h.2]
theorem into_of {ks : List Key} {t : Ter} {acc : List Key} (ha : ∀ x ∈ acc, x ∈ ks) (h : Ter.inK ks t) : ∀ x ∈ Ter.into acc t, x ∈ ks := into_all (W := anySym) (U := (· ∈ ks)) (R := (· ∈ ks)) (fun _ z => z) t acc h ha
end
theorem sides_num (ks : List Key) : ∀ c : List Lit, sides (c.map (litNum ks)) = Ter.nums ks (sides c)
  | [] => rfl
  | x :: r => by
    show x.2.1.num ks :: x.2.2.num ks :: sides (r.map (litNum ks)) = x.2.1.num ks :: x.2.2.num ks :: Ter.nums ks (sides r)
    rw [sides_num ks r]
theorem clVars_num (c : List Lit) : clVars (numC c) = (clVars c).map (nf (clVars c)) := by
  show Ter.intos [] (sides (c.map (litNum (clVars c)))) = _
  rw [sides_num]
  exact intos_num (sides c) [] (fun _ h => by cases h) (intos_in _ [] _ fun _ h => h)
theorem idxK_map {f : Key → Key} {k : Key} : ∀ {ks : List Key}, (∀ a ∈ ks, f a = f k → a = k) → idxK (ks.map f) (f k) = idxK ks k
  | [], _ => rfl
  | a :: r, h => by
    show (if f a = f k then 0 else idxK (r.map f) (f k) + 1) = if a = k then 0 else idxK r k + 1
    by_cases c : a = k
    · rw [if_pos c, if_pos (by rw [c])]
    · rw [if_neg c, if_neg fun z => c (h a List.mem_cons_self z), idxK_map fun b hb => h b (List.mem_cons_of_mem _ hb)]
mutual
theorem num_num {ks : List Key} : ∀ t : Ter, Ter.inK ks t → (t.num ks).num (ks.map (nf ks)) = t.num ks
  | .var k, h => by
    show Ter.var (.inl ((idxK (ks.map (nf ks)) (nf ks k) : Nat) : Int)) = Ter.var (.inl ((idxK ks k : Nat) : Int))
    rw [idxK_map fun a ha e => nf_inj ha h e]
  | .ap f as, h => by
    show Ter.ap f (Ter.nums (ks.map (nf ks)) (Ter.nums ks as)) = Ter.ap f (Ter.nums ks as)
    rw [nums_nums as h.2]
theorem nums_nums {ks : List Key} : ∀ ts : List Ter, Ter.insK ks ts → Ter.nums (ks.map (nf ks)) (Ter.nums ks ts) = Ter.nums ks ts
  | [], _ => rfl
  | t :: r, h => by
    show (t.num ks).num (ks.map (nf ks)) :: Ter.nums (ks.map (nf ks)) (Ter.nums ks r) = t.num ks :: Ter.nums ks r
    rw [num_num t h.1, nums_nums r h.2]
end
theorem numC_numC (c : List Lit) : numC (numC c) = numC c := by
  show (numC c).map (litNum (clVars (numC c))) = numC c
  rw [clVars_num]
  show (c.map (litNum (clVars c))).map (litNum ((clVars c).map (nf (clVars c)))) = c.map (litNum (clVars c))
  rw [List.map_map]
  refine List.map_congr_left fun x hx => ?_
  obtain ⟨h1, h2⟩ := clVars_in c x hx
  show (x.1, (x.2.1.num (clVars c)).num ((clVars c).map (nf (clVars c))), (x.2.2.num (clVars c)).num ((clVars c).map (nf (clVars c)))) = (x.1, x.2.1.num (clVars c), x.2.2.num (clVars c))
  rw [num_num _ h1, num_num _ h2]
theorem norm_norm {c : List Lit} (h : ∀ x ∈ c, litW x) : normL (normL c) = normL c := by
  have hk : ∀ x ∈ keepL [] c, litW x := fun x hx => by
    rcases keepL_sub c [] x hx with z | z
    · cases z
    · exact h x z
  have ap := keepL_apart c [] .nil
  have ap2 : Apart (normL c) := by
    show ((keepL [] c).map (litNum (clVars (keepL [] c)))).Pairwise _
    refine List.pairwise_map.mpr (ap.imp_of_mem fun {a b} ha hb e => ?_)
    rw [alike_num (hk b hb) (hk a ha) (clVars_in _ b hb) (clVars_in _ a ha)]
    exact e
  show numC (keepL [] (normL c)) = normL c
  rw [keepL_id (normL c) [] ap2]
  exact numC_numC (keepL [] c)
end Own
namespace Own
open PySem PySem.Spec PyProof.Rows L2 RT HT

/-- a statement that no way reaches -/
theorem ps_no {X : Cx} {st : Stmt} : PS X st (fun _ _ _ => False) := ⟨fun _ _ _ _ _ _ h => h.elim⟩
/-! ### the deck: a list with the script's copy in it -/
structure Dek (H : Hp) (d c : Addr) : Prop where
  ex : ∃ (ns : List Int) (i : Nat) (e s : Int), H d = some (.lst [.ref c, .int (i : Nat), .int e, .int s]) ∧ H c = some (.lst (ns.map V.int)) ∧ c ≠ d
theorem Dek.same {H H' : Hp} {d c : Addr} (h : Dek H d c) (m : Same H H') : Dek H' d c := by
  obtain ⟨ns, i, r, s, e, e2, n⟩ := h.ex
  exact ⟨ns, i, r, s, m _ _ e, m _ _ e2, n⟩
theorem Dek.lst {H : Hp} {d c : Addr} (h : Dek H d c) : ∃ xs, H d = some (.lst xs) := by
  obtain ⟨ns, i, r, s, e, e2, n⟩ := h.ex
  exact ⟨_, e⟩
theorem Dek.ne {H : Hp} {d c p : Addr} (h : Dek H d c) (n : H p = none) : p ≠ d := by
  obtain ⟨xs, e⟩ := h.lst
  exact fun z => by rw [z, e] at n; cases n
theorem Dek.nec {H : Hp} {d c p : Addr} (h : Dek H d c) (n : H p = none) : p ≠ c := by
  obtain ⟨ns, i, r, s, e, e2, _⟩ := h.ex
  exact fun z => by rw [z, e2] at n; cases n
theorem Dek.tups {H H' : Hp} {d c : Addr} (h : Dek H d c) (b : But d H H') : Tups H H' := by
  obtain ⟨xs, e⟩ := h.lst
  exact b.tups e
theorem Dek.but {H H' : Hp} {d c p : Addr} (h : Dek H d c) (b : But p H H') (n1 : d ≠ p) (n2 : c ≠ p) : Dek H' d c := by
  obtain ⟨ns, i, r, s, e, e2, n⟩ := h.ex
  exact ⟨ns, i, r, s, b _ _ n1 e, b _ _ n2 e2, n⟩
/-! ### the menus of names -/
abbrev MENUS : List (List Str) := [["a", "b", "c", "f", "g", "p", "q"], ["c", "a", "b", "g", "f", "q", "p"], ["k1", "zero", "aB_", "suc", "mul", "big", "at0"], ["a", "aa", "aaa", "f1", "f10", "p", "pp"]]
theorem menu_len : ∀ m ∈ MENUS, m.length = 7 := by decide +kernel
theorem menu_nd : ∀ m ∈ MENUS, m.Nodup := by decide +kernel
theorem menu_ok : ∀ m ∈ MENUS, ∀ x ∈ m, PyData.strOk x = true ∧ x.length ≤ 40 ∧ (x == ("true" : Str)) = false := by decide +kernel
/-- the symbols of a term over these names -/
def symW (ws : List Str) (f : Str) (n : Nat) : Prop := ((∃ i : Nat, i < 3 ∧ ws[i]? = some f) ∧ n = 0) ∨ (ws[3]? = some f ∧ n = 1) ∨ (ws[4]? = some f ∧ n = 2)
/-- .. and true -/
def symWT (ws : List Str) (f : Str) (n : Nat) : Prop := symW ws f n ∨ (f = "true" ∧ n = 0)
def natVar (k : Key) : Prop := ∃ i : Int, k = .inl i ∧ 0 ≤ i
theorem symW_mem {ws : List Str} {f : Str} {n : Nat} (h : symW ws f n) : f ∈ ws := by
  rcases h with ⟨⟨i, _, e⟩, _⟩ | ⟨e, _⟩ | ⟨e, _⟩ <;> exact List.mem_of_getElem? e
theorem symWT_ok {ws : List Str} (hm : ws ∈ MENUS) {f : Str} {n : Nat} (h : symWT ws f n) : PyData.strOk f = true := by
  rcases h with h | ⟨rfl, _⟩
  · exact (menu_ok ws hm f (symW_mem h)).1
  · decide +kernel
/-! ### weights -/
def wtOf (W : List (Str × Int)) (f : Str) : Int := ((W.find? fun e => decide (e.1 = f)).map (·.2)).getD 1
mutual
def Ter.wt (W : List (Str × Int)) : Ter → Int
  | .var _ => 1
  | .ap f as => wtOf W f + Ter.wts W as
def Ter.wts (W : List (Str × Int)) : List Ter → Int
  | [] => 0
  | a :: r => a.wt W + Ter.wts W r
end
theorem wts_app (W : List (Str × Int)) : ∀ as bs : List Ter, Ter.wts W (as ++ bs) = Ter.wts W as + Ter.wts W bs
  | [], bs => (Int.zero_add _).symm
  | a :: r, bs => by
    show a.wt W + Ter.wts W (r ++ bs) = a.wt W + Ter.wts W r + Ter.wts W bs
    rw [wts_app W r bs]; omega
theorem wts_sum (W : List (Str × Int)) : ∀ as : List Ter, (as.map (Ter.wt W)).sum = Ter.wts W as
  | [] => rfl
  | a :: r => by
    show a.wt W + (r.map (Ter.wt W)).sum = a.wt W + Ter.wts W r
    rw [wts_sum W r]
def wkv (W : List (Str × Int)) : List (Key × V) := W.map fun e => ((.inr e.1 : Key), V.int e.2)
theorem wkv_val (f : Str) : ∀ W : List (Str × Int), (valV (wkv W) (.inr f)).getD (V.int 1) = .int (wtOf W f)
  | [] => rfl
  | e :: r => by
    show (valV (((.inr e.1 : Key), V.int e.2) :: wkv r) (.inr f)).getD (V.int 1) = _
    unfold wtOf
    rw [List.find?_cons]
    by_cases h : e.1 = f
    · rw [valV_pos (congrArg Sum.inr h), decide_eq_true h]; rfl
    · rw [valV_neg (fun z => h (Sum.inr.inj z)), decide_eq_false h]; exact wkv_val f r
theorem wkv_app (W : List (Str × Int)) (f : Str) (n : Int) : wkv (W ++ [(f, n)]) = wkv W ++ [((.inr f : Key), V.int n)] := by unfold wkv; rw [List.map_append]; rfl
theorem wkv_none {f : Str} : ∀ {W : List (Str × Int)}, f ∉ W.map (·.1) → valV (wkv W) (.inr f) = none
  | [], _ => rfl
  | e :: r, h => by
    show valV (((.inr e.1 : Key), V.int e.2) :: wkv r) (.inr f) = none
    rw [valV_neg fun z => h (by rw [← Sum.inr.inj z]; exact List.mem_cons_self)]
    exact wkv_none fun z => h (List.mem_cons_of_mem _ z)
theorem wkv_len (W : List (Str × Int)) : (wkv W).length = W.length := List.length_map _
/-! ### counts of variables -/
mutual
def Ter.cnt (k : Key) : Ter → Int
  | .var x => if x = k then 1 else 0
  | .ap _ as => Ter.cnts k as
def Ter.cnts (k : Key) : List Ter → Int
  | [] => 0
  | a :: r => a.cnt k + Ter.cnts k r
end
theorem cnts_app (k : Key) : ∀ as bs : List Ter, Ter.cnts k (as ++ bs) = Ter.cnts k as + Ter.cnts k bs
  | [], bs => (Int.zero_add _).symm
  | a :: r, bs => by
    show a.cnt k + Ter.cnts k (r ++ bs) = a.cnt k + Ter.cnts k r + Ter.cnts k bs
    rw [cnts_app k r bs]; omega
def ckv (C : List (Key × Int)) : List (Key × V) := C.map fun e => (e.1, V.int e.2)
def lookC (C : List (Key × Int)) (k : Key) : Int := ((C.find? fun e => decide (e.1 = k)).map (·.2)).getD 0
theorem ckv_val (k : Key) : ∀ C : List (Key × Int), (valV (ckv C) k).getD (V.int 0) = .int (lookC C k)
  | [] => rfl
  | e :: r => by
    show (valV ((e.1, V.int e.2) :: ckv r) k).getD (V.int 0) = _
    unfold lookC
    rw [List.find?_cons]
    by_cases h : e.1 = k
    · rw [valV_pos h, decide_eq_true h]; rfl
    · rw [valV_neg h, decide_eq_false h]; exact ckv_val k r
def putC (C : List (Key × Int)) (k : Key) (n : Int) : List (Key × Int) := if (C.any fun e => decide (e.1 = k)) = true then C.map fun e => if e.1 = k then (e.1, n) else e else C ++ [(k, n)]
theorem ckv_put (C : List (Key × Int)) (k : Key) (n : Int) : putK (ckv C) k (V.int n) = ckv (putC C k n) := by
  unfold putC putK ckv
  have e : ((C.map fun e => (e.1, V.int e.2)).any fun kv => decide (kv.1 = k)) = C.any fun kv => decide (kv.1 = k) := by rw [List.any_map]; rfl
  rw [e]
  split
  · rw [List.map_map, List.map_map]
    refine List.map_congr_left fun x _ => ?_
    show (if x.1 = k then (x.1, V.int n) else (x.1, V.int x.2)) = ((if x.1 = k then (x.1, n) else x).1, V.int (if x.1 = k then (x.1, n) else x).2)
    by_cases c : x.1 = k
    · rw [if_pos c, if_pos c]
    · rw [if_neg c, if_neg c]
  · rw [List.map_append]; rfl
theorem lookC_put (k j : Key) (n : Int) : ∀ C : List (Key × Int), lookC (putC C k n) j = if j = k then n else lookC C j := fun C => by
  have h1 := ckv_val j (putC C k n)
  have h2 := ckv_val j C
  rw [← ckv_put, valV_put] at h1
  by_cases c : j = k
  · rw [if_pos c] at h1 ⊢
    exact (V.int.inj h1).symm
  · rw [if_neg c, h2] at h1
    rw [if_neg c]
    exact (V.int.inj h1).symm
theorem putC_len (C : List (Key × Int)) (k : Key) (n : Int) : (putC C k n).length ≤ C.length + 1 := by
  unfold putC
  split
  · rw [List.length_map]; omega
  · rw [List.length_append, List.length_singleton]
    exact Nat.le_refl _
theorem putC_nd {C : List (Key × Int)} {k : Key} {n : Int} (h : (C.map (·.1)).Nodup) : ((putC C k n).map (·.1)).Nodup := by
  unfold putC
  split
  · have e : (C.map fun e => if e.1 = k then (e.1, n) else e).map (·.1) = C.map (·.1) := by
      rw [List.map_map]
      refine List.map_congr_left fun x _ => ?_
      show (if x.1 = k then (x.1, n) else x).1 = x.1
      split <;> rfl
    rw [e]; exact h
  · rename_i c
    rw [List.map_append]
    refine nd_snoc h fun z => c ?_
    obtain ⟨e, he, ek⟩ := List.mem_map.mp z
    exact List.any_eq_true.mpr ⟨e, he, decide_eq_true ek⟩
theorem nodup_sub {α : Type} [DecidableEq α] : ∀ (l m : List α), l.Nodup → (∀ x ∈ l, x ∈ m) → l.length ≤ m.length
  | [], _, _, _ => Nat.zero_le _
  | a :: r, m, nd, h => by
    have nd : a ∉ r ∧ r.Nodup := List.nodup_cons.mp nd
    have ha := h a List.mem_cons_self
    have h1 := nodup_sub r (m.erase a) nd.2 fun x hx => (List.mem_erase_of_ne (fun z => nd.1 (by rw [← z]; exact hx))).mpr (h x (List.mem_cons_of_mem _ hx))
    rw [List.length_erase_of_mem ha] at h1
    have : 0 < m.length := List.length_pos_of_mem ha
    show r.length + 1 ≤ m.length
    omega
end Own
namespace Own
open PySem PySem.Spec PyProof.Rows L2 RT HT
theorem iteNo {c : Bool} {A B : Prop} (hc : c = false) (h : B) : if c = true then A else B := by rw [hc]; exact iteF h
theorem iteYe {c : Bool} {A B : Prop} (hc : c = true) (h : A) : if c = true then A else B := by rw [hc]; exact iteT h
theorem val_not {k : Key} : ∀ {kvs : List (Key × V)}, k ∉ kvs.map (·.1) → valV kvs k = none
  | [], _ => rfl
  | (a, v) :: r, h => by
    rw [valV_neg (fun z => h (by rw [← z]; exact List.mem_cons_self))]
    exact val_not fun z => h (List.mem_cons_of_mem _ z)
theorem nodup_take {α : Type} {l : List α} {i : Nat} {x : α} (nd : l.Nodup) (h : l[i]? = some x) : x ∉ l.take i := fun z => by
  have e : l = l.take i ++ l.drop i := (List.take_append_drop i l).symm
  rw [e] at nd
  refine (List.nodup_append.mp nd).2.2 x z x ?_ rfl
  have : (l.drop i)[0]? = some x := by rw [List.getElem?_drop]; exact h
  exact List.mem_of_getElem? this
/-! ### ranks -/
def rkv : Nat → List Str → List (Key × V)
  | _, [] => []
  | n, x :: r => ((.inr x : Key), V.int (n : Nat)) :: rkv (n + 1) r
theorem rkv_snoc (y : Str) : ∀ (xs : List Str) (n : Nat), rkv n (xs ++ [y]) = rkv n xs ++ [((.inr y : Key), V.int ((n + xs.length : Nat)))]
  | [], n => rfl
  | x :: r, n => by
    show ((.inr x : Key), V.int (n : Nat)) :: rkv (n + 1) (r ++ [y]) = ((.inr x : Key), V.int (n : Nat)) :: (rkv (n + 1) r ++ [((.inr y : Key), V.int ((n + (r.length + 1) : Nat)))])
    rw [rkv_snoc y r (n + 1), show n + 1 + r.length = n + (r.length + 1) by omega]
theorem rkv_keys : ∀ (xs : List Str) (n : Nat), (rkv n xs).map (·.1) = xs.map fun x => (.inr x : Key)
  | [], _ => rfl
  | x :: r, n => congrArg ((.inr x : Key) :: ·) (rkv_keys r (n + 1))
theorem rkv_none {x : Str} {xs : List Str} (n : Nat) (h : x ∉ xs) : valV (rkv n xs) (.inr x) = none := val_not fun z => by
  rw [rkv_keys] at z
  obtain ⟨y, hy, e⟩ := List.mem_map.mp z
  exact h (by rw [← Sum.inr.inj e]; exact hy)
theorem rkv_len : ∀ (xs : List Str) (n : Nat), (rkv n xs).length = xs.length
  | [], _ => rfl
  | x :: r, n => congrArg (· + 1) (rkv_len r (n + 1))
end Own
namespace Own
open PySem PySem.Spec PyProof.Rows L2 RT HT
/-! ### list(d.values()) -/
def tListVals (td : TE) : TE := fun σ H Q => td σ H fun x H1 => ∃ a kvs, x = V.ref a ∧ H1 a = some (.dK kvs) ∧ ∀ p, H1 p = none → Q (.ref p) (upd H1 p (.lst (kvs.map (·.2))))
theorem vals_at {xs : List V} : ∀ {us : List Value}, us.length = xs.length → (∀ (j : Nat) (u : Value), us[j]? = some u → ∃ x, xs[j]? = some x ∧ RelV x u) → Vals xs us := by
  induction xs with
  | nil =>
    intro us h _
    cases us with
    | nil => exact .nil
    | cons u r => cases h
  | cons x xs ih =>
    intro us h k
    cases us with
    | nil => cases h
    | cons u r =>
      obtain ⟨y, h1, h2⟩ := k 0 u rfl
      cases (Option.some.inj (show some x = some y from h1))
      exact .cons h2 (ih (Nat.succ.inj h) fun j v e => k (j + 1) v (by simpa using e))
theorem pe_listVals {X : Cx} {o : Expr} {p pos apos mpos : Pos} {td : TE} (hc : X.calm = true) (hg : Gl X "list") (hm : X.mg "list" = none) (hd : PE X o td) (hbase : attributeBase o "values" X.env (eval o X.env) = eval o X.env := by rfl) (hline : (apos.endLine == mpos.line) = true := by rfl)
    (hse : starEach [Expr.Call (.Attribute o "values" apos) [] [] mpos] X.env = (false, eval (Expr.Call (.Attribute o "values" apos) [] [] mpos) X.env) :: starEach [] X.env := by rfl) :
    PE X (.Call (.Name "list" p) [.Call (.Attribute o "values" apos) [] [] mpos] [] pos) (tListVals td) := by
  refine ⟨fun pins s σ H Q I h => ?_⟩
  refine Call_ (ld_blt I hg hm boot_list (callWith_type1 (args_cons (wpAny_Call_method0_late hbase hline (thn (hd.run pins s σ H _ I h) fun v s1 ⟨x, H1, I1, r1, a, kvs, ex, ha, q⟩ => ?_)) hse) hse rfl))
  subst ex
  obtain rfl : v = Value.ref a := r1
  obtain ⟨z, hsys, vs, rel, dof⟩ := dk_of I1.hok ha
  obtain ⟨ep, dat⟩ := dof.dictAt
  have dat' := dat
  obtain ⟨ob, es, ho, ex, hdat, hko, hpr, hnd⟩ := dat'
  refine ⟨"dict", "dict.values", F.plainAttrs_dict, F.slot_dict_values, F.type_dict_values, ⟨ob, ho, ex.1⟩, fun b e => ?_, Calls.callWith_builtin rfl (PySem.evalArgs_none ?_)⟩
  · cases e
    exact ⟨ob, ho, ex.2.1⟩
  refine call_meetsIn F.slot_dict_values ⟨ob, ho, ex.1⟩ F.entry_dict_values (F.args_dict_values_1 _) (meets_dict_values (mixKind X.prog X.w) a hsys) ⟨⟨vs, dof⟩, ?_⟩
  have k1 : ∀ b u, s1.heap.get? b = some u → (s1.heap.push { cls := .type "dict_values", data := .fields #[.ref a] }).get? b = some u := fun b u e => Heap.get?_push_of_some _ e
  have dat1 : (s1.heap.push { cls := .type "dict_values", data := .fields #[.ref a] }).DictAt (mixKind X.prog X.w) a vs ep := dat.keep k1
  have I2 : Inv X pins σ H1 { s1 with heap := s1.heap.push { cls := .type "dict_values", data := .fields #[.ref a] } } := I1.kept (t' := s1.toks) k1
  refine args_nil ?_
  refine PySem.W.kdl_call (PySem.W.kdl_values (knd := mixKind X.prog X.w) (r := s1.heap.objs.size) (d := a) (kvs := vs) (ep := ep)) (I2.ok.hd hc) ⟨⟨_, Heap.get?_push_size _ rfl, rfl, rfl⟩, dat1⟩ (by rw [← rel.length]; exact Nat.le_of_lt_succ (Nat.lt_succ_of_le z)) fun h' tk acc c' hk hD hacc => ?_
  have hv : Vals (kvs.map (·.2)) acc.toList := by
    refine vals_at (by rw [Array.length_toList, List.length_map, hacc.1, ← rel.length]) fun j u e => ?_
    obtain ⟨k, hk2⟩ := hacc.2 j u (by rw [← Array.getElem?_toList]; exact e)
    obtain ⟨x, h1, h2⟩ := KV.at' rel hk2
    exact ⟨x, by rw [List.getElem?_map, h1]; rfl, h2⟩
  exact ⟨.ref _, upd H1 _ (.lst (kvs.map (·.2))), I2.laid (t' := tk) hk (Nat.le_refl _) (show ObjOk X.prog X.w _ _ _ (.lst (kvs.map (·.2))) from ⟨by rw [List.length_map]; exact z, acc.toList, c', hv, by rw [Array.toArray_toList]; exact hD⟩), rfl, q _ (I2.hok.fresh (Nat.le_refl _))⟩
/-! ### min(list of ints, default=d) -/
def minI (d : Int) : List Int → Int
  | [] => d
  | x :: xs => PySem.W.minOf x xs
def rMinDf (K : PySem.W.Frag) : List V → List V → Hp → VK → Prop := fun vs zs H Q => ∃ (a : Addr) (ns : List Int) (d : Int), vs = [V.ref a] ∧ zs = [.int d] ∧ SqL K H a (ns.map V.int) ∧ Q (.int (minI d ns)) H
theorem cr_minDf {X : Cx} (hc : X.calm = true) (hu : X.A.units + 1 < cLine) : CallRK X (.builtin "min") ["default"] (rMinDf X.K) := by
  intro pins s σ H vs zs us ws Q I r r2 h
  obtain ⟨a, ns, d, rfl, rfl, hs, q⟩ := h
  obtain ⟨its, rv, hl, _⟩ := I.list hs
  rw [Vals.ref1 r]
  cases r2 with
  | cons rd rr =>
    cases rr
    have hd : ∀ {v : Value} {n : Int}, RelV (.int n) v → ∃ t, v = .int n t := fun h => h
    obtain ⟨td, rfl⟩ := hd rd
    obtain ⟨as, ra⟩ := Dp.readsAll I (ns.map PyData.int) (ns.map V.int) its (dp_ints ns) rv
    refine PySem.W.min_list_datum_default (α := Int) (xs := ns) (I.ok.hd hc) hl.isList ⟨as, ra⟩ hu (fun e h' tk hk => ?_) (fun y ys i v h' tk e hi hh hk => ?_)
    · subst e
      exact ⟨.int d, H, I.kept hk, ⟨_, rfl⟩, q⟩
    · subst e
      obtain ⟨bs, rb⟩ := hh
      have hv : ∀ {d : PyData}, Reads h' v d bs → d = .int (PySem.W.minOf y ys) → ∃ t, v = .int (PySem.W.minOf y ys) t := fun r e => by
        subst e
        cases r
        exact ⟨_, rfl⟩
      obtain ⟨t, hv⟩ := hv rb rfl
      rw [hv]
      exact ⟨.int _, H, I.kept hk, ⟨_, rfl⟩, q⟩
/-! ### > of alike data -/
def rGtD (K : PySem.W.Frag) : R2 := fun x y H Q => ∃ d e, Dp K H x d ∧ Dp K H y e ∧ PySem.W.alike d e = true ∧ d ≠ .none ∧ min d.depth e.depth ≤ 60 ∧ Q (.bl (PySem.W.dataLt e d)) H
theorem op_gtD {X : Cx} (room : X.A.units + 65 < cLine) : OpR X (compareOp .Gt) (rGtD X.K) := by
  intro pn t τ G p r vp vr Q J kp kr
  rintro ⟨d, e, h1, h2, al, nn, dl, q⟩
  obtain ⟨_, g1⟩ := Dp.reads J d p vp h1 kp
  obtain ⟨_, g2⟩ := Dp.reads J e r vr h2 kr
  exact PySem.W.gt_data g1 g2 al nn (by omega) ⟨.bl _, G, J, rfl, q⟩
end Own
namespace Own
open PySem PySem.Spec PyProof.Rows L2 RT HT
/-! ### ranks -/
def idxP : List Str → Str → Option Nat
  | [], _ => none
  | y :: r, x => if y = x then some 0 else (idxP r x).map (· + 1)
theorem rkv_val (x : Str) : ∀ (ps : List Str) (n : Nat), valV (rkv n ps) (.inr x) = (idxP ps x).map fun i => V.int ((n + i : Nat))
  | [], _ => rfl
  | y :: r, n => by
    show valV (((.inr y : Key), V.int (n : Nat)) :: rkv (n + 1) r) (.inr x) = ((if y = x then some 0 else (idxP r x).map (· + 1))).map _
    by_cases c : y = x
    · rw [valV_pos (congrArg Sum.inr c), if_pos c]; rfl
    · rw [valV_neg (fun z => c (Sum.inr.inj z)), if_neg c, rkv_val x r (n + 1), Option.map_map]
      cases idxP r x with
      | none => rfl
      | some i => show some (V.int _) = some (V.int _); rw [show n + 1 + i = n + (i + 1) by omega]
theorem idxP_some {x : Str} : ∀ {ps : List Str} {i : Nat}, idxP ps x = some i → ps[i]? = some x ∧ ∀ m, m < i → ps[m]? ≠ some x
  | [], _, h => by cases h
  | y :: r, i, h => by
    have h : (if y = x then some 0 else (idxP r x).map (· + 1)) = some i := h
    by_cases c : y = x
    · rw [if_pos c] at h
      cases h
      exact ⟨by rw [c]; rfl, fun m hm => absurd hm (Nat.not_lt_zero m)⟩
    · rw [if_neg c] at h
      obtain ⟨j, hj, rfl⟩ := Option.map_eq_some_iff.mp h
      obtain ⟨h1, h2⟩ := idxP_some hj
      refine ⟨h1, fun m hm => ?_⟩
      cases m with
      | zero => exact fun z => c (Option.some.inj z)
      | succ k => exact h2 k (by omega)
theorem idxP_mem {x : Str} : ∀ {ps : List Str}, (idxP ps x).isSome = true ↔ x ∈ ps
  | [] => ⟨fun h => (by cases h), fun h => (by cases h)⟩
  | y :: r => by
    show (if y = x then some 0 else (idxP r x).map (· + 1)).isSome = true ↔ _
    by_cases c : y = x
    · rw [if_pos c]
      exact ⟨fun _ => by rw [c]; exact List.mem_cons_self, fun _ => rfl⟩
    · rw [if_neg c, Option.isSome_map, idxP_mem]
      exact ⟨List.mem_cons_of_mem _, fun h => by
        rcases List.mem_cons.mp h with h | h
        · exact absurd h.symm c
        · exact h⟩
def rnk (ps : List Str) (x : Str) : List PyData := if x = "true" then [.int 0, .int 0, .str ""] else match idxP ps x with
  | some i => [.int 1, .int (i : Nat), .str ""]
  | none => [.int 2, .int 0, .str x]
/-- the law's word for it -/
def lhi (ps : List Str) (f g : Str) : Bool := if f = g then false else if f = "true" ∨ g = "true" then decide (g = "true") else
  match idxP ps f, idxP ps g with
  | some i, some j => decide (j < i)
  | some _, none => false
  | none, some _ => true
  | none, none => decide (g.cps.toList < f.cps.toList)
theorem lt3 (a b c d : Int) (s t : Str) : PySem.W.dataLt (.tuple [.int a, .int b, .str s]) (.tuple [.int c, .int d, .str t]) = if a = c then (if b = d then decide (s.cps.toList < t.cps.toList) else decide (b < d)) else decide (a < c) := by
  have z : PyProof.Rows.lexLt PyProof.Rows.itemOrd (PySem.W.keyToksAll []) (PySem.W.keyToksAll []) = false := lex_irrefl _
  have ei : ∀ x y : Int, (PyData.eqv (.int x) (.int y) = true) ↔ x = y := fun x y => by
    show (decide (x = y) = true) ↔ _
    exact decide_eq_true_iff
  have es : ∀ x y : Str, (PyData.eqv (.str x) (.str y) = true) ↔ x = y := fun x y => by
    show ((x == y) = true) ↔ _
    exact beq_iff_eq
  rw [PySem.W.dataLt_tuple, PySem.W.dataLt_cons rfl]
  by_cases h1 : a = c
  · rw [if_pos ((ei _ _).mpr h1), if_pos h1, PySem.W.dataLt_cons rfl]
    by_cases h2 : b = d
    · rw [if_pos ((ei _ _).mpr h2), if_pos h2, PySem.W.dataLt_cons rfl]
      by_cases h3 : s = t
      · rw [if_pos ((es _ _).mpr h3), z, h3]
        exact (decide_eq_false (List.lt_irrefl _)).symm
      · rw [if_neg (fun q => h3 ((es _ _).mp q)), PySem.W.dataLt_str]
    · rw [if_neg (fun q => h2 ((ei _ _).mp q)), if_neg h2, PySem.W.dataLt_int]
  · rw [if_neg (fun q => h1 ((ei _ _).mp q)), if_neg h1, PySem.W.dataLt_int]
theorem hi_lhi (ps : List Str) (f g : Str) : PySem.W.dataLt (.tuple (rnk ps g)) (.tuple (rnk ps f)) = lhi ps f g := by
  unfold rnk lhi
  by_cases e : f = g
  · subst e
    rw [if_pos rfl]
    exact PySem.W.dataLt_self _
  · rw [if_neg e]
    by_cases cf : f = "true"
    · have cg : ¬ g = "true" := fun z => e (cf.trans z.symm)
      rw [if_neg cg, if_pos cf, if_pos (.inl cf), decide_eq_false cg]
      cases idxP ps g with
      | some j => show PySem.W.dataLt (.tuple [.int 1, .int (j : Nat), .str ""]) (.tuple [.int 0, .int 0, .str ""]) = _; rw [lt3, if_neg (by decide)]; rfl
      | none => show PySem.W.dataLt (.tuple [.int 2, .int 0, .str g]) (.tuple [.int 0, .int 0, .str ""]) = _; rw [lt3, if_neg (by decide)]; rfl
    · rw [if_neg cf]
      by_cases cg : g = "true"
      · rw [if_pos cg, if_pos (.inr cg), decide_eq_true cg]
        cases idxP ps f with
        | some j => show PySem.W.dataLt (.tuple [.int 0, .int 0, .str ""]) (.tuple [.int 1, .int (j : Nat), .str ""]) = _; rw [lt3, if_neg (by decide)]; rfl
        | none => show PySem.W.dataLt (.tuple [.int 0, .int 0, .str ""]) (.tuple [.int 2, .int 0, .str f]) = _; rw [lt3, if_neg (by decide)]; rfl
      · rw [if_neg cg, if_neg (fun h => h.elim cf cg)]
        cases hf : idxP ps f with
        | some i =>
          cases hg : idxP ps g with
          | some j =>
            show PySem.W.dataLt (.tuple [.int 1, .int (j : Nat), .str ""]) (.tuple [.int 1, .int (i : Nat), .str ""]) = decide (j < i)
            rw [lt3, if_pos rfl]
            by_cases c : (j : Int) = (i : Nat)
            · have : j = i := by omega
              subst this
              rw [if_pos rfl, decide_eq_false (List.lt_irrefl _), decide_eq_false (Nat.lt_irrefl _)]
            · rw [if_neg c]
              exact decide_eq_decide.mpr (by omega)
          | none => show PySem.W.dataLt (.tuple [.int 2, .int 0, .str g]) (.tuple [.int 1, .int (i : Nat), .str ""]) = _; rw [lt3, if_neg (by decide)]; rfl
        | none =>
          cases hg : idxP ps g with
          | some j => show PySem.W.dataLt (.tuple [.int 1, .int (j : Nat), .str ""]) (.tuple [.int 2, .int 0, .str f]) = _; rw [lt3, if_neg (by decide)]; rfl
          | none => show PySem.W.dataLt (.tuple [.int 2, .int 0, .str g]) (.tuple [.int 2, .int 0, .str f]) = _; rw [lt3, if_pos rfl, if_pos rfl]
theorem lhi_not {ps : List Str} {f g : Str} (h : lhi ps f g = true) : lhi ps g f = false := by
  rw [← hi_lhi] at h ⊢
  cases c : PySem.W.dataLt (.tuple (rnk ps f)) (.tuple (rnk ps g)) with
  | false => rfl
  | true => exact absurd (lex_trans (O := PyProof.Rows.itemOrd) _ _ _ c h) (by rw [lex_irrefl]; decide)
theorem idxP_inj {ps : List Str} {f g : Str} {i : Nat} (h1 : idxP ps f = some i) (h2 : idxP ps g = some i) : f = g := Option.some.inj ((idxP_some h1).1.symm.trans (idxP_some h2).1)
theorem lhi_or {ps : List Str} {f g : Str} (e : f ≠ g) (h : lhi ps f g = false) : lhi ps g f = true := by
  unfold lhi at h ⊢
  rw [if_neg e] at h
  rw [if_neg e.symm]
  by_cases c : f = "true" ∨ g = "true"
  · rw [if_pos c] at h
    rw [if_pos c.symm]
    exact decide_eq_true (c.elim id fun z => absurd z (of_decide_eq_false h))
  · rw [if_neg c] at h
    rw [if_neg (fun z => c z.symm)]
    cases hf : idxP ps f with
    | some i =>
      cases hg : idxP ps g with
      | some j =>
        rw [hf, hg] at h
        have h : ¬ j < i := of_decide_eq_false h
        have : i ≠ j := fun z => e (idxP_inj hf (by rw [hg, z]))
        exact decide_eq_true (by omega)
      | none => rfl
    | none =>
      cases hg : idxP ps g with
      | some j => rw [hf, hg] at h; exact absurd h Bool.noConfusion
      | none =>
        rw [hf, hg] at h
        have h : ¬ g.cps.toList < f.cps.toList := of_decide_eq_false h
        refine decide_eq_true ?_
        have le : f.cps.toList ≤ g.cps.toList := List.not_lt.mp h
        refine Classical.byContradiction fun n => e ?_
        exact PySem.W.str_of_cps (List.le_antisymm le (List.not_lt.mp n))
end Own
namespace Own
open PySem PySem.Spec PyProof.Rows L2 RT HT
/-! ### the ordering of terms -/
def cge (a b : Ter) : Prop := ∀ k, b.cnt k ≤ a.cnt k
def fdiff : List Ter → List Ter → Option (Ter × Ter)
  | a :: r, b :: s => if eT a b = true then fdiff r s else some (a, b)
  | _, _ => none
theorem fdiff_comm : ∀ as bs : List Ter, fdiff bs as = (fdiff as bs).map fun p => (p.2, p.1)
  | [], [] => rfl
  | [], _ :: _ => rfl
  | _ :: _, [] => rfl
  | a :: r, b :: s => by
    show (if eT b a = true then fdiff s r else some (b, a)) = (if eT a b = true then fdiff r s else some (a, b)).map _
    rw [eT_comm b a]
    by_cases c : eT a b = true
    · rw [if_pos c, if_pos c]; exact fdiff_comm r s
    · rw [if_neg c, if_neg c]; rfl
theorem fdiff_ne : ∀ {as bs : List Ter} {p : Ter × Ter}, fdiff as bs = some p → eT p.1 p.2 = false
  | [], [], _, h => by cases h
  | [], _ :: _, _, h => by cases h
  | _ :: _, [], _, h => by cases h
  | a :: r, b :: s, p, h => by
    have h : (if eT a b = true then fdiff r s else some (a, b)) = some p := h
    by_cases c : eT a b = true
    · rw [if_pos c] at h; exact fdiff_ne h
    · rw [if_neg c] at h
      cases h
      exact Bool.eq_false_iff.mpr c
def grs (ps : List Str) (g : Ter → Ter → Prop) : Ter → Ter → Prop
  | .ap f as, .ap h bs => if f = h then (match fdiff as bs with
    | some p => g p.1 p.2
    | none => False) else lhi ps f h = true
  | _, _ => False
def gre (W : List (Str × Int)) (ps : List Str) : Nat → Ter → Ter → Prop
  | 0, _, _ => False
  | n + 1, a, b => cge a b ∧ (if a.wt W = b.wt W then grs ps (gre W ps n) a b else b.wt W < a.wt W)
theorem grs_v (ps : List Str) (g : Ter → Ter → Prop) (k : Key) (b : Ter) : grs ps g (.var k) b = False := by cases b <;> rfl
theorem grs_w (ps : List Str) (g : Ter → Ter → Prop) (k : Key) (b : Ter) : grs ps g b (.var k) = False := by cases b <;> rfl
theorem gre_not (W : List (Str × Int)) (ps : List Str) : ∀ (n : Nat) (a b : Ter), gre W ps n a b → ¬ gre W ps n b a
  | 0, _, _, h => h.elim
  | n + 1, a, b, h => fun h' => by
    obtain ⟨_, h⟩ := h
    obtain ⟨_, h'⟩ := h'
    by_cases e : a.wt W = b.wt W
    · rw [if_pos e] at h
      rw [if_pos e.symm] at h'
      cases a with
      | var k => rw [grs_v] at h; exact h
      | ap f as =>
        cases b with
        | var k => rw [grs_w] at h; exact h
        | ap g bs =>
          have h : if f = g then (match fdiff as bs with
            | some p => gre W ps n p.1 p.2
            | none => False) else lhi ps f g = true := h
          have h' : if g = f then (match fdiff bs as with
            | some p => gre W ps n p.1 p.2
            | none => False) else lhi ps g f = true := h'
          by_cases c : f = g
          · rw [if_pos c] at h
            rw [if_pos c.symm, fdiff_comm as bs] at h'
            cases z : fdiff as bs with
            | none => rw [z] at h; exact h
            | some p =>
              rw [z] at h h'
              exact gre_not W ps n p.1 p.2 h h'
          · rw [if_neg c] at h
            rw [if_neg (fun z => c z.symm), lhi_not h] at h'
            cases h'
    · rw [if_neg e] at h
      rw [if_neg (fun z => e z.symm)] at h'
      omega
open Classical in
noncomputable def cmpS (W : List (Str × Int)) (ps : List Str) (n : Nat) (a b : Ter) : Str := if eT a b = true then "equal" else if gre W ps n a b then "greater" else if gre W ps n b a then "less" else "incomparable"
noncomputable def symS (W : List (Str × Int)) (ps : List Str) (n : Nat) : Ter → Ter → Str
  | .ap f as, .ap g bs => if f = g then (match fdiff as bs with
    | some p => cmpS W ps n p.1 p.2
    | none => "incomparable") else if lhi ps f g = true then "greater" else "less"
  | _, _ => "incomparable"
theorem symS_ap (W : List (Str × Int)) (ps : List Str) (n : Nat) (f g : Str) (as bs : List Ter) : symS W ps n (.ap f as) (.ap g bs) = (if f = g then (match fdiff as bs with
    | some p => cmpS W ps n p.1 p.2
    | none => ("incomparable" : Str)) else if lhi ps f g = true then ("greater" : Str) else ("less" : Str) : Str) := rfl
noncomputable def rawS (W : List (Str × Int)) (ps : List Str) (n : Nat) (a b : Ter) : Str := if a.wt W = b.wt W then symS W ps n a b else if b.wt W < a.wt W then "greater" else "less"
theorem str_gl : ("greater" : Str) ≠ "less" := by decide +kernel
theorem str_ig : ("incomparable" : Str) ≠ "greater" := by decide +kernel
theorem str_il : ("incomparable" : Str) ≠ "less" := by decide +kernel
/-- what the sides of a comparison of weight and symbols say -/
theorem raw_cases (W : List (Str × Int)) (ps : List Str) (n : Nat) (a b : Ter) : (rawS W ps n a b = "greater" ∧ (gre W ps (n + 1) a b ↔ cge a b) ∧ ¬ gre W ps (n + 1) b a) ∨ (rawS W ps n a b = "less" ∧ (gre W ps (n + 1) b a ↔ cge b a) ∧ ¬ gre W ps (n + 1) a b) ∨ (rawS W ps n a b = "incomparable" ∧ ¬ gre W ps (n + 1) a b ∧ ¬ gre W ps (n + 1) b a) := by
  unfold rawS
  by_cases e : a.wt W = b.wt W
  · rw [if_pos e]
    have g1 : gre W ps (n + 1) a b ↔ cge a b ∧ grs ps (gre W ps n) a b := by
      show (cge a b ∧ (if a.wt W = b.wt W then _ else _)) ↔ _
      rw [if_pos e]
    have g2 : gre W ps (n + 1) b a ↔ cge b a ∧ grs ps (gre W ps n) b a := by
      show (cge b a ∧ (if b.wt W = a.wt W then _ else _)) ↔ _
      rw [if_pos e.symm]
    cases a with
    | var k =>
      rw [grs_v] at g1
      rw [grs_w] at g2
      exact .inr (.inr ⟨by cases b <;> rfl, fun h => (g1.mp h).2, fun h => (g2.mp h).2⟩)
    | ap f as =>
      cases b with
      | var k =>
        rw [grs_w] at g1
        rw [grs_v] at g2
        exact .inr (.inr ⟨rfl, fun h => (g1.mp h).2, fun h => (g2.mp h).2⟩)
      | ap g bs =>
        rw [symS_ap]
        by_cases c : f = g
        · have g1 : gre W ps (n + 1) (.ap f as) (.ap g bs) ↔ cge (.ap f as) (.ap g bs) ∧ (match fdiff as bs with
            | some p => gre W ps n p.1 p.2
            | none => False) := by
            have g1 : _ ↔ _ ∧ (if f = g then _ else _) := g1
            rw [if_pos c] at g1; exact g1
          have g2 : gre W ps (n + 1) (.ap g bs) (.ap f as) ↔ cge (.ap g bs) (.ap f as) ∧ (match fdiff bs as with
            | some p => gre W ps n p.1 p.2
            | none => False) := by
            have g2 : _ ↔ _ ∧ (if g = f then _ else _) := g2
            rw [if_pos c.symm] at g2; exact g2
          rw [if_pos c]
          rw [fdiff_comm as bs] at g2
          cases z : fdiff as bs with
          | none =>
            rw [z] at g1 g2
            exact .inr (.inr ⟨rfl, fun h => (g1.mp h).2, fun h => (g2.mp h).2⟩)
          | some p =>
            rw [z] at g1 g2
            have g1 : gre W ps (n + 1) (.ap f as) (.ap g bs) ↔ cge (.ap f as) (.ap g bs) ∧ gre W ps n p.1 p.2 := g1
            have g2 : gre W ps (n + 1) (.ap g bs) (.ap f as) ↔ cge (.ap g bs) (.ap f as) ∧ gre W ps n p.2 p.1 := g2
            have ne := fdiff_ne z
            show (cmpS W ps n p.1 p.2 = _ ∧ _) ∨ (cmpS W ps n p.1 p.2 = _ ∧ _) ∨ (cmpS W ps n p.1 p.2 = _ ∧ _)
            unfold cmpS
            rw [if_neg (by rw [ne]; exact Bool.false_ne_true)]
            by_cases h1 : gre W ps n p.1 p.2
            · have h2 := gre_not W ps n _ _ h1
              rw [if_pos h1]
              exact .inl ⟨rfl, ⟨fun h => (g1.mp h).1, fun h => g1.mpr ⟨h, h1⟩⟩, fun h => h2 (g2.mp h).2⟩
            · rw [if_neg h1]
              by_cases h2 : gre W ps n p.2 p.1
              · rw [if_pos h2]
                exact .inr (.inl ⟨rfl, ⟨fun h => (g2.mp h).1, fun h => g2.mpr ⟨h, h2⟩⟩, fun h => h1 (g1.mp h).2⟩)
              · rw [if_neg h2]
                exact .inr (.inr ⟨rfl, fun h => h1 (g1.mp h).2, fun h => h2 (g2.mp h).2⟩)
        · have g1 : gre W ps (n + 1) (.ap f as) (.ap g bs) ↔ cge (.ap f as) (.ap g bs) ∧ lhi ps f g = true := by
            have g1 : _ ↔ _ ∧ (if f = g then _ else _) := g1
            rw [if_neg c] at g1; exact g1
          have g2 : gre W ps (n + 1) (.ap g bs) (.ap f as) ↔ cge (.ap g bs) (.ap f as) ∧ lhi ps g f = true := by
            have g2 : _ ↔ _ ∧ (if g = f then _ else _) := g2
            rw [if_neg (fun z => c z.symm)] at g2; exact g2
          rw [if_neg c]
          cases hh : lhi ps f g with
          | true =>
            rw [if_pos rfl]
            exact .inl ⟨rfl, ⟨fun h => (g1.mp h).1, fun h => g1.mpr ⟨h, hh⟩⟩, fun h => by rw [lhi_not hh] at g2; exact Bool.false_ne_true (g2.mp h).2⟩
          | false =>
            rw [if_neg Bool.false_ne_true]
            have h2 := lhi_or c hh
            exact .inr (.inl ⟨rfl, ⟨fun h => (g2.mp h).1, fun h => g2.mpr ⟨h, h2⟩⟩, fun h => by rw [hh] at g1; exact Bool.false_ne_true (g1.mp h).2⟩)
  · have g1 : gre W ps (n + 1) a b ↔ cge a b ∧ b.wt W < a.wt W := by
      show (cge a b ∧ (if a.wt W = b.wt W then _ else _)) ↔ _
      rw [if_neg e]
    have g2 : gre W ps (n + 1) b a ↔ cge b a ∧ a.wt W < b.wt W := by
      show (cge b a ∧ (if b.wt W = a.wt W then _ else _)) ↔ _
      rw [if_neg (fun z => e z.symm)]
    rw [if_neg e]
    by_cases c : b.wt W < a.wt W
    · rw [if_pos c]
      exact .inl ⟨rfl, ⟨fun h => (g1.mp h).1, fun h => g1.mpr ⟨h, c⟩⟩, fun h => by have := (g2.mp h).2; omega⟩
    · rw [if_neg c]
      exact .inr (.inl ⟨rfl, ⟨fun h => (g2.mp h).1, fun h => g2.mpr ⟨h, by omega⟩⟩, fun h => by have := (g1.mp h).2; omega⟩)
theorem cmp_raw {W : List (Str × Int)} {ps : List Str} {n : Nat} {a b : Ter} (h : eT a b = false) :
    (rawS W ps n a b = "greater" → cmpS W ps (n + 1) a b = (open Classical in if cge a b then "greater" else "incomparable")) ∧ (rawS W ps n a b = "less" → cmpS W ps (n + 1) a b = (open Classical in if cge b a then "less" else "incomparable")) ∧
    (rawS W ps n a b ≠ "greater" → rawS W ps n a b ≠ "less" → cmpS W ps (n + 1) a b = rawS W ps n a b) := by
  unfold cmpS
  rw [if_neg (by rw [h]; exact Bool.false_ne_true)]
  rcases raw_cases W ps n a b with ⟨e, g1, g2⟩ | ⟨e, g1, g2⟩ | ⟨e, g1, g2⟩
  · rw [e]
    refine ⟨fun _ => ?_, fun z => absurd z str_gl, fun z => absurd rfl z⟩
    by_cases c : cge a b
    · rw [if_pos (g1.mpr c), if_pos c]
    · rw [if_neg (fun z => c (g1.mp z)), if_neg g2, if_neg c]
  · rw [e]
    refine ⟨fun z => absurd z.symm str_gl, fun _ => ?_, fun _ z => absurd rfl z⟩
    rw [if_neg g2]
    by_cases c : cge b a
    · rw [if_pos (g1.mpr c), if_pos c]
    · rw [if_neg (fun z => c (g1.mp z)), if_neg c]
  · rw [e]
    refine ⟨fun z => absurd z str_ig, fun z => absurd z str_il, fun _ _ => ?_⟩
    rw [if_neg g1, if_neg g2]
end Own
namespace Own
open PySem PySem.Spec PyProof.Rows L2 RT HT
theorem minOf_neg : ∀ (ys : List Int) (y : Int), PySem.W.minOf y ys < 0 ↔ y < 0 ∨ ∃ x ∈ ys, x < 0
  | [], y => ⟨fun h => .inl h, fun h => h.elim id fun ⟨x, hx, _⟩ => nomatch hx⟩
  | z :: r, y => by
    have e : PySem.W.minOf y (z :: r) = PySem.W.minOf (if decide (z < y) = true then z else y) r := rfl
    rw [e, minOf_neg r]
    constructor
    · rintro (h | ⟨x, hx, h⟩)
      · by_cases c : z < y
        · rw [if_pos (decide_eq_true c)] at h
          exact .inr ⟨z, List.mem_cons_self, h⟩
        · rw [if_neg (by rw [decide_eq_false c]; exact Bool.false_ne_true)] at h
          exact .inl h
      · exact .inr ⟨x, List.mem_cons_of_mem _ hx, h⟩
    · rintro (h | ⟨x, hx, h⟩)
      · by_cases c : z < y
        · rw [if_pos (decide_eq_true c)]; exact .inl (by omega)
        · rw [if_neg (by rw [decide_eq_false c]; exact Bool.false_ne_true)]; exact .inl h
      · rcases List.mem_cons.mp hx with rfl | hx
        · by_cases c : x < y
          · rw [if_pos (decide_eq_true c)]; exact .inl h
          · rw [if_neg (by rw [decide_eq_false c]; exact Bool.false_ne_true)]; exact .inl (by omega)
        · exact .inr ⟨x, hx, h⟩
theorem maxOf_pos : ∀ (ys : List Int) (y : Int), 0 < PySem.W.maxOf y ys ↔ 0 < y ∨ ∃ x ∈ ys, 0 < x
  | [], y => ⟨fun h => .inl h, fun h => h.elim id fun ⟨x, hx, _⟩ => nomatch hx⟩
  | z :: r, y => by
    have e : PySem.W.maxOf y (z :: r) = PySem.W.maxOf (if decide (y < z) = true then z else y) r := rfl
    rw [e, maxOf_pos r]
    constructor
    · rintro (h | ⟨x, hx, h⟩)
      · by_cases c : y < z
        · rw [if_pos (decide_eq_true c)] at h
          exact .inr ⟨z, List.mem_cons_self, h⟩
        · rw [if_neg (by rw [decide_eq_false c]; exact Bool.false_ne_true)] at h
          exact .inl h
      · exact .inr ⟨x, List.mem_cons_of_mem _ hx, h⟩
    · rintro (h | ⟨x, hx, h⟩)
      · by_cases c : y < z
        · rw [if_pos (decide_eq_true c)]; exact .inl (by omega)
        · rw [if_neg (by rw [decide_eq_false c]; exact Bool.false_ne_true)]; exact .inl h
      · rcases List.mem_cons.mp hx with rfl | hx
        · by_cases c : y < x
          · rw [if_pos (decide_eq_true c)]; exact .inl h
          · rw [if_neg (by rw [decide_eq_false c]; exact Bool.false_ne_true)]; exact .inl (by omega)
        · exact .inr ⟨x, hx, h⟩
theorem minI_neg (ns : List Int) : minI 0 ns < 0 ↔ ∃ x ∈ ns, x < 0 := by
  cases ns with
  | nil => exact ⟨fun h => absurd h (Int.lt_irrefl 0), fun ⟨x, hx, _⟩ => nomatch hx⟩
  | cons y r =>
    show PySem.W.minOf y r < 0 ↔ _
    rw [minOf_neg]
    exact ⟨fun h => h.elim (fun h => ⟨y, List.mem_cons_self, h⟩) fun ⟨x, hx, h⟩ => ⟨x, List.mem_cons_of_mem _ hx, h⟩, fun ⟨x, hx, h⟩ => by
      rcases List.mem_cons.mp hx with rfl | hx
      · exact .inl h
      · exact .inr ⟨x, hx, h⟩⟩
theorem maxI_pos (ns : List Int) : 0 < maxI 0 ns ↔ ∃ x ∈ ns, 0 < x := by
  cases ns with
  | nil => exact ⟨fun h => absurd h (Int.lt_irrefl 0), fun ⟨x, hx, _⟩ => nomatch hx⟩
  | cons y r =>
    show 0 < PySem.W.maxOf y r ↔ _
    rw [maxOf_pos]
    exact ⟨fun h => h.elim (fun h => ⟨y, List.mem_cons_self, h⟩) fun ⟨x, hx, h⟩ => ⟨x, List.mem_cons_of_mem _ hx, h⟩, fun ⟨x, hx, h⟩ => by
      rcases List.mem_cons.mp hx with rfl | hx
      · exact .inl h
      · exact .inr ⟨x, hx, h⟩⟩
theorem lookC_mem : ∀ {Cs : List (Key × Int)} {e : Key × Int}, (Cs.map (·.1)).Nodup → e ∈ Cs → lookC Cs e.1 = e.2
  | [], _, _, h => nomatch h
  | p :: r, e, nd, h => by
    have nd : p.1 ∉ r.map (·.1) ∧ (r.map (·.1)).Nodup := List.nodup_cons.mp nd
    unfold lookC
    rw [List.find?_cons]
    rcases List.mem_cons.mp h with rfl | h
    · rw [decide_eq_true rfl]; rfl
    · rw [decide_eq_false (fun z : p.1 = e.1 => nd.1 (by rw [z]; exact List.mem_map_of_mem h))]
      exact lookC_mem nd.2 h
theorem lookC_ex {Cs : List (Key × Int)} {k : Key} (h : lookC Cs k ≠ 0) : ∃ e ∈ Cs, e.1 = k ∧ e.2 = lookC Cs k := by
  unfold lookC at h ⊢
  cases z : Cs.find? fun e => decide (e.1 = k) with
  | none => rw [z] at h; exact absurd rfl h
  | some e => exact ⟨e, List.mem_of_find?_eq_some z, of_decide_eq_true (p := e.1 = k) (List.find?_some (p := fun e : Key × Int => decide (e.1 = k)) z), rfl⟩
/-- the surplus of a comparison -/
theorem surplus {Cs : List (Key × Int)} (nd : (Cs.map (·.1)).Nodup) {a b : Ter} (h : ∀ k, lookC Cs k = a.cnt k - b.cnt k) : (minI 0 (Cs.map (·.2)) < 0 ↔ ¬ cge a b) ∧ (0 < maxI 0 (Cs.map (·.2)) ↔ ¬ cge b a) := by
  rw [minI_neg, maxI_pos]
  refine ⟨⟨fun ⟨x, hx, lt⟩ g => ?_, fun g => ?_⟩, ⟨fun ⟨x, hx, lt⟩ g => ?_, fun g => ?_⟩⟩
  · obtain ⟨e, he, rfl⟩ := List.mem_map.mp hx
    have := lookC_mem nd he
    have := h e.1
    have := g e.1
    omega
  · obtain ⟨k, hk⟩ := Classical.not_forall.mp g
    have := h k
    obtain ⟨e, he, _, e2⟩ := lookC_ex (Cs := Cs) (k := k) (by omega)
    exact ⟨e.2, List.mem_map_of_mem he, by omega⟩
  · obtain ⟨e, he, rfl⟩ := List.mem_map.mp hx
    have := lookC_mem nd he
    have := h e.1
    have := g e.1
    omega
  · obtain ⟨k, hk⟩ := Classical.not_forall.mp g
    have := h k
    obtain ⟨e, he, _, e2⟩ := lookC_ex (Cs := Cs) (k := k) (by omega)
    exact ⟨e.2, List.mem_map_of_mem he, by omega⟩
/-- symbols with one arity each -/
structure SymF (S : Str → Nat → Prop) : Prop where
  fn : ∀ f n m, S f n → S f m → n = m
  ok : ∀ f n, S f n → PyData.strOk f = true
theorem SymF.fine {S : Str → Nat → Prop} (F : SymF S) {t : Ter} (h : t.wf S natVar) : t.wf symFine keyFine := wf_mono (fun f n h => F.ok f n h) (fun k h => by obtain ⟨i, rfl, _⟩ := h; trivial) t h
theorem symF_T {ws : List Str} (hm : ws ∈ MENUS) : SymF (symWT ws) := by
  have l7 := menu_len ws hm
  have nd := menu_nd ws hm
  have inj : ∀ {i j : Nat} {f : Str}, ws[i]? = some f → ws[j]? = some f → i = j := fun {i j f} h1 h2 => (List.getElem?_inj (List.getElem?_eq_some_iff.mp h1).1 nd).mp (h1.trans h2.symm)
  have tr : ∀ {i : Nat}, ws[i]? ≠ some "true" := fun {i} h => by
    have := (menu_ok ws hm _ (List.mem_of_getElem? h)).2.2
    exact absurd this (by decide +kernel)
  refine ⟨fun f n m h1 h2 => ?_, fun f n h => symWT_ok hm h⟩
  rcases h1 with (⟨⟨i, hi, e1⟩, rfl⟩ | ⟨e1, rfl⟩ | ⟨e1, rfl⟩) | ⟨rfl, rfl⟩
  · rcases h2 with (⟨_, rfl⟩ | ⟨e2, rfl⟩ | ⟨e2, rfl⟩) | ⟨rfl, rfl⟩
    · rfl
    · have := inj e1 e2; omega
    · have := inj e1 e2; omega
    · rfl
  · rcases h2 with (⟨⟨j, hj, e2⟩, rfl⟩ | ⟨e2, rfl⟩ | ⟨e2, rfl⟩) | ⟨rfl, rfl⟩
    · have := inj e1 e2; omega
    · rfl
    · have := inj e1 e2; omega
    · exact absurd e1 tr
  · rcases h2 with (⟨⟨j, hj, e2⟩, rfl⟩ | ⟨e2, rfl⟩ | ⟨e2, rfl⟩) | ⟨rfl, rfl⟩
    · have := inj e1 e2; omega
    · have := inj e1 e2; omega
    · rfl
    · exact absurd e1 tr
  · rcases h2 with (⟨⟨j, hj, e2⟩, rfl⟩ | ⟨e2, rfl⟩ | ⟨e2, rfl⟩) | ⟨_, rfl⟩
    · rfl
    · exact absurd e2 tr
    · exact absurd e2 tr
    · rfl
end Own
namespace Own
open PySem PySem.Spec PyProof.Rows L2 RT HT
mutual
theorem eT_eq : ∀ a b : Ter, eT a b = true → a = b
  | .var (.inl i), .var (.inl j), h => by
    have h : decide (i = j) = true := h
    rw [of_decide_eq_true h]
  | .var (.inr x), .var (.inr y), h => by
    have h : (x == y) = true := h
    rw [beq_iff_eq.mp h]
  | .var (.inl _), .var (.inr _), h => by cases (show false = true from h)
  | .var (.inr _), .var (.inl _), h => by cases (show false = true from h)
  | .var (.inl _), .ap _ _, h => by cases (show false = true from h)
  | .var (.inr _), .ap _ _, h => by cases (show false = true from h)
  | .ap _ _, .var (.inl _), h => by cases (show false = true from h)
  | .ap _ _, .var (.inr _), h => by cases (show false = true from h)
  | .ap f as, .ap g bs, h => by
    have h : ((f == g) && PyData.eqvAll (Ter.dats as) (Ter.dats bs)) = true := h
    rw [Bool.and_eq_true] at h
    rw [beq_iff_eq.mp h.1, eTs_eq as bs h.2]
theorem eTs_eq : ∀ as bs : List Ter, PyData.eqvAll (Ter.dats as) (Ter.dats bs) = true → as = bs
  | [], [], _ => rfl
  | [], _ :: _, h => by cases (show false = true from h)
  | _ :: _, [], h => by cases (show false = true from h)
  | a :: r, b :: s, h => by
    have h : (eT a b && PyData.eqvAll (Ter.dats r) (Ter.dats s)) = true := h
    rw [Bool.and_eq_true] at h
    rw [eT_eq a b h.1, eTs_eq r s h.2]
end
theorem eT_iff (a b : Ter) : eT a b = true ↔ a = b := ⟨eT_eq a b, fun h => by rw [h]; exact eT_refl b⟩
theorem fdiff_none : ∀ {as bs : List Ter}, as.length = bs.length → fdiff as bs = none → as = bs
  | [], [], _, _ => rfl
  | [], _ :: _, h, _ => by cases h
  | _ :: _, [], h, _ => by cases h
  | a :: r, b :: s, l, h => by
    have h : (if eT a b = true then fdiff r s else some (a, b)) = none := h
    by_cases c : eT a b = true
    · rw [if_pos c] at h
      rw [eT_eq a b c, fdiff_none (Nat.succ.inj l) h]
    · rw [if_neg c] at h; cases h
theorem fdiff_mem : ∀ {as bs : List Ter} {p : Ter × Ter}, fdiff as bs = some p → p.1 ∈ as ∧ p.2 ∈ bs
  | [], [], _, h => by cases h
  | [], _ :: _, _, h => by cases h
  | _ :: _, [], _, h => by cases h
  | a :: r, b :: s, p, h => by
    have h : (if eT a b = true then fdiff r s else some (a, b)) = some p := h
    by_cases c : eT a b = true
    · rw [if_pos c] at h
      obtain ⟨h1, h2⟩ := fdiff_mem h
      exact ⟨List.mem_cons_of_mem _ h1, List.mem_cons_of_mem _ h2⟩
    · rw [if_neg c] at h
      cases h
      exact ⟨List.mem_cons_self, List.mem_cons_self⟩
theorem gre_irr (W : List (Str × Int)) (ps : List Str) (n : Nat) (a : Ter) : ¬ gre W ps n a a := fun h => gre_not W ps n a a h h
/-- terms without variables -/
def noKey (_ : Key) : Prop := False
mutual
theorem gnd_cnt {S : Str → Nat → Prop} (k : Key) : ∀ t : Ter, t.wf S noKey → t.cnt k = 0
  | .var _, h => h.elim
  | .ap _ as, h => gnds_cnt k as h.2
theorem gnds_cnt {S : Str → Nat → Prop} (k : Key) : ∀ ts : List Ter, Ter.wfs S noKey ts → Ter.cnts k ts = 0
  | [], _ => rfl
  | a :: r, h => by
    show a.cnt k + Ter.cnts k r = 0
    rw [gnd_cnt k a h.1, gnds_cnt k r h.2]; rfl
end
theorem gnd_cge {S : Str → Nat → Prop} {a b : Ter} (ha : a.wf S noKey) (hb : b.wf S noKey) : cge a b := fun k => by rw [gnd_cnt k a ha, gnd_cnt k b hb]; exact Int.le_refl 0
theorem gre_total (W : List (Str × Int)) (ps : List Str) {S : Str → Nat → Prop} (SF : SymF S) : ∀ (n : Nat) (a b : Ter), a.wf S noKey → b.wf S noKey → a.nest ≤ n → a ≠ b → gre W ps n a b ∨ gre W ps n b a
  | 0, .var _, _, h, _, _, _ => h.elim
  | 0, .ap _ _, _, _, _, h, _ => absurd h (Nat.not_succ_le_zero _)
  | _ + 1, .var _, _, h, _, _, _ => h.elim
  | _ + 1, .ap _ _, .var _, _, h, _, _ => h.elim
  | n + 1, .ap f as, .ap g bs, ha, hb, hn, ne => by
    have hn : Ter.nests as + 1 ≤ n + 1 := hn
    have c1 := gnd_cge ha hb
    have c2 := gnd_cge hb ha
    by_cases e : (Ter.ap f as).wt W = (Ter.ap g bs).wt W
    · have u1 : gre W ps (n + 1) (.ap f as) (.ap g bs) ↔ grs ps (gre W ps n) (.ap f as) (.ap g bs) := by
        show (cge _ _ ∧ (if _ then _ else _)) ↔ _
        rw [if_pos e]; exact ⟨fun h => h.2, fun h => ⟨c1, h⟩⟩
      have u2 : gre W ps (n + 1) (.ap g bs) (.ap f as) ↔ grs ps (gre W ps n) (.ap g bs) (.ap f as) := by
        show (cge _ _ ∧ (if _ then _ else _)) ↔ _
        rw [if_pos e.symm]; exact ⟨fun h => h.2, fun h => ⟨c2, h⟩⟩
      rw [u1, u2]
      show (if f = g then _ else _) ∨ (if g = f then _ else _)
      by_cases c : f = g
      · rw [if_pos c, if_pos c.symm, fdiff_comm as bs]
        cases z : fdiff as bs with
        | none => exact absurd (by rw [c, fdiff_none (SF.fn g _ _ (c ▸ ha.1) hb.1) z]) ne
        | some p =>
          obtain ⟨m1, m2⟩ := fdiff_mem z
          obtain ⟨i, hi⟩ := List.mem_iff_getElem?.mp m1
          obtain ⟨j, hj⟩ := List.mem_iff_getElem?.mp m2
          have := nest_le_of hi
          exact gre_total W ps SF n p.1 p.2 (wfs_get ha.2 hi) (wfs_get hb.2 hj) (by omega) (fun y => by have := fdiff_ne z; rw [y, eT_refl] at this; cases this)
      · rw [if_neg c, if_neg (fun z => c z.symm)]
        cases h : lhi ps f g with
        | true => exact .inl rfl
        | false => exact .inr (lhi_or c h)
    · by_cases l : (Ter.ap g bs).wt W < (Ter.ap f as).wt W
      · refine .inl ⟨c1, ?_⟩
        rw [if_neg e]; exact l
      · refine .inr ⟨c2, ?_⟩
        rw [if_neg (fun z => e z.symm)]; omega
theorem lhi_trans {ps : List Str} {f g h : Str} (a : lhi ps f g = true) (b : lhi ps g h = true) : lhi ps f h = true := by
  rw [← hi_lhi] at a b ⊢
  exact lex_trans (O := PyProof.Rows.itemOrd) _ _ _ b a
def lexG (g : Ter → Ter → Prop) (as bs : List Ter) : Prop := match fdiff as bs with
  | some p => g p.1 p.2
  | none => False
theorem lexG_trans {g : Ter → Ter → Prop} (tr : ∀ a b c, g a b → g b c → g a c) (ir : ∀ a, ¬ g a a) : ∀ as bs cs : List Ter, lexG g as bs → lexG g bs cs → lexG g as cs
  | [], [], _, h, _ => h.elim
  | [], _ :: _, _, h, _ => h.elim
  | _ :: _, [], _, h, _ => h.elim
  | _ :: _, _ :: _, [], _, h => h.elim
  | a :: r, b :: s, c :: u, h1, h2 => by
    unfold lexG at h1 h2 ⊢
    have e1 : fdiff (a :: r) (b :: s) = if eT a b = true then fdiff r s else some (a, b) := rfl
    have e2 : fdiff (b :: s) (c :: u) = if eT b c = true then fdiff s u else some (b, c) := rfl
    have e3 : fdiff (a :: r) (c :: u) = if eT a c = true then fdiff r u else some (a, c) := rfl
    rw [e1] at h1
    rw [e2] at h2
    rw [e3]
    by_cases c1 : eT a b = true
    · have := eT_eq a b c1
      subst this
      rw [if_pos c1] at h1
      by_cases c2 : eT a c = true
      · rw [if_pos c2] at h2 ⊢
        exact lexG_trans tr ir r s u h1 h2
      · rw [if_neg c2] at h2 ⊢
        exact h2
    · rw [if_neg c1] at h1
      by_cases c2 : eT b c = true
      · have := eT_eq b c c2
        subst this
        rw [if_neg c1]
        exact h1
      · rw [if_neg c2] at h2
        have g3 := tr a b c h1 h2
        have c3 : ¬ eT a c = true := fun z => by
          have := eT_eq a c z
          subst this
          exact ir a g3
        rw [if_neg c3]
        exact g3
theorem gre_trans (W : List (Str × Int)) (ps : List Str) : ∀ (n : Nat) (a b c : Ter), gre W ps n a b → gre W ps n b c → gre W ps n a c
  | 0, _, _, _, h, _ => h.elim
  | n + 1, a, b, c, h1, h2 => by
    obtain ⟨c1, h1⟩ := h1
    obtain ⟨c2, h2⟩ := h2
    refine ⟨fun k => Int.le_trans (c2 k) (c1 k), ?_⟩
    by_cases e1 : a.wt W = b.wt W
    · rw [if_pos e1] at h1
      by_cases e2 : b.wt W = c.wt W
      · rw [if_pos e2] at h2
        rw [if_pos (e1.trans e2)]
        cases a with
        | var k => rw [grs_v] at h1; exact h1.elim
        | ap f as =>
          cases b with
          | var k => rw [grs_w] at h1; exact h1.elim
          | ap g bs =>
            cases c with
            | var k => rw [grs_w] at h2; exact h2.elim
            | ap h cs =>
              have h1 : if f = g then lexG (gre W ps n) as bs else lhi ps f g = true := h1
              have h2 : if g = h then lexG (gre W ps n) bs cs else lhi ps g h = true := h2
              show if f = h then lexG (gre W ps n) as cs else lhi ps f h = true
              by_cases k1 : f = g
              · rw [if_pos k1] at h1
                by_cases k2 : g = h
                · rw [if_pos k2] at h2
                  rw [if_pos (k1.trans k2)]
                  exact lexG_trans (gre_trans W ps n) (gre_irr W ps n) as bs cs h1 h2
                · rw [if_neg k2] at h2
                  rw [k1, if_neg k2]; exact h2
              · rw [if_neg k1] at h1
                by_cases k2 : g = h
                · rw [if_pos k2] at h2
                  rw [← k2, if_neg k1]; exact h1
                · rw [if_neg k2] at h2
                  have t := lhi_trans h1 h2
                  have k3 : ¬ f = h := fun z => by
                    rw [z] at t
                    have := lhi_not t
                    rw [t] at this
                    cases this
                  rw [if_neg k3]; exact t
      · rw [if_neg e2] at h2
        rw [if_neg (by omega)]; omega
    · rw [if_neg e1] at h1
      by_cases e2 : b.wt W = c.wt W
      · rw [if_neg (by omega)]; omega
      · rw [if_neg e2] at h2
        rw [if_neg (by omega)]; omega
/-! ### what compare says of ground terms -/
theorem cmp_gnd (W : List (Str × Int)) (ps : List Str) {S : Str → Nat → Prop} (SF : SymF S) {n : Nat} {a b : Ter} (ha : a.wf S noKey) (hb : b.wf S noKey) (hn : a.nest ≤ n) : (cmpS W ps n a b = "equal" ∧ a = b ∧ cmpS W ps n b a = "equal") ∨ (cmpS W ps n a b = "greater" ∧ a ≠ b ∧ gre W ps n a b ∧ cmpS W ps n b a = "less") ∨ (cmpS W ps n a b = "less" ∧ a ≠ b ∧ gre W ps n b a ∧ cmpS W ps n b a = "greater") := by
  unfold cmpS
  have cc : eT b a = eT a b := eT_comm b a
  by_cases c : eT a b = true
  · have c' : eT b a = true := cc.trans c
    rw [if_pos c, if_pos c']
    exact .inl ⟨rfl, eT_eq a b c, rfl⟩
  · have c' : ¬ eT b a = true := fun z => c (cc.symm.trans z)
    rw [if_neg c, if_neg c']
    have ne : a ≠ b := fun z => c ((eT_iff a b).mpr z)
    by_cases g : gre W ps n a b
    · have g2 := gre_not W ps n a b g
      rw [if_pos g, if_neg g2, if_pos g]
      exact .inr (.inl ⟨rfl, ne, g, rfl⟩)
    · have g2 : gre W ps n b a := (gre_total W ps SF n a b ha hb hn ne).resolve_left g
      rw [if_neg g, if_pos g2, if_pos g2]
      exact .inr (.inr ⟨rfl, ne, g2, rfl⟩)
theorem str_eg : ("equal" : Str) ≠ "greater" := by decide +kernel
theorem str_el : ("equal" : Str) ≠ "less" := by decide +kernel
end Own
namespace Own
open PySem PySem.Spec PyProof.Rows L2 RT HT
/-! ### sums over a term's symbols and variables -/
mutual
def Ter.lin (w : Str → Int) (v : Key → Int) : Ter → Int
  | .var k => v k
  | .ap f as => w f + Ter.lins w v as
def Ter.lins (w : Str → Int) (v : Key → Int) : List Ter → Int
  | [] => 0
  | a :: r => a.lin w v + Ter.lins w v r
end
mutual
theorem wt_lin (W : List (Str × Int)) : ∀ t : Ter, t.wt W = t.lin (wtOf W) fun _ => 1
  | .var _ => rfl
  | .ap f as => congrArg (wtOf W f + ·) (wts_lin W as)
theorem wts_lin (W : List (Str × Int)) : ∀ ts : List Ter, Ter.wts W ts = Ter.lins (wtOf W) (fun _ => 1) ts
  | [] => rfl
  | a :: r => by
    show a.wt W + Ter.wts W r = a.lin _ _ + Ter.lins _ _ r
    rw [wt_lin W a, wts_lin W r]
end
mutual
theorem cnt_lin (k : Key) : ∀ t : Ter, t.cnt k = t.lin (fun _ => 0) fun x => if x = k then 1 else 0
  | .var _ => rfl
  | .ap f as => by
    show Ter.cnts k as = 0 + Ter.lins _ _ as
    rw [cnts_lin k as, Int.zero_add]
theorem cnts_lin (k : Key) : ∀ ts : List Ter, Ter.cnts k ts = Ter.lins (fun _ => 0) (fun x => if x = k then 1 else 0) ts
  | [] => rfl
  | a :: r => by
    show a.cnt k + Ter.cnts k r = a.lin _ _ + Ter.lins _ _ r
    rw [cnt_lin k a, cnts_lin k r]
end
/-! terms for variables -/
mutual
def Ter.bind (s : Key → Ter) : Ter → Ter
  | .var k => s k
  | .ap f as => .ap f (Ter.binds s as)
def Ter.binds (s : Key → Ter) : List Ter → List Ter
  | [] => []
  | a :: r => a.bind s :: Ter.binds s r
end
mutual
theorem lin_bind (w : Str → Int) (v : Key → Int) (s : Key → Ter) : ∀ t : Ter, (t.bind s).lin w v = t.lin w fun k => (s k).lin w v
  | .var _ => rfl
  | .ap f as => congrArg (w f + ·) (lins_bind w v s as)
theorem lins_bind (w : Str → Int) (v : Key → Int) (s : Key → Ter) : ∀ ts : List Ter, Ter.lins w v (Ter.binds s ts) = Ter.lins w (fun k => (s k).lin w v) ts
  | [] => rfl
  | a :: r => by
    show (a.bind s).lin w v + Ter.lins w v (Ter.binds s r) = a.lin w _ + Ter.lins w _ r
    rw [lin_bind w v s a, lins_bind w v s r]
end
def sumK (g : Key → Int) : List Key → Int
  | [] => 0
  | k :: r => g k + sumK g r
theorem sumK_add (g h : Key → Int) : ∀ L : List Key, sumK (fun k => g k + h k) L = sumK g L + sumK h L
  | [] => rfl
  | k :: r => by
    show g k + h k + sumK _ r = g k + sumK g r + (h k + sumK h r)
    rw [sumK_add g h r]; omega
theorem sumK_zero : ∀ L : List Key, sumK (fun _ => 0) L = 0
  | [] => rfl
  | _ :: r => by show (0 : Int) + sumK _ r = 0; rw [sumK_zero r]; rfl
theorem sumK_congr {g h : Key → Int} : ∀ {L : List Key}, (∀ k ∈ L, g k = h k) → sumK g L = sumK h L
  | [], _ => rfl
  | k :: r, e => by
    show g k + sumK g r = h k + sumK h r
    rw [e k List.mem_cons_self, sumK_congr fun x hx => e x (List.mem_cons_of_mem _ hx)]
theorem sumK_nonneg {g : Key → Int} : ∀ {L : List Key}, (∀ k ∈ L, 0 ≤ g k) → 0 ≤ sumK g L
  | [], _ => Int.le_refl 0
  | k :: r, h => Int.add_nonneg (h k List.mem_cons_self) (sumK_nonneg fun x hx => h x (List.mem_cons_of_mem _ hx))
theorem sumK_one (v : Key → Int) (x : Key) : ∀ {L : List Key}, L.Nodup → x ∈ L → sumK (fun k => (if x = k then (1 : Int) else 0) * v k) L = v x
  | [], _, h => nomatch h
  | k :: r, nd, h => by
    have nd : k ∉ r ∧ r.Nodup := List.nodup_cons.mp nd
    show (if x = k then (1 : Int) else 0) * v k + sumK _ r = v x
    by_cases c : x = k
    · subst c
      rw [if_pos rfl, Int.one_mul, sumK_congr (h := fun _ => 0) (fun y hy => by
        have : x ≠ y := fun z => nd.1 (by rw [z]; exact hy)
        rw [if_neg this, Int.zero_mul]), sumK_zero, Int.add_zero]
    · rw [if_neg c, Int.zero_mul, Int.zero_add]
      rcases List.mem_cons.mp h with h | h
      · exact absurd h c
      · exact sumK_one v x nd.2 h
mutual
/-- its variables lie in L -/
def Ter.varsIn (L : List Key) : Ter → Prop
  | .var k => k ∈ L
  | .ap _ as => Ter.varsIns L as
def Ter.varsIns (L : List Key) : List Ter → Prop
  | [] => True
  | a :: r => a.varsIn L ∧ Ter.varsIns L r
end
mutual
theorem lin_sum (w : Str → Int) (v : Key → Int) {L : List Key} (nd : L.Nodup) : ∀ t : Ter, t.varsIn L → t.lin w v = (t.lin w fun _ => 0) + sumK (fun k => t.cnt k * v k) L
  | .var x, h => by
    show v x = 0 + sumK (fun k => (if x = k then (1 : Int) else 0) * v k) L
    rw [sumK_one v x nd h, Int.zero_add]
  | .ap f as, h => by
    show w f + Ter.lins w v as = w f + Ter.lins w (fun _ => 0) as + sumK (fun k => Ter.cnts k as * v k) L
    rw [lins_sum w v nd as h]; omega
theorem lins_sum (w : Str → Int) (v : Key → Int) {L : List Key} (nd : L.Nodup) : ∀ ts : List Ter, Ter.varsIns L ts → Ter.lins w v ts = Ter.lins w (fun _ => 0) ts + sumK (fun k => Ter.cnts k ts * v k) L
  | [], _ => by
    show (0 : Int) = 0 + sumK (fun k => (0 : Int) * v k) L
    rw [sumK_congr (h := fun _ => 0) (fun k _ => Int.zero_mul (v k)), sumK_zero]; rfl
  | a :: r, h => by
    show a.lin w v + Ter.lins w v r = (a.lin w _ + Ter.lins w _ r) + sumK (fun k => (a.cnt k + Ter.cnts k r) * v k) L
    rw [lin_sum w v nd a h.1, lins_sum w v nd r h.2, sumK_congr (g := fun k => (a.cnt k + Ter.cnts k r) * v k) (h := fun k => a.cnt k * v k + Ter.cnts k r * v k) (fun k _ => Int.add_mul _ _ _), sumK_add]
    omega
end
/-- what is counted no less often weighs no less where every variable weighs more -/
theorem lin_mono (w : Str → Int) {v0 v1 : Key → Int} (hv : ∀ k, v0 k ≤ v1 k) {L : List Key} (nd : L.Nodup) {a b : Ter} (ha : a.varsIn L) (hb : b.varsIn L) (g : cge a b) : a.lin w v0 - b.lin w v0 ≤ a.lin w v1 - b.lin w v1 := by
  rw [lin_sum w v0 nd a ha, lin_sum w v0 nd b hb, lin_sum w v1 nd a ha, lin_sum w v1 nd b hb]
  have h : 0 ≤ sumK (fun k => (a.cnt k - b.cnt k) * (v1 k - v0 k)) L := sumK_nonneg fun k _ => Int.mul_nonneg (by have := g k; omega) (by have := hv k; omega)
  have e : sumK (fun k => a.cnt k * v1 k + b.cnt k * v0 k) L = sumK (fun k => (a.cnt k - b.cnt k) * (v1 k - v0 k) + (a.cnt k * v0 k + b.cnt k * v1 k)) L := sumK_congr fun k _ => by
    rw [Int.sub_mul, Int.mul_sub, Int.mul_sub]; omega
  rw [sumK_add, sumK_add, sumK_add] at e
  omega
end Own
namespace Own
open PySem PySem.Spec PyProof.Rows L2 RT HT
theorem keys_in (ks : List Key) : ∃ L : List Key, L.Nodup ∧ ∀ k ∈ ks, k ∈ L := by
  induction ks with
  | nil => exact ⟨[], List.nodup_nil, fun _ h => (nomatch h)⟩
  | cons k r ih =>
    obtain ⟨L, nd, h⟩ := ih
    by_cases c : k ∈ L
    · exact ⟨L, nd, fun x hx => by
        rcases List.mem_cons.mp hx with rfl | hx
        · exact c
        · exact h x hx⟩
    · exact ⟨k :: L, List.nodup_cons.mpr ⟨c, nd⟩, fun x hx => by
        rcases List.mem_cons.mp hx with rfl | hx
        · exact List.mem_cons_self
        · exact List.mem_cons_of_mem _ (h x hx)⟩
mutual
def Ter.keysL : Ter → List Key
  | .var k => [k]
  | .ap _ as => Ter.keysLs as
def Ter.keysLs : List Ter → List Key
  | [] => []
  | a :: r => a.keysL ++ Ter.keysLs r
end
mutual
theorem varsIn_of {L : List Key} : ∀ t : Ter, (∀ k ∈ t.keysL, k ∈ L) → t.varsIn L
  | .var k, h => h k (List.mem_singleton.mpr rfl)
  | .ap _ as, h => varsIns_of as h
theorem varsIns_of {L : List Key} : ∀ ts : List Ter, (∀ k ∈ Ter.keysLs ts, k ∈ L) → Ter.varsIns L ts
  | [], _ => trivial
  | a :: r, h => ⟨varsIn_of a fun k hk => h k (List.mem_append.mpr (.inl hk)), varsIns_of r fun k hk => h k (List.mem_append.mpr (.inr hk))⟩
end
theorem vars_two (a b : Ter) : ∃ L : List Key, L.Nodup ∧ a.varsIn L ∧ b.varsIn L := by
  obtain ⟨L, nd, h⟩ := keys_in (a.keysL ++ b.keysL)
  exact ⟨L, nd, varsIn_of a fun k hk => h k (List.mem_append.mpr (.inl hk)), varsIn_of b fun k hk => h k (List.mem_append.mpr (.inr hk))⟩
mutual
theorem lin_zero : ∀ t : Ter, t.lin (fun _ => 0) (fun _ => 0) = 0
  | .var _ => rfl
  | .ap _ as => by
    show (0 : Int) + Ter.lins _ _ as = 0
    rw [lins_zero as]; rfl
theorem lins_zero : ∀ ts : List Ter, Ter.lins (fun _ => 0) (fun _ => 0) ts = 0
  | [] => rfl
  | a :: r => by
    show a.lin _ _ + Ter.lins _ _ r = 0
    rw [lin_zero a, lins_zero r]; rfl
end
mutual
theorem wt_one {W : List (Str × Int)} (h : ∀ f, 1 ≤ wtOf W f) : ∀ t : Ter, 1 ≤ t.wt W
  | .var _ => Int.le_refl 1
  | .ap f as => by
    have := h f
    have := wts_nn h as
    show 1 ≤ wtOf W f + Ter.wts W as
    omega
theorem wts_nn {W : List (Str × Int)} (h : ∀ f, 1 ≤ wtOf W f) : ∀ ts : List Ter, 0 ≤ Ter.wts W ts
  | [] => Int.le_refl 0
  | a :: r => by
    have := wt_one h a
    have := wts_nn h r
    show 0 ≤ a.wt W + Ter.wts W r
    omega
end
theorem cnt_bind (k : Key) (s : Key → Ter) (t : Ter) : (t.bind s).cnt k = t.lin (fun _ => 0) fun x => (s x).cnt k := by
  rw [cnt_lin, lin_bind]
  exact congrArg (fun v => t.lin (fun _ => 0) v) (funext fun x => (cnt_lin k (s x)).symm)
theorem wt_bind (W : List (Str × Int)) (s : Key → Ter) (t : Ter) : (t.bind s).wt W = t.lin (wtOf W) fun x => (s x).wt W := by
  rw [wt_lin, lin_bind]
  exact congrArg (fun v => t.lin (wtOf W) v) (funext fun x => (wt_lin W (s x)).symm)
theorem cge_bind {a b : Ter} (s : Key → Ter) (g : cge a b) : cge (a.bind s) (b.bind s) := fun k => by
  obtain ⟨L, nd, ha, hb⟩ := vars_two a b
  rw [cnt_bind, cnt_bind]
  have := lin_mono (fun _ => 0) (v0 := fun _ => 0) (v1 := fun x => (s x).cnt k) (fun x => cnt_pos0 k (s x)) nd ha hb g
  rw [lin_zero, lin_zero] at this
  omega
where
  cnt_pos0 (k : Key) : ∀ t : Ter, 0 ≤ t.cnt k := fun t => by
    have rec_ : ∀ n : Nat, ∀ t : Ter, t.size ≤ n → 0 ≤ t.cnt k := fun n => by
      induction n with
      | zero => exact fun t h => absurd t.size_pos (by omega)
      | succ n ih =>
        intro t h
        cases t with
        | var x =>
          show (0 : Int) ≤ if x = k then 1 else 0
          split <;> decide
        | ap f as =>
          have h : Ter.sizes as + 1 ≤ n + 1 := h
          have all : ∀ bs : List Ter, Ter.sizes bs ≤ n → 0 ≤ Ter.cnts k bs := fun bs => by
            induction bs with
            | nil => exact fun _ => Int.le_refl 0
            | cons a r ih2 =>
              intro hb
              have hb : a.size + Ter.sizes r ≤ n := hb
              exact Int.add_nonneg (ih a (by omega)) (ih2 (by omega))
          exact all as (by omega)
    exact rec_ t.size t (Nat.le_refl _)
theorem wt_mono {W : List (Str × Int)} (hW : ∀ f, 1 ≤ wtOf W f) {a b : Ter} (s : Key → Ter) (g : cge a b) : a.wt W - b.wt W ≤ (a.bind s).wt W - (b.bind s).wt W := by
  obtain ⟨L, nd, ha, hb⟩ := vars_two a b
  rw [wt_bind, wt_bind, wt_lin, wt_lin]
  exact lin_mono (wtOf W) (v0 := fun _ => 1) (v1 := fun x => (s x).wt W) (fun x => wt_one hW (s x)) nd ha hb g
theorem fdiff_bind {g : Ter → Ter → Prop} (ir : ∀ a, ¬ g a a) (s : Key → Ter) : ∀ {as bs : List Ter} {p : Ter × Ter}, fdiff as bs = some p → g (p.1.bind s) (p.2.bind s) → fdiff (Ter.binds s as) (Ter.binds s bs) = some (p.1.bind s, p.2.bind s)
  | [], [], _, h, _ => by cases h
  | [], _ :: _, _, h, _ => by cases h
  | _ :: _, [], _, h, _ => by cases h
  | a :: r, b :: u, p, h, hg => by
    have h : (if eT a b = true then fdiff r u else some (a, b)) = some p := h
    show (if eT (a.bind s) (b.bind s) = true then fdiff (Ter.binds s r) (Ter.binds s u) else some (a.bind s, b.bind s)) = _
    by_cases c : eT a b = true
    · rw [if_pos c] at h
      rw [if_pos ((eT_iff _ _).mpr (congrArg (Ter.bind s) (eT_eq a b c)))]
      exact fdiff_bind ir s h hg
    · rw [if_neg c] at h
      cases h
      have n : ¬ eT (a.bind s) (b.bind s) = true := fun z => by
        have e := eT_eq _ _ z
        have hg : g (a.bind s) (b.bind s) := hg
        rw [e] at hg
        exact ir _ hg
      rw [if_neg n]
/-- greater stays greater after a substitution -/
theorem gre_bind {W : List (Str × Int)} {ps : List Str} (hW : ∀ f, 1 ≤ wtOf W f) (s : Key → Ter) : ∀ (n : Nat) {a b : Ter}, gre W ps n a b → gre W ps n (a.bind s) (b.bind s)
  | 0, _, _, h => h.elim
  | n + 1, a, b, h => by
    obtain ⟨c, h⟩ := h
    refine ⟨cge_bind s c, ?_⟩
    have m := wt_mono hW s c
    by_cases e : a.wt W = b.wt W
    · rw [if_pos e] at h
      by_cases e2 : (a.bind s).wt W = (b.bind s).wt W
      · rw [if_pos e2]
        cases a with
        | var k => rw [grs_v] at h; exact h.elim
        | ap f as =>
          cases b with
          | var k => rw [grs_w] at h; exact h.elim
          | ap g bs =>
            have h : if f = g then lexG (gre W ps n) as bs else lhi ps f g = true := h
            show if f = g then lexG (gre W ps n) (Ter.binds s as) (Ter.binds s bs) else lhi ps f g = true
            by_cases k1 : f = g
            · rw [if_pos k1] at h ⊢
              unfold lexG at h ⊢
              cases z : fdiff as bs with
              | none => rw [z] at h; exact h.elim
              | some p =>
                rw [z] at h
                have g2 := gre_bind hW s n h
                rw [fdiff_bind (gre_irr W ps n) s z g2]
                exact g2
            · rw [if_neg k1] at h ⊢
              exact h
      · rw [if_neg e2]; omega
    · rw [if_neg e] at h
      rw [if_neg (by omega)]; omega
/-- the fuel does not matter where it suffices -/
theorem gre_up {W : List (Str × Int)} {ps : List Str} : ∀ (n : Nat) {a b : Ter}, gre W ps n a b → gre W ps (n + 1) a b
  | 0, _, _, h => h.elim
  | n + 1, a, b, h => by
    obtain ⟨c, h⟩ := h
    refine ⟨c, ?_⟩
    by_cases e : a.wt W = b.wt W
    · rw [if_pos e] at h ⊢
      cases a with
      | var k => rw [grs_v] at h; exact h.elim
      | ap f as =>
        cases b with
        | var k => rw [grs_w] at h; exact h.elim
        | ap g bs =>
          have h : if f = g then lexG (gre W ps n) as bs else lhi ps f g = true := h
          show if f = g then lexG (gre W ps (n + 1)) as bs else lhi ps f g = true
          by_cases k1 : f = g
          · rw [if_pos k1] at h ⊢
            unfold lexG at h ⊢
            cases z : fdiff as bs with
            | none => rw [z] at h; exact h.elim
            | some p => rw [z] at h; exact gre_up n h
          · rw [if_neg k1] at h ⊢; exact h
    · rw [if_neg e] at h ⊢; exact h
theorem gre_down {W : List (Str × Int)} {ps : List Str} : ∀ (n : Nat) {a b : Ter}, gre W ps (n + 1) a b → a.nest ≤ n → gre W ps n a b
  | 0, a, _, _, hn => by
    cases a with
    | var k => exact absurd hn (by show ¬ (1 ≤ 0); omega)
    | ap f as => exact absurd hn (by show ¬ (_ + 1 ≤ 0); omega)
  | n + 1, a, b, h, hn => by
    obtain ⟨c, h⟩ := h
    refine ⟨c, ?_⟩
    by_cases e : a.wt W = b.wt W
    · rw [if_pos e] at h ⊢
      cases a with
      | var k => rw [grs_v] at h; exact h.elim
      | ap f as =>
        cases b with
        | var k => rw [grs_w] at h; exact h.elim
        | ap g bs =>
          have hn : Ter.nests as + 1 ≤ n + 1 := hn
          have h : if f = g then lexG (gre W ps (n + 1)) as bs else lhi ps f g = true := h
          show if f = g then lexG (gre W ps n) as bs else lhi ps f g = true
          by_cases k1 : f = g
          · rw [if_pos k1] at h ⊢
            unfold lexG at h ⊢
            cases z : fdiff as bs with
            | none => rw [z] at h; exact h.elim
            | some p =>
              rw [z] at h
              obtain ⟨i, hi⟩ := List.mem_iff_getElem?.mp (fdiff_mem z).1
              have := nest_le_of hi
              exact gre_down n h (by omega)
          · rw [if_neg k1] at h ⊢; exact h
    · rw [if_neg e] at h ⊢; exact h
/-- .. and within a symbol: as its only, first or second argument -/
theorem gre_ctx {W : List (Str × Int)} {ps : List Str} {n : Nat} {a b : Ter} (h : gre W ps n a b) (f : Str) (l r : List Ter) : gre W ps (n + 1) (.ap f (l ++ a :: r)) (.ap f (l ++ b :: r)) := by
  have ne : ¬ eT a b = true := fun z => by rw [eT_eq a b z] at h; exact gre_irr W ps n b h
  have c : cge a b := by
    cases n with
    | zero => exact h.elim
    | succ n => exact h.1
  have w : b.wt W ≤ a.wt W := by
    cases n with
    | zero => exact h.elim
    | succ n =>
      obtain ⟨_, h⟩ := h
      by_cases e : a.wt W = b.wt W
      · omega
      · rw [if_neg e] at h; omega
  have fd : fdiff (l ++ a :: r) (l ++ b :: r) = some (a, b) := by
    induction l with
    | nil => show (if eT a b = true then _ else some (a, b)) = _; rw [if_neg ne]
    | cons x u ih => show (if eT x x = true then fdiff (u ++ a :: r) (u ++ b :: r) else _) = _; rw [if_pos (eT_refl x)]; exact ih
  refine ⟨fun k => ?_, ?_⟩
  · show Ter.cnts k (l ++ b :: r) ≤ Ter.cnts k (l ++ a :: r)
    rw [cnts_app, cnts_app]
    have := c k
    show Ter.cnts k l + (b.cnt k + Ter.cnts k r) ≤ Ter.cnts k l + (a.cnt k + Ter.cnts k r)
    omega
  · have e1 : (Ter.ap f (l ++ a :: r)).wt W = wtOf W f + (Ter.wts W l + (a.wt W + Ter.wts W r)) := congrArg (wtOf W f + ·) (wts_app W l (a :: r))
    have e2 : (Ter.ap f (l ++ b :: r)).wt W = wtOf W f + (Ter.wts W l + (b.wt W + Ter.wts W r)) := congrArg (wtOf W f + ·) (wts_app W l (b :: r))
    by_cases e : (Ter.ap f (l ++ a :: r)).wt W = (Ter.ap f (l ++ b :: r)).wt W
    · rw [if_pos e]
      show if f = f then lexG (gre W ps n) (l ++ a :: r) (l ++ b :: r) else _
      rw [if_pos rfl]
      unfold lexG
      rw [fd]; exact h
    · rw [if_neg e]; omega
theorem cmp_of_gre {W : List (Str × Int)} {ps : List Str} {n : Nat} {a b : Ter} (h : gre W ps n a b) : cmpS W ps n a b = "greater" ∧ cmpS W ps n b a = "less" := by
  have ne : ¬ eT a b = true := fun z => by rw [eT_eq a b z] at h; exact gre_irr W ps n b h
  have ne' : ¬ eT b a = true := fun z => ne ((eT_comm a b).trans z)
  unfold cmpS
  rw [if_neg ne, if_neg ne', if_pos h, if_neg (gre_not W ps n a b h), if_pos h]
  exact ⟨rfl, rfl⟩
theorem gre_of_cmp {W : List (Str × Int)} {ps : List Str} {n : Nat} {a b : Ter} (h : cmpS W ps n a b = "greater") : gre W ps n a b := by
  unfold cmpS at h
  by_cases c : eT a b = true
  · rw [if_pos c] at h; exact absurd h str_eg
  · rw [if_neg c] at h
    by_cases g : gre W ps n a b
    · exact g
    · rw [if_neg g] at h
      by_cases g2 : gre W ps n b a
      · rw [if_pos g2] at h; exact absurd h.symm str_gl
      · rw [if_neg g2] at h; exact absurd h str_ig
theorem gre_of_less {W : List (Str × Int)} {ps : List Str} {n : Nat} {a b : Ter} (h : cmpS W ps n a b = "less") : gre W ps n b a := by
  unfold cmpS at h
  by_cases c : eT a b = true
  · rw [if_pos c] at h; exact absurd h str_el
  · rw [if_neg c] at h
    by_cases g : gre W ps n a b
    · rw [if_pos g] at h; exact absurd h str_gl
    · rw [if_neg g] at h
      by_cases g2 : gre W ps n b a
      · exact g2
      · rw [if_neg g2] at h; exact absurd h str_il
end Own
namespace Own
open PySem PySem.Spec PyProof.Rows L2 RT HT
theorem cnts_get {k : Key} : ∀ {as : List Ter} {i : Nat} {a : Ter}, (∀ t ∈ as, 0 ≤ t.cnt k) → as[i]? = some a → a.cnt k ≤ Ter.cnts k as
  | [], _, _, _, h => by cases h
  | b :: r, 0, a, p, h => by
    cases h
    have : 0 ≤ Ter.cnts k r := by
      clear p
      have := cge_bind.cnt_pos0 k (.ap "" r)
      exact this
    show b.cnt k ≤ b.cnt k + Ter.cnts k r
    omega
  | b :: r, i + 1, a, p, h => by
    have := cnts_get (as := r) (i := i) (fun t ht => p t (List.mem_cons_of_mem _ ht)) h
    have := p b List.mem_cons_self
    show a.cnt k ≤ b.cnt k + Ter.cnts k r
    omega
theorem wts_get {W : List (Str × Int)} (hW : ∀ f, 1 ≤ wtOf W f) : ∀ {as : List Ter} {i : Nat} {a : Ter}, as[i]? = some a → a.wt W ≤ Ter.wts W as
  | [], _, _, h => by cases h
  | b :: r, 0, a, h => by
    cases h
    have := wts_nn hW r
    show b.wt W ≤ b.wt W + Ter.wts W r
    omega
  | b :: r, i + 1, a, h => by
    have := wts_get hW (as := r) (i := i) h
    have := wt_one hW b
    show a.wt W ≤ b.wt W + Ter.wts W r
    omega
/-- a subterm counts and weighs no more, a proper one weighs less -/
theorem at_less {W : List (Str × Int)} (hW : ∀ f, 1 ≤ wtOf W f) : ∀ (q : List Int) (t u : Ter), t.at q = some u → cge t u ∧ u.wt W ≤ t.wt W ∧ (q ≠ [] → u.wt W < t.wt W)
  | [], t, u, h => by
    have h : some t = some u := by cases t <;> exact h
    cases h
    exact ⟨fun k => Int.le_refl _, Int.le_refl _, fun z => absurd rfl z⟩
  | n :: r, .var k, u, h => by cases h
  | n :: r, .ap f as, u, h => by
    have h : ((Ter.ap f as).step n).bind (fun u' => u'.at r) = some u := h
    cases es : (Ter.ap f as).step n with
    | none => rw [es] at h; cases h
    | some a =>
      rw [es] at h
      obtain ⟨_, h2⟩ := step_ap es
      obtain ⟨c, w, _⟩ := at_less hW r a u h
      have wl := wts_get hW h2
      have := hW f
      have e : (Ter.ap f as).wt W = wtOf W f + Ter.wts W as := rfl
      refine ⟨fun k => Int.le_trans (c k) (cnts_get (fun t _ => cge_bind.cnt_pos0 k t) h2), by omega, fun _ => by omega⟩
theorem gre_at {W : List (Str × Int)} {ps : List Str} (hW : ∀ f, 1 ≤ wtOf W f) (n : Nat) {q : List Int} {t u : Ter} (h : t.at q = some u) (hq : q ≠ []) : gre W ps (n + 1) t u := by
  obtain ⟨c, _, w⟩ := at_less hW q t u h
  have w := w hq
  refine ⟨c, ?_⟩
  rw [if_neg (by omega)]; exact w
theorem gre_var {W : List (Str × Int)} {ps : List Str} (hW : ∀ f, 1 ≤ wtOf W f) (n : Nat) {k : Key} {f : Str} {as : List Ter} (h : (Ter.ap f as).cnt k ≠ 0) : gre W ps (n + 1) (.ap f as) (.var k) := by
  have p := cge_bind.cnt_pos0 k (.ap f as)
  have w1 := hW f
  have w2 : 1 ≤ Ter.wts W as := by
    cases as with
    | nil => exact absurd rfl h
    | cons a r =>
      have := wt_one hW a
      have := wts_nn hW r
      show 1 ≤ a.wt W + Ter.wts W r
      omega
  have e : (Ter.ap f as).wt W = wtOf W f + Ter.wts W as := rfl
  have e2 : (Ter.var k).wt W = 1 := rfl
  refine ⟨fun x => ?_, ?_⟩
  · show (if k = x then (1 : Int) else 0) ≤ _
    by_cases c : k = x
    · subst c; rw [if_pos rfl]; omega
    · rw [if_neg c]; exact cge_bind.cnt_pos0 x (.ap f as)
  · rw [if_neg (by omega)]; omega
theorem wtOf_one {W : List (Str × Int)} (h : ∀ e ∈ W, 1 ≤ e.2) (f : Str) : 1 ≤ wtOf W f := by
  unfold wtOf
  cases z : W.find? fun e => decide (e.1 = f) with
  | none => exact Int.le_refl 1
  | some e => exact h e (List.mem_of_find?_eq_some z)
mutual
theorem bind_size {s : Key → Ter} {m : Nat} (h : ∀ k, (s k).size ≤ m) (h1 : 1 ≤ m) : ∀ t : Ter, (t.bind s).size ≤ t.size * m
  | .var k => by
    have := h k
    show (s k).size ≤ 1 * m
    omega
  | .ap f as => by
    have := binds_size h h1 as
    show Ter.sizes (Ter.binds s as) + 1 ≤ (Ter.sizes as + 1) * m
    rw [Nat.add_mul]
    omega
theorem binds_size {s : Key → Ter} {m : Nat} (h : ∀ k, (s k).size ≤ m) (h1 : 1 ≤ m) : ∀ ts : List Ter, Ter.sizes (Ter.binds s ts) ≤ Ter.sizes ts * m
  | [] => Nat.zero_le _
  | a :: r => by
    have := bind_size h h1 a
    have := binds_size h h1 r
    show (a.bind s).size + Ter.sizes (Ter.binds s r) ≤ (a.size + Ter.sizes r) * m
    rw [Nat.add_mul]
    omega
end
mutual
theorem bind_nest {s : Key → Ter} {m : Nat} (h : ∀ k, (s k).nest ≤ m) : ∀ t : Ter, (t.bind s).nest ≤ t.nest + m
  | .var k => by
    have := h k
    show (s k).nest ≤ 1 + m
    omega
  | .ap f as => by
    have := binds_nest h as
    show Ter.nests (Ter.binds s as) + 1 ≤ Ter.nests as + 1 + m
    omega
theorem binds_nest {s : Key → Ter} {m : Nat} (h : ∀ k, (s k).nest ≤ m) : ∀ ts : List Ter, Ter.nests (Ter.binds s ts) ≤ Ter.nests ts + m
  | [] => Nat.zero_le _
  | a :: r => by
    have := bind_nest h a
    have := binds_nest h r
    show max (a.bind s).nest (Ter.nests (Ter.binds s r)) ≤ max a.nest (Ter.nests r) + m
    omega
end
theorem binds_len (s : Key → Ter) : ∀ ts : List Ter, (Ter.binds s ts).length = ts.length
  | [] => rfl
  | _ :: r => congrArg (· + 1) (binds_len s r)
mutual
theorem bind_wf {S : Str → Nat → Prop} {U : Key → Prop} {s : Key → Ter} (h : ∀ k, U k → (s k).wf S U) : ∀ t : Ter, t.wf S U → (t.bind s).wf S U
  | .var k, w => h k w
  | .ap f as, w => ⟨by rw [binds_len]; exact w.1, binds_wf h as w.2⟩
theorem binds_wf {S : Str → Nat → Prop} {U : Key → Prop} {s : Key → Ter} (h : ∀ k, U k → (s k).wf S U) : ∀ ts : List Ter, Ter.wfs S U ts → Ter.wfs S U (Ter.binds s ts)
  | [], _ => trivial
  | a :: r, w => ⟨bind_wf h a w.1, binds_wf h r w.2⟩
end
end Own
/-! list.remove of data that is no number: the first equal one goes -/
namespace L2
open PySem PySem.Spec PyProof.Rows
section
variable {X : Cx}
def rRemD (K : PySem.W.Frag) : V → List V → Hp → VK → Prop := fun x xs0 H Q => ∃ (l : Addr) (y : V) (xs : List V) (d : PyData) (ds : List PyData) (j : Nat) (z : PyData), x = V.ref l ∧ xs0 = [y] ∧ H l = some (.lst xs) ∧ DpAll K H xs ds ∧ Dp K H y d ∧
  SeqAt.shaped (.list ds) = true ∧ SeqAt.shaped d = true ∧ ds[j]? = some z ∧ PyData.eqv z d = true ∧ (∀ (m : Nat) (z' : PyData), m < j → ds[m]? = some z' → PyData.eqv z' d = false) ∧ Q .non (upd H l (.lst (xs.eraseIdx j)))
theorem mt_removeD (hu : X.A.units + 65 < cLine) : MtM X "list.remove" (rRemD X.K) := by
  intro pins s σ H x xs0 v us Q I rx rxs h
  obtain ⟨l, y, xs, d, ds, j, z, rfl, rfl, hH, hds, hy, sl, sd, hz, hzj, hno, q⟩ := h
  cases rx
  obtain ⟨uy, rfl, ry⟩ := rxs.one
  obtain ⟨bs, r1⟩ := Dp.reads I d y uy hy ry
  have hxs : PyData.canLayAll0 ds = true := SeqAt.canLay_of_shaped sl
  have hroom : X.A.units + 1 + min (PyData.depthAll ds) d.depth < cLine := room_in_shaped sd hu
  obtain ⟨zz, its, n, r, hl, e⟩ := I.lstM hH
  obtain ⟨as, h4⟩ := Dp.readsAll I ds xs its hds r
  have hn : its.length = ds.length := SeqAt.ReadsAll.length ds its as h4
  have hmap : its.map (SeqAt.readOf s.heap) = ds := SeqAt.readsAll_map ds its as hxs h4
  have hvl := r.length
  obtain ⟨hjd, _⟩ := List.getElem?_eq_some_iff.mp hz
  have hjl : j < its.length := by omega
  have hj : j < its.toArray.size := by simpa using hjl
  have at_ : ∀ (m : Nat) (hm : m < its.toArray.size) (z' : PyData), ds[m]? = some z' → SeqAt.readOf s.heap its.toArray[m] = z' := by
    intro m hm z' hz'
    have hml : m < its.length := by simpa using hm
    rw [← hmap, List.getElem?_map, List.getElem?_eq_getElem hml] at hz'
    have e1 : SeqAt.readOf s.heap its[m] = z' := Option.some.inj (show some (SeqAt.readOf s.heap its[m]) = some z' from hz')
    simpa using e1
  refine call_meets PySem.F.slot_list_remove ⟨_, e, rfl⟩ PySem.F.entry_list_remove (PySem.F.args_list_remove_2 _ _)
    (SeqAt.list_removeAt l its.toArray n none #[] uy (fun u => PyData.eqv (SeqAt.readOf s.heap u) d) j hj ?_ ?_ (by rw [List.size_toArray]; omega)) ⟨e, SeqAt.items_eqAt (vs := its.toArray) (show ReadsAll s.heap its.toArray.toList ds as from h4) r1 hxs (SeqAt.canLay_of_shaped sd) hroom, ?_⟩
  · show PyData.eqv (SeqAt.readOf s.heap its.toArray[j]) d = true
    rw [at_ j hj z hz]
    exact hzj
  · intro m hm hmj
    have hmd : m < ds.length := by omega
    have hz' : ds[m]? = some ds[m] := List.getElem?_eq_getElem hmd
    show PyData.eqv (SeqAt.readOf s.heap its.toArray[m]) d = false
    rw [at_ m hm _ hz']
    exact hno m _ hmj hz'
  · have rr := r.eraseIdx j
    refine ⟨.non, _, I.lset (its' := its.eraseIdx j) (t' := s.toks) hH e ?_ rr ?_, rfl, q⟩
    · show its.toArray.eraseIdxIfInBounds j = (its.eraseIdx j).toArray
      rw [List.eraseIdxIfInBounds_toArray]
    · rw [List.length_eraseIdx]
      split <;> omega
end
end L2
/-! multisets, compared: what both have goes, one against one -/
namespace Own
open PySem
section
variable {α : Type}
def wcom (e : α → α → Bool) : List α → List α → List α × List α
  | [], r => ([], r)
  | x :: xs, r => if r.any (e x) = true then wcom e xs (r.eraseP (e x)) else (x :: (wcom e xs r).1, (wcom e xs r).2)
structure Eqv (e : α → α → Bool) : Prop where
  refl : ∀ x, e x x = true
  symm : ∀ x y, e x y = true → e y x = true
  trans : ∀ x y z, e x y = true → e y z = true → e x z = true
theorem Eqv.cong {e : α → α → Bool} (E : Eqv e) {x y : α} (h : e x y = true) (z : α) : e x z = e y z := by
  by_cases c : e y z = true
  · rw [c, E.trans _ _ _ h c]
  · rw [Bool.not_eq_true] at c
    rw [c]
    by_cases d : e x z = true
    · rw [E.trans _ _ _ (E.symm _ _ h) d] at c; cases c
    · rw [Bool.not_eq_true] at d; exact d
theorem Eqv.comm {e : α → α → Bool} (E : Eqv e) (x y : α) : e x y = e y x := by
  by_cases c : e x y = true
  · rw [c, E.symm _ _ c]
  · rw [Bool.not_eq_true] at c
    by_cases d : e y x = true
    · rw [E.symm _ _ d] at c; cases c
    · rw [Bool.not_eq_true] at d; rw [c, d]
theorem count_eraseP {e : α → α → Bool} (E : Eqv e) (x z : α) : ∀ l : List α, l.any (e x) = true → (l.eraseP (e x)).countP (e z) + (if e z x = true then 1 else 0) = l.countP (e z)
  | [], h => by cases h
  | y :: r, h => by
    by_cases c : e x y = true
    · rw [List.eraseP_cons_of_pos c, List.countP_cons]
      have : e z x = e z y := by rw [E.comm z x, E.comm z y, E.cong c]
      rw [this]
    · rw [List.eraseP_cons_of_neg c, List.countP_cons, List.countP_cons]
      have h' : r.any (e x) = true := by
        rw [List.any_cons] at h
        rw [Bool.not_eq_true] at c
        rw [c] at h; exact h
      have := count_eraseP E x z r h'
      omega
theorem count_any {e : α → α → Bool} (x : α) (l : List α) : 0 < l.countP (e x) ↔ l.any (e x) = true := by
  rw [List.countP_pos_iff, List.any_eq_true]
theorem wcom_sum {e : α → α → Bool} (E : Eqv e) (z : α) : ∀ f s : List α, (wcom e f s).1.countP (e z) + s.countP (e z) = f.countP (e z) + (wcom e f s).2.countP (e z)
  | [], s => by show 0 + _ = 0 + _; rfl
  | x :: xs, s => by
    unfold wcom
    by_cases c : s.any (e x) = true
    · rw [if_pos c]
      have h1 := wcom_sum E z xs (s.eraseP (e x))
      have h2 := count_eraseP E x z s c
      rw [List.countP_cons]
      omega
    · rw [if_neg c]
      have h1 := wcom_sum E z xs s
      show (x :: (wcom e xs s).1).countP (e z) + _ = _ + (wcom e xs s).2.countP (e z)
      rw [List.countP_cons, List.countP_cons]
      omega
/-- what is left on the right: not more than there was -/
theorem wcom_le {e : α → α → Bool} (E : Eqv e) (z : α) : ∀ f s : List α, (wcom e f s).2.countP (e z) ≤ s.countP (e z)
  | [], s => Nat.le_refl _
  | x :: xs, s => by
    unfold wcom
    by_cases c : s.any (e x) = true
    · rw [if_pos c]
      have h1 := wcom_le E z xs (s.eraseP (e x))
      have h2 := count_eraseP E x z s c
      omega
    · rw [if_neg c]
      exact wcom_le E z xs s
theorem wcom_zero {e : α → α → Bool} (E : Eqv e) (z : α) : ∀ f s : List α, (wcom e f s).1.countP (e z) = 0 ∨ (wcom e f s).2.countP (e z) = 0
  | [], s => .inl rfl
  | x :: xs, s => by
    unfold wcom
    by_cases c : s.any (e x) = true
    · rw [if_pos c]; exact wcom_zero E z xs _
    · rw [if_neg c]
      show (x :: (wcom e xs s).1).countP (e z) = 0 ∨ (wcom e xs s).2.countP (e z) = 0
      by_cases d : e z x = true
      · refine .inr ?_
        have h1 := wcom_le E z xs s
        have h0 : s.countP (e z) = 0 := by
          have : ¬ 0 < s.countP (e z) := fun g => c (by
            have g := (count_any z s).mp g
            rw [List.any_eq_true] at g ⊢
            obtain ⟨y, hy, g⟩ := g
            exact ⟨y, hy, by rw [← E.cong d]; exact g⟩)
          omega
        omega
      · rw [List.countP_cons, if_neg d]
        exact wcom_zero E z xs s
theorem wcom_c1 {e : α → α → Bool} (E : Eqv e) (f s : List α) (z : α) : (wcom e f s).1.countP (e z) = f.countP (e z) - s.countP (e z) := by
  have h1 := wcom_sum E z f s
  have h2 := wcom_le E z f s
  rcases wcom_zero E z f s with h | h <;> omega
theorem wcom_c2 {e : α → α → Bool} (E : Eqv e) (f s : List α) (z : α) : (wcom e f s).2.countP (e z) = s.countP (e z) - f.countP (e z) := by
  have h1 := wcom_sum E z f s
  have h2 := wcom_le E z f s
  rcases wcom_zero E z f s with h | h <;> omega
theorem wcom_len {e : α → α → Bool} : ∀ f s : List α, (wcom e f s).1.length + s.length = f.length + (wcom e f s).2.length
  | [], s => by show 0 + _ = 0 + _; rfl
  | x :: xs, s => by
    unfold wcom
    by_cases c : s.any (e x) = true
    · rw [if_pos c]
      have h1 := wcom_len (e := e) xs (s.eraseP (e x))
      obtain ⟨y, hy, g⟩ := List.any_eq_true.mp c
      have h2 := List.length_eraseP_of_mem hy g
      have h3 : 0 < s.length := List.length_pos_of_mem hy
      rw [List.length_cons]
      omega
    · rw [if_neg c]
      have h1 := wcom_len (e := e) xs s
      show (x :: (wcom e xs s).1).length + _ = _ + (wcom e xs s).2.length
      rw [List.length_cons, List.length_cons]
      omega
theorem wcom_m1 {e : α → α → Bool} : ∀ (f s : List α), ∀ x ∈ (wcom e f s).1, x ∈ f
  | [], _, x, h => by cases h
  | y :: xs, s, x, h => by
    unfold wcom at h
    by_cases c : s.any (e y) = true
    · rw [if_pos c] at h; exact List.mem_cons_of_mem _ (wcom_m1 xs _ x h)
    · rw [if_neg c] at h
      rcases List.mem_cons.mp h with rfl | h
      · exact List.mem_cons_self
      · exact List.mem_cons_of_mem _ (wcom_m1 xs _ x h)
theorem wcom_m2 {e : α → α → Bool} : ∀ (f s : List α), ∀ x ∈ (wcom e f s).2, x ∈ s
  | [], _, x, h => h
  | y :: xs, s, x, h => by
    unfold wcom at h
    by_cases c : s.any (e y) = true
    · rw [if_pos c] at h; exact List.mem_of_mem_eraseP (wcom_m2 xs _ x h)
    · rw [if_neg c] at h; exact wcom_m2 xs _ x h
/-- each of the second list has a greater one in the first -/
def Dom (G : α → α → Prop) (l r : List α) : Prop := ∀ t ∈ r, ∃ s ∈ l, G s t
open Classical in
noncomputable def cmpM (G : α → α → Prop) (l r : List α) : Str := if l = [] ∧ r = [] then "equal" else if l ≠ [] ∧ Dom G l r then "greater" else if r ≠ [] ∧ Dom G r l then "less" else "incomparable"
/-- the same classes in both -/
def SameC (e : α → α → Bool) (l l' : List α) : Prop := ∀ z, l.any (e z) = true ↔ l'.any (e z) = true
theorem SameC.symm {e : α → α → Bool} {l l' : List α} (h : SameC e l l') : SameC e l' l := fun z => (h z).symm
theorem SameC.nil {e : α → α → Bool} (E : Eqv e) {l l' : List α} (h : SameC e l l') : l = [] → l' = [] := fun z => by
  cases l' with
  | nil => rfl
  | cons y r =>
    have := (h y).mpr (by rw [List.any_cons, E.refl]; rfl)
    rw [z] at this; cases this
theorem sameC_of {e : α → α → Bool} {l l' : List α} (h : ∀ z, l.countP (e z) = 0 ↔ l'.countP (e z) = 0) : SameC e l l' := fun z => by
  rw [← count_any, ← count_any]
  have := h z
  omega
structure Resp (e : α → α → Bool) (G : α → α → Prop) : Prop where
  l : ∀ x x' y, e x x' = true → G x y → G x' y
  r : ∀ x y y', e y y' = true → G x y → G x y'
theorem Dom.cong {e : α → α → Bool} (E : Eqv e) {G : α → α → Prop} (R : Resp e G) {l l' r r' : List α} (hl : SameC e l l') (hr : SameC e r r') (h : Dom G l r) : Dom G l' r' := fun t ht => by
  have h1 := (hr t).mpr (List.any_eq_true.mpr ⟨t, ht, E.refl t⟩)
  obtain ⟨t0, h0, e0⟩ := List.any_eq_true.mp h1
  obtain ⟨s, hs, g⟩ := h t0 h0
  have h2 := (hl s).mp (List.any_eq_true.mpr ⟨s, hs, E.refl s⟩)
  obtain ⟨s', hs', e'⟩ := List.any_eq_true.mp h2
  exact ⟨s', hs', R.l _ _ _ e' (R.r _ _ _ (E.symm _ _ e0) g)⟩
theorem cmpM_cong {e : α → α → Bool} (E : Eqv e) {G : α → α → Prop} (R : Resp e G) {l l' r r' : List α} (hl : SameC e l l') (hr : SameC e r r') : cmpM G l r = cmpM G l' r' := by
  have n1 : l = [] ↔ l' = [] := ⟨hl.nil E, hl.symm.nil E⟩
  have n2 : r = [] ↔ r' = [] := ⟨hr.nil E, hr.symm.nil E⟩
  have d1 : Dom G l r ↔ Dom G l' r' := ⟨fun h => h.cong E R hl hr, fun h => h.cong E R hl.symm hr.symm⟩
  have d2 : Dom G r l ↔ Dom G r' l' := ⟨fun h => h.cong E R hr hl, fun h => h.cong E R hr.symm hl.symm⟩
  have a1 : (l = [] ∧ r = []) ↔ (l' = [] ∧ r' = []) := by rw [n1, n2]
  have a2 : (l ≠ [] ∧ Dom G l r) ↔ (l' ≠ [] ∧ Dom G l' r') := by rw [d1]; exact ⟨fun h => ⟨fun z => h.1 (n1.mpr z), h.2⟩, fun h => ⟨fun z => h.1 (n1.mp z), h.2⟩⟩
  have a3 : (r ≠ [] ∧ Dom G r l) ↔ (r' ≠ [] ∧ Dom G r' l') := by rw [d2]; exact ⟨fun h => ⟨fun z => h.1 (n2.mpr z), h.2⟩, fun h => ⟨fun z => h.1 (n2.mp z), h.2⟩⟩
  unfold cmpM
  by_cases c1 : l = [] ∧ r = []
  · rw [if_pos c1, if_pos (a1.mp c1)]
  · rw [if_neg c1, if_neg (fun z => c1 (a1.mpr z))]
    by_cases c2 : l ≠ [] ∧ Dom G l r
    · rw [if_pos c2, if_pos (a2.mp c2)]
    · rw [if_neg c2, if_neg (fun z => c2 (a2.mpr z))]
      by_cases c3 : r ≠ [] ∧ Dom G r l
      · rw [if_pos c3, if_pos (a3.mp c3)]
      · rw [if_neg c3, if_neg (fun z => c3 (a3.mpr z))]
/-- of a list of things there is one that none of them exceeds -/
theorem top_of {G : α → α → Prop} (irr : ∀ x, ¬ G x x) (tr : ∀ x y z, G x y → G y z → G x z) : ∀ (l : List α), l ≠ [] → ∃ m ∈ l, ∀ y ∈ l, ¬ G y m
  | [], h => absurd rfl h
  | [x], _ => ⟨x, List.mem_cons_self, fun y hy => by rw [List.mem_singleton.mp hy]; exact irr x⟩
  | x :: y :: r, _ => by
    obtain ⟨m, hm, h⟩ := top_of irr tr (y :: r) (by intro z; cases z)
    by_cases c : G x m
    · refine ⟨x, List.mem_cons_self, fun z hz g => ?_⟩
      rcases List.mem_cons.mp hz with rfl | hz
      · exact irr _ g
      · exact h z hz (tr _ _ _ g c)
    · refine ⟨m, List.mem_cons_of_mem _ hm, fun z hz g => ?_⟩
      rcases List.mem_cons.mp hz with rfl | hz
      · exact c g
      · exact h z hz g
theorem dom_not {G : α → α → Prop} (irr : ∀ x, ¬ G x x) (tr : ∀ x y z, G x y → G y z → G x z) {l r : List α} (h1 : Dom G l r) (h2 : Dom G r l) (h : l ≠ [] ∨ r ≠ []) : False := by
  have hr : r ≠ [] := by
    rcases h with h | h
    · intro z
      cases l with
      | nil => exact h rfl
      | cons x l =>
        obtain ⟨t, ht, _⟩ := h2 x List.mem_cons_self
        rw [z] at ht; cases ht
    · exact h
  obtain ⟨m, hm, hno⟩ := top_of irr tr r hr
  obtain ⟨s, hs, g⟩ := h1 m hm
  obtain ⟨t, ht, g'⟩ := h2 s hs
  exact hno t ht (tr _ _ _ g' g)
theorem cmpM_eq {G : α → α → Prop} {l r : List α} : cmpM G l r = "equal" ↔ l = [] ∧ r = [] := by
  unfold cmpM
  by_cases c : l = [] ∧ r = []
  · rw [if_pos c]; exact ⟨fun _ => c, fun _ => rfl⟩
  · rw [if_neg c]
    refine ⟨fun h => ?_, fun h => absurd h c⟩
    split at h
    · cases h
    · split at h <;> cases h
theorem cmpM_gt {G : α → α → Prop} {l r : List α} : cmpM G l r = "greater" ↔ l ≠ [] ∧ Dom G l r := by
  unfold cmpM
  by_cases c : l = [] ∧ r = []
  · rw [if_pos c]; exact ⟨fun h => (by cases h), fun h => absurd c.1 h.1⟩
  · rw [if_neg c]
    by_cases d : l ≠ [] ∧ Dom G l r
    · rw [if_pos d]; exact ⟨fun _ => d, fun _ => rfl⟩
    · rw [if_neg d]
      refine ⟨fun h => ?_, fun h => absurd h d⟩
      split at h <;> cases h
theorem cmpM_lt {G : α → α → Prop} (irr : ∀ x, ¬ G x x) (tr : ∀ x y z, G x y → G y z → G x z) {l r : List α} : cmpM G l r = "less" ↔ r ≠ [] ∧ Dom G r l := by
  unfold cmpM
  by_cases c : l = [] ∧ r = []
  · rw [if_pos c]; exact ⟨fun h => (by cases h), fun h => absurd c.2 h.1⟩
  · rw [if_neg c]
    by_cases d : l ≠ [] ∧ Dom G l r
    · rw [if_pos d]; exact ⟨fun h => (by cases h), fun h => (dom_not irr tr d.2 h.2 (.inl d.1)).elim⟩
    · rw [if_neg d]
      by_cases e : r ≠ [] ∧ Dom G r l
      · rw [if_pos e]; exact ⟨fun _ => e, fun _ => rfl⟩
      · rw [if_neg e]; exact ⟨fun h => (by cases h), fun h => absurd h e⟩
theorem cmpM_swap {e : α → α → Bool} (E : Eqv e) {G : α → α → Prop} (irr : ∀ x, ¬ G x x) (tr : ∀ x y z, G x y → G y z → G x z) (R : Resp e G) (f s : List α) : cmpM G (wcom e f s).1 (wcom e f s).2 = "less" ↔ cmpM G (wcom e s f).1 (wcom e s f).2 = "greater" := by
  have h1 : SameC e (wcom e f s).2 (wcom e s f).1 := sameC_of fun z => by rw [wcom_c2 E, wcom_c1 E]
  have h2 : SameC e (wcom e f s).1 (wcom e s f).2 := sameC_of fun z => by rw [wcom_c1 E, wcom_c2 E]
  rw [cmpM_lt irr tr, cmpM_gt]
  refine ⟨fun h => ⟨fun z => h.1 (h1.symm.nil E z), h.2.cong E R h1 h2⟩, fun h => ⟨fun z => h.1 (h1.nil E z), h.2.cong E R h1.symm h2.symm⟩⟩
end
end Own
/-! literals and clauses, compared -/
namespace Own
open PySem PySem.Spec PyProof.Rows L2 HT
theorem eqvT : Eqv eT := ⟨eT_refl, fun x y h => by rw [eT_comm]; exact h, fun x y z h g => by rw [eT_iff] at *; rw [h, g]⟩
def bagL (x : Lit) : List Ter := if x.1 = true then [x.2.1, x.2.2] else [x.2.1, x.2.1, x.2.2, x.2.2]
def pairL (x : Lit) : List Ter := [x.2.1, x.2.2]
theorem resp_gre (W : List (Str × Int)) (ps : List Str) (n : Nat) : Resp eT (gre W ps n) := ⟨fun x x' y h g => by rw [eT_iff] at h; rw [← h]; exact g, fun x y y' h g => by rw [eT_iff] at h; rw [← h]; exact g⟩
noncomputable def litO (W : List (Str × Int)) (ps : List Str) (n : Nat) (x y : Lit) : Str := cmpM (gre W ps n) (wcom eT (bagL x) (bagL y)).1 (wcom eT (bagL x) (bagL y)).2
theorem bag_count (x : Lit) (z : Ter) : (bagL x).countP (eT z) = (if x.1 = true then 1 else 2) * (pairL x).countP (eT z) := by
  unfold bagL pairL
  by_cases c : x.1 = true
  · rw [if_pos c, if_pos c, Nat.one_mul]
  · rw [if_neg c, if_neg c]
    rw [List.countP_cons, List.countP_cons, List.countP_cons, List.countP_cons, List.countP_cons, List.countP_cons, List.countP_nil]
    omega
/-- of literals of one sign the pairs tell -/
theorem litO_pair {W : List (Str × Int)} {ps : List Str} {n : Nat} {x y : Lit} (h : x.1 = y.1) : cmpM (gre W ps n) (wcom eT (pairL x) (pairL y)).1 (wcom eT (pairL x) (pairL y)).2 = litO W ps n x y := by
  refine cmpM_cong eqvT (resp_gre W ps n) (sameC_of fun z => ?_) (sameC_of fun z => ?_)
  · rw [wcom_c1 eqvT, wcom_c1 eqvT, bag_count, bag_count, h, ← Nat.mul_sub]
    split <;> omega
  · rw [wcom_c2 eqvT, wcom_c2 eqvT, bag_count, bag_count, h, ← Nat.mul_sub]
    split <;> omega
/-- as the law has it: what is left of the second one against the first -/
theorem litO_law {W : List (Str × Int)} {ps : List Str} {n : Nat} (x y : Lit) : cmpM (gre W ps n) (wcom eT (bagL x) (bagL y)).1 (wcom eT (bagL y) (bagL x)).1 = litO W ps n x y :=
  cmpM_cong eqvT (resp_gre W ps n) (fun z => Iff.rfl) (sameC_of fun z => by rw [wcom_c1 eqvT, wcom_c2 eqvT])
def sameL (x y : Lit) : Bool := (x.1 == y.1) && ((eT y.2.1 x.2.1 && eT y.2.2 x.2.2) || (eT y.2.1 x.2.2 && eT y.2.2 x.2.1))
theorem sameL_iff (x y : Lit) : sameL x y = true ↔ x.1 = y.1 ∧ ((y.2.1 = x.2.1 ∧ y.2.2 = x.2.2) ∨ (y.2.1 = x.2.2 ∧ y.2.2 = x.2.1)) := by
  unfold sameL
  rw [Bool.and_eq_true, Bool.or_eq_true, Bool.and_eq_true, Bool.and_eq_true, beq_iff_eq, eT_iff, eT_iff, eT_iff, eT_iff]
theorem eqvL : Eqv sameL := by
  refine ⟨fun x => ?_, fun x y h => ?_, fun x y z h g => ?_⟩
  · rw [sameL_iff]; exact ⟨rfl, .inl ⟨rfl, rfl⟩⟩
  · rw [sameL_iff] at *
    obtain ⟨h0, h1 | h1⟩ := h
    · exact ⟨h0.symm, .inl ⟨h1.1.symm, h1.2.symm⟩⟩
    · exact ⟨h0.symm, .inr ⟨h1.2.symm, h1.1.symm⟩⟩
  · rw [sameL_iff] at *
    obtain ⟨h0, h1⟩ := h
    obtain ⟨g0, g1⟩ := g
    refine ⟨h0.trans g0, ?_⟩
    rcases h1 with h1 | h1 <;> rcases g1 with g1 | g1
    · exact .inl ⟨g1.1.trans h1.1, g1.2.trans h1.2⟩
    · exact .inr ⟨g1.1.trans h1.2, g1.2.trans h1.1⟩
    · exact .inr ⟨g1.1.trans h1.1, g1.2.trans h1.2⟩
    · exact .inl ⟨g1.1.trans h1.2, g1.2.trans h1.1⟩
theorem same_bag {x y : Lit} (h : sameL x y = true) (z : Ter) : (bagL x).countP (eT z) = (bagL y).countP (eT z) := by
  rw [sameL_iff] at h
  obtain ⟨h0, h1⟩ := h
  rw [bag_count, bag_count, h0]
  congr 1
  unfold pairL
  rw [List.countP_cons, List.countP_cons, List.countP_nil, List.countP_cons, List.countP_cons, List.countP_nil]
  rcases h1 with h1 | h1
  · rw [h1.1, h1.2]
  · rw [h1.1, h1.2]; omega
open Classical in
theorem pair_perm {a b c d : Ter} (h : ∀ z, [a, b].countP (eT z) = [c, d].countP (eT z)) : (c = a ∧ d = b) ∨ (c = b ∧ d = a) := by
  have ind : ∀ z u v : Ter, [u, v].countP (eT z) = (if z = u then 1 else 0) + (if z = v then 1 else 0) := fun z u v => by
    rw [List.countP_cons, List.countP_cons, List.countP_nil]
    have e : ∀ w, (if eT z w = true then 1 else 0 : Nat) = if z = w then 1 else 0 := fun w => by
      by_cases g : z = w
      · rw [if_pos g, if_pos ((eT_iff _ _).mpr g)]
      · rw [if_neg g, if_neg (fun y => g ((eT_iff _ _).mp y))]
    rw [e, e]; omega
  have h1 := h c
  have h2 := h d
  have h3 := h a
  rw [ind, ind] at h1 h2 h3
  rw [if_pos rfl] at h1
  by_cases p : c = a
  · refine .inl ⟨p, ?_⟩
    subst p
    rw [if_pos rfl] at h1 h3
    by_cases q : d = b
    · exact q
    · rw [if_neg q] at h2
      rw [if_pos (rfl : d = d)] at h2
      by_cases r : d = c
      · subst r
        rw [if_pos rfl] at h1
        by_cases t : d = b
        · exact t
        · rw [if_neg t] at h1; omega
      · rw [if_neg r] at h2; omega
  · rw [if_neg p] at h1
    by_cases q : c = b
    · refine .inr ⟨q, ?_⟩
      by_cases r : d = a
      · exact r
      · rw [if_pos rfl, if_neg (show ¬ a = c from fun z => p z.symm), if_neg (show ¬ a = d from fun z => r z.symm)] at h3
        omega
    · rw [if_neg q] at h1; omega
theorem litO_eq {W : List (Str × Int)} {ps : List Str} {n : Nat} (x y : Lit) : litO W ps n x y = "equal" ↔ sameL x y = true := by
  unfold litO
  rw [cmpM_eq]
  refine ⟨fun h => ?_, fun h => ?_⟩
  · have hc : ∀ z, (bagL x).countP (eT z) = (bagL y).countP (eT z) := fun z => by
      have h1 := wcom_c1 eqvT (bagL x) (bagL y) z
      have h2 := wcom_c2 eqvT (bagL x) (bagL y) z
      rw [h.1] at h1
      rw [h.2] at h2
      rw [List.countP_nil] at h1 h2
      omega
    have hl := wcom_len (e := eT) (bagL x) (bagL y)
    rw [h.1, h.2] at hl
    have hs : x.1 = y.1 := by
      unfold bagL at hl
      by_cases a : x.1 = true <;> by_cases b : y.1 = true
      · rw [a, b]
      · rw [if_pos a, if_neg b] at hl
        simp only [List.length_cons, List.length_nil] at hl
        omega
      · rw [if_neg a, if_pos b] at hl
        simp only [List.length_cons, List.length_nil] at hl
        omega
      · rw [Bool.not_eq_true] at a b
        rw [a, b]
    rw [sameL_iff]
    refine ⟨hs, ?_⟩
    have hp : ∀ z, (pairL x).countP (eT z) = (pairL y).countP (eT z) := fun z => by
      have := hc z
      rw [bag_count, bag_count, hs] at this
      split at this <;> omega
    exact pair_perm hp
  · have c1 : ∀ z, (wcom eT (bagL x) (bagL y)).1.countP (eT z) = 0 := fun z => by rw [wcom_c1 eqvT, same_bag h z]; omega
    have c2 : ∀ z, (wcom eT (bagL x) (bagL y)).2.countP (eT z) = 0 := fun z => by rw [wcom_c2 eqvT, same_bag h z]; omega
    exact ⟨(sameC_of (e := eT) (l := []) (l' := (wcom eT (bagL x) (bagL y)).1) fun z => by rw [c1 z, List.countP_nil]).nil eqvT rfl, (sameC_of (e := eT) (l := []) (l' := (wcom eT (bagL x) (bagL y)).2) fun z => by rw [c2 z, List.countP_nil]).nil eqvT rfl⟩
theorem litO_same {W : List (Str × Int)} {ps : List Str} {n : Nat} {x x' y y' : Lit} (h : sameL x x' = true) (g : sameL y y' = true) : litO W ps n x y = litO W ps n x' y' :=
  cmpM_cong eqvT (resp_gre W ps n) (sameC_of fun z => by rw [wcom_c1 eqvT, wcom_c1 eqvT, same_bag h z, same_bag g z]) (sameC_of fun z => by rw [wcom_c2 eqvT, wcom_c2 eqvT, same_bag h z, same_bag g z])
def GL (W : List (Str × Int)) (ps : List Str) (n : Nat) (x y : Lit) : Prop := litO W ps n x y = "greater"
theorem resp_GL (W : List (Str × Int)) (ps : List Str) (n : Nat) : Resp sameL (GL W ps n) := ⟨fun x x' y h g => (litO_same h (eqvL.refl y)).symm.trans g, fun x y y' h g => (litO_same (eqvL.refl x) h).symm.trans g⟩
theorem litO_less {W : List (Str × Int)} {ps : List Str} {n : Nat} (x y : Lit) : litO W ps n x y = "less" ↔ GL W ps n y x := cmpM_swap eqvT (gre_irr W ps n) (gre_trans W ps n) (resp_gre W ps n) _ _
noncomputable def clO (W : List (Str × Int)) (ps : List Str) (n : Nat) (c d : List Lit) : Str := cmpM (GL W ps n) (wcom sameL c d).1 (wcom sameL c d).2
/-- as the law has it: the second clause's literals, each against the first's -/
theorem clO_law {W : List (Str × Int)} {ps : List Str} {n : Nat} (c d : List Lit) : cmpM (GL W ps n) (wcom sameL d c).2 (wcom sameL d c).1 = clO W ps n c d :=
  cmpM_cong eqvL (resp_GL W ps n) (sameC_of fun z => by rw [wcom_c2 eqvL, wcom_c1 eqvL]) (sameC_of fun z => by rw [wcom_c1 eqvL, wcom_c2 eqvL])
end Own
/-! maximal and selected literals -/
namespace Own
open PySem PySem.Spec PyProof.Rows L2 HT
def overL (W : List (Str × Int)) (ps : List Str) (st : Bool) (y x : Lit) : Prop := litO W ps 8 y x = "greater" ∨ (st = true ∧ litO W ps 8 y x = "equal")
def topL (W : List (Str × Int)) (ps : List Str) (c : List Lit) (i : Nat) (st : Bool) : Prop := ∀ j, j ≠ i → ∀ x y, c[i]? = some x → c[j]? = some y → ¬ overL W ps st y x
noncomputable def topB (W : List (Str × Int)) (ps : List Str) (c : List Lit) (i : Nat) (st : Bool) : Bool := @decide (topL W ps c i st) (Classical.propDecidable _)
theorem topB_iff {W : List (Str × Int)} {ps : List Str} {c : List Lit} {i : Nat} {st : Bool} : topB W ps c i st = true ↔ topL W ps c i st := by
  unfold topB
  exact @decide_eq_true_iff _ (Classical.propDecidable _)
theorem topB_false {W : List (Str × Int)} {ps : List Str} {c : List Lit} {i : Nat} {st : Bool} (h : ¬ topL W ps c i st) : topB W ps c i st = false := Bool.eq_false_iff.mpr fun z => h (topB_iff.mp z)
def wtL (W : List (Str × Int)) (x : Lit) : Int := x.2.1.wt W + x.2.2.wt W
def negAt (c : List Lit) (k : Nat) : Bool := match c[k]? with
  | some x => !x.1
  | none => false
def negs (c : List Lit) (n : Nat) : List Nat := (List.range n).filter (negAt c)
theorem negs_succ (c : List Lit) (n : Nat) : negs c (n + 1) = negs c n ++ (if negAt c n = true then [n] else []) := by
  unfold negs
  rw [List.range_succ, List.filter_append]
  congr 1
  by_cases h : negAt c n = true
  · rw [if_pos h, List.filter_cons_of_pos h]; rfl
  · rw [if_neg h, List.filter_cons_of_neg h]; rfl
def hvS (W : List (Str × Int)) (c : List Lit) (acc : Option Nat × Int) (k : Nat) : Option Nat × Int := match c[k]? with
  | some x => if acc.2 < wtL W x then (some k, wtL W x) else acc
  | none => acc
def heavy (W : List (Str × Int)) (c : List Lit) (n : Nat) : Option Nat × Int := (negs c n).foldl (hvS W c) (none, 0)
noncomputable def firstTop (W : List (Str × Int)) (ps : List Str) (c : List Lit) (n : Nat) : Option Nat := (negs c n).find? fun k => topB W ps c k false
noncomputable def selO (W : List (Str × Int)) (ps : List Str) (c : List Lit) (sel : Int) : Option Nat := if sel = 1 then (heavy W c c.length).1 else if sel = 2 then firstTop W ps c c.length else none
theorem heavy_succ (W : List (Str × Int)) (c : List Lit) (n : Nat) : heavy W c (n + 1) = if negAt c n = true then hvS W c (heavy W c n) n else heavy W c n := by
  unfold heavy
  rw [negs_succ, List.foldl_append]
  split <;> rfl
theorem firstTop_succ (W : List (Str × Int)) (ps : List Str) (c : List Lit) (n : Nat) : firstTop W ps c (n + 1) = (firstTop W ps c n).or (if negAt c n = true ∧ topB W ps c n false = true then some n else none) := by
  unfold firstTop
  rw [negs_succ, List.find?_append]
  congr 1
  by_cases h : negAt c n = true
  · rw [if_pos h]
    by_cases g : topB W ps c n false = true
    · rw [if_pos ⟨h, g⟩, List.find?_cons_of_pos (p := fun k => topB W ps c k false) g]
    · rw [if_neg (fun z => g z.2), List.find?_cons_of_neg (p := fun k => topB W ps c k false) g]; rfl
  · rw [if_neg h, if_neg (fun z => h z.1)]; rfl
def optV : Option Nat → V
  | none => .non
  | some k => .int (k : Nat)
def bindL (s : Key → Ter) (x : Lit) : Lit := (x.1, x.2.1.bind s, x.2.2.bind s)
noncomputable def eligB (W : List (Str × Int)) (ps : List Str) (c : List Lit) (i : Nat) (s : Key → Ter) (sel : Int) (st : Bool) : Bool := match selO W ps c sel with
  | some k => decide (k = i)
  | none => topB W ps (c.map (bindL s)) i st
end Own
/-! {e} in an f-string: a text, an int, or True or False -/
namespace L2
open PySem PySem.Spec PyProof.Rows
section
variable {X : Cx}
def tFmtA (te : TE) : TE := fun σ H Q => te σ H fun x H1 => (∃ y : Str, x = .str y ∧ y.length ≤ sizeLine ∧ Q (.str y) H1) ∨ (∃ i : Int, x = .int i ∧ i.natAbs.log2 < 1920 ∧ Q (.str (toString i)) H1) ∨ ∃ b : Bool, x = .bl b ∧ Q (.str (if b then "True" else "False")) H1
theorem pe_fmtA {e : Expr} {te : TE} {pos : Pos} (he : PE X e te) : PE X (.FormattedValue e (-1) none pos) (tFmtA te) := by
  refine ⟨fun pins s σ H Q I h => ?_⟩
  refine wpAny_FormattedValue_plain (thn (he.run pins s σ H _ I h) fun v s1 hv => ?_)
  obtain ⟨x, H1, I1, r1, q⟩ := hv
  rcases q with ⟨y, rfl, hz, q⟩ | ⟨i, rfl, hz, q⟩ | ⟨b, rfl, q⟩
  · obtain ⟨t, rfl⟩ := r1
    exact wpAny_formatField_str ⟨.str y, H1, I1, ⟨t, rfl⟩, q⟩ ⟨.str y, H1, I1.tok _, ⟨_, rfl⟩, q⟩ hz
  · obtain ⟨t, rfl⟩ := r1
    exact wpAny_formatField_int hz ⟨.str (toString i), H1, I1.tok _, ⟨_, rfl⟩, q⟩
  · cases r1
    exact wpAny_formatField_bool ⟨.str (if b then "True" else "False"), H1, I1.tok _, ⟨_, rfl⟩, q⟩
end
end L2
set_option maxHeartbeats 2000000
namespace Own
open PySem PySem.Spec PyProof.Rows L2 RT HT ItX
/-! ### d == {} -/
section
variable {X : Cx}
def rEqEmp : R2 := fun x y H Q => ∃ a b ks, x = .ref a ∧ y = .ref b ∧ H a = some (.dK ks) ∧ H b = some (.dK []) ∧ Q (.bl ks.isEmpty) H
theorem op_eqEmp (hu : X.A.units < cLine) : OpR X (compareOp .Eq) rEqEmp := by
  intro pn t τ G p r vp vr Q J kp kr
  rintro ⟨a, b, ks, rfl, rfl, ea, eb, q⟩
  cases (show vp = Value.ref a from kp)
  cases (show vr = Value.ref b from kr)
  obtain ⟨_, ya, wa, ra, da⟩ := (show ObjOk X.prog X.w G t.heap a (.dK ks) from J.hok a _ ea)
  obtain ⟨_, yb, wb, rb, db⟩ := (show ObjOk X.prog X.w G t.heap b (.dK []) from J.hok b _ eb)
  have lb : wb.length = 0 := rb.length.symm
  have la : ks.length = wa.length := ra.length
  refine PySem.W.keq_eq (knd := mixKind X.prog X.w) (r := true) ya yb da db hu (fun e => ?_) ⟨.bl ks.isEmpty, G, J, ?_, q⟩
  · have w0 : wa = [] := List.eq_nil_of_length_eq_zero (e.trans lb)
    rw [w0]
    exact .nil
  · show Value.bool _ = Value.bool _
    rw [lb, ← la, Bool.and_true]
    cases ks <;> rfl
end
/-! ### a def whose promise may speak of how many objects stood when it was called -/
structure FnOkN (P : Program) (w : World) (K : PySem.W.Frag) (mg : Str → Option Value) (base : Heap) (k : Nat) (f : Addr) (fd : FuncData) (ps : List Str) (sp : Nat → Sp) : Prop where
  len : ∀ n vs F Q E, sp n vs F Q E → vs.length = ps.length
  run : ∀ (A : Around) (out : List Env) (s : Shared) (F : Hp) (us : List Value) (vs : List V) (Q : VK) (E : XK), Room k A → Env0 P w K mg base A out s F → BindsTo s fd ⟨us, []⟩ (ps.zip us) → Vals vs us →
    sp s.heap.objs.size vs F Q E → codeAny (model P w) A (.call (.ref f) ⟨us, []⟩) (CR CX0 out P w F s Q E) s
theorem okN {P : Program} {w : World} {K : PySem.W.Frag} {mg : Str → Option Value} {base : Heap} {x qual : Str} {st : Stmt} {f : Addr} {fd : FuncData} {N ps : List Str} {k : Nat} {sp : Nat → Sp} (D : Fun K x qual st f fd) (S : FnScope N ps (defScope st))
    (ln : ∀ n vs F Q E, sp n vs F Q E → vs.length = ps.length)
    (rd : ∀ (cdv : Value) (A : Around) (out : List Env) (s : Shared) (F : Hp) (vs : List V) (Q : VK) (E : XK), Room k (A.deeper (envOfC qual (defScope st) s.heap.objs.size f cdv)) → sp s.heap.objs.size vs F Q E →
      ∃ t, PSs (cxOf CX0 P w K mg base N qual (defScope st) f cdv A out s F E) (defBody st) t ∧ t { nx := fun _ F' => Q .non F', rt := Q } (start N vs) F) : FnOkN P w K mg base (k + 1) f fd ps sp := by
  obtain ⟨oc, od, kV, doc, pm, an, cdv, ct, osl, rfl, lk, cd⟩ := D.ex
  refine ⟨ln, fun A out s F us vs Q E room e0 hb rv h => ?_⟩
  have nl := ln _ _ _ _ _ h
  have KI : K.In s.heap := e0.mod.kin.keeps fun b o e => (e0.bs b o e).1
  have NL : s.heap.NoLimit := e0.mod.nolimit.keeps fun b o e => (e0.bs b o e).1
  have kinds : ∀ y ∈ ps.zip us, (defScope st).names.lookup y.1 = some .local ∨ ((defScope st).names.lookup y.1 = some .cell ∧ ((cellsFrom (s.heap.objs.size + 1) (defScope st).names []).lookup y.1).isSome = true) := by
    rintro ⟨n, v⟩ hy
    rcases S.par n (List.of_mem_zip hy).1 with g | g
    · exact .inl g
    · exact .inr ⟨g, PySem.W.cellsFrom_some _ _ _ (.inl g)⟩
  refine codeAny_call_function room.depth (KI _ _ lk) rfl S.co S.gen rfl (PySem.W.codeRec_of KI cd) (hb _ _ _ _ ?_)
  refine wpAny_newFunctionEnv_cells S.kind kinds fun en ee s1 ic => ?_
  cases ee
  refine ⟨NL.keeps ic.toInCall.keep, codeAny_func ?_⟩
  obtain ⟨t, ht, g⟩ := rd cdv A out s F vs Q E (room.deeper _) h
  refine wpAny_mono (ht.run [] s1 (start N vs) F _ (inv_start S room.hd e0 nl rv ic) g) (fun fl s' z => ?_) fun e s' z => z
  cases fl with
  | ret u =>
    obtain ⟨v, _, F', J, r1, r2⟩ := z
    exact ⟨v, F', J.os, J.bare, J.base, J.hok, r1, r2⟩
  | next =>
    obtain ⟨_, F', J, r2⟩ := z
    exact ⟨.non, F', J.os, J.bare, J.base, J.hok, rfl, r2⟩
  | brk => exact z.elim fun _ z => z.elim fun _ z => z.2.elim
  | cont => exact z.elim fun _ z => z.elim fun _ z => z.2.elim
/-! ### for x in o, o of an own class whose __iter__ gives a list's iterator -/
/-- an iterator over the list at l is made, young -/
def spGoes (n : Nat) (go : List V → Hp → Addr → Prop) : Sp := fun vs F Q _ => ∃ l, go vs F l ∧ ∀ it, F it = none → n ≤ it → Q (.ref it) (upd F it (ItO l it 0))
def iOwn (K : PySem.W.Frag) (C : Addr) (go : List V → Hp → Addr → Prop) (to : TE) : TI := fun σ F R => to σ F fun x F1 => ∃ a dx fs l zs, x = .ref a ∧ F1 a = some (.ins C dx fs) ∧ go [.ref a] F1 l ∧ SqL K F1 l zs ∧ R (ItlF K l 0) F1
theorem pi_own {X : Cx} {tg o : Expr} {to : TE} {C f : Addr} {fd : FuncData} {ps : List Str} {k : Nat} {go : List V → Hp → Addr → Prop} (ho : PE X o to) (hs : PySem.W.findIn X.K (.ref C) "__iter__" = some (some (.ref f))) (hf : PySem.W.isFn X.K (.ref f) = true)
    (G : FnOkN X.prog X.w X.K X.mg X.base k f fd ps fun n => spGoes n go) (hr : Room k X.A) (hb : Binds X.K fd ps []) (det : ∀ vs F l l', go vs F l → go vs F l' → l = l') : PI X tg o (iOwn X.K C go to) := by
  refine ⟨fun pn s σ F R J h => ?_⟩
  refine thn (ho.run pn s σ F _ J h) fun u s1 ⟨x, F1, J1, rx, a, dx, fs, l, zs, ex, ea, eg, sq, q⟩ => ?_
  subst ex
  cases (show u = Value.ref a from rx)
  obtain ⟨od, I1⟩ := ins_at J1 ea
  obtain ⟨m, hF⟩ := J1.fr
  refine PySem.W.owit_iter hF J1.ok.mod.kin I1 hs hf ?_
  have h1 : spGoes s1.heap.objs.size go [.ref a] F1 (fun v F2 => ∃ it, v = .ref it ∧ F1 it = none ∧ s1.heap.objs.size ≤ it ∧ F2 = upd F1 it (ItO l it 0)) E0 := ⟨l, eg, fun it e n => ⟨it, rfl, e, n, rfl⟩⟩
  have hl : ([Value.ref a] : List Value).length = ps.length := G.len _ _ _ _ _ h1
  have b := hb s1 [.ref a] J1.kIn (by rw [List.append_nil]; exact hl)
  rw [List.append_nil] at b
  refine wpAny_call (codeAny_mono (G.run X.A X.stack s1 F1 [.ref a] [.ref a] _ E0 hr J1.env0 b (.cons rfl .nil) h1) fun r s' hq => ?_)
  cases r with
  | error e => exact hq.elim
  | ok fl =>
    cases fl with
    | next => exact hq.elim
    | brk => exact hq.elim
    | cont => exact hq.elim
    | ret u =>
      obtain ⟨v, F2, J2, rv, it, ev, e0, n0, eF⟩ := J1.after hq
      subst ev
      cases (show u = Value.ref it from rv)
      rw [eF] at J2
      have eo := itO_get J2 (l := l) (i := 0) upd_same
      have st : s'.heap.IsListIter it l (0 + 0) := ⟨_, eo, rfl, rfl⟩
      have young : X.s_0.heap.objs.size ≤ it := Nat.le_trans J1.sz n0
      unfold PySem.W.OwitIt
      refine wpAny_specialOf (name := Str.ofString "__next__") (show s'.TypeIs (.ref it) "list_iterator" from ⟨_, eo, rfl⟩) slot_listiter_next.lookup ?_
      have hi : upd F1 it (ItO l it 0) it = some (ItO l it 0) := upd_same
      have hi' := hi
      unfold ItO at hi'
      have ed : dropH (upd F1 it (ItO l it 0)) it = F1 := dropH_upd e0
      have J3 := inv_drop J2 hi'
      have fp := inv_fp J2 hi young
      rw [ed] at J3 fp
      refine ⟨it, [it], _, _, F1, rfl, J3, turn_listF l it 0, st, fun b hb => ?_, q⟩
      have e : b = it := by simpa using hb
      rw [e]
      exact fp
end Own
set_option maxHeartbeats 2000000
namespace Own
open PySem PySem.Spec PyProof.Rows L2 RT HT ItX
/-! ### strictly ascending lists -/
structure Lin {α : Type} (lt : α → α → Prop) : Prop where
  irr : ∀ a, ¬ lt a a
  tr : ∀ a b c, lt a b → lt b c → lt a c
  tri : ∀ a b, lt a b ∨ a = b ∨ lt b a
section
variable {α : Type} {lt : α → α → Prop}
/-- p is the place of x: just what stands before p is below x -/
structure Plc (lt : α → α → Prop) (xs : List α) (x : α) (p : Nat) : Prop where
  le : p ≤ xs.length
  iff : ∀ i y, xs[i]? = some y → (lt y x ↔ i < p)
theorem plc_ex (L : Lin lt) (x : α) : ∀ {xs : List α}, xs.Pairwise lt → ∃ p, Plc lt xs x p
  | [], _ => ⟨0, Nat.le_refl _, fun i y h => by simp at h⟩
  | z :: r, h => by
    obtain ⟨h1, h2⟩ := List.pairwise_cons.mp h
    by_cases e : lt z x
    · obtain ⟨p, hp, k⟩ := plc_ex L x h2
      refine ⟨p + 1, Nat.succ_le_succ hp, fun i y hi => ?_⟩
      cases i with
      | zero => cases hi; exact ⟨fun _ => Nat.succ_pos _, fun _ => e⟩
      | succ i => exact (k i y hi).trans ⟨fun z => Nat.succ_lt_succ z, fun z => Nat.lt_of_succ_lt_succ z⟩
    · refine ⟨0, Nat.zero_le _, fun i y hi => ⟨fun hy => ?_, fun z => absurd z (Nat.not_lt_zero _)⟩⟩
      cases i with
      | zero => cases hi; exact absurd hy e
      | succ i => exact absurd (L.tr _ _ _ (h1 y (List.mem_of_getElem? (i := i) hi)) hy) e
theorem plc_perm (xs : List α) (x : α) (p : Nat) : (xs.take p ++ [x] ++ xs.drop p).Perm (x :: xs) := by
  rw [List.append_assoc]
  refine List.perm_middle.trans (List.Perm.cons _ ?_)
  show (xs.take p ++ xs.drop p).Perm xs
  rw [List.take_append_drop]
theorem plc_ins (L : Lin lt) {xs : List α} {x : α} {p : Nat} (h : xs.Pairwise lt) (hx : x ∉ xs) (k : Plc lt xs x p) : (xs.take p ++ [x] ++ xs.drop p).Pairwise lt := by
  have h1 : ∀ y ∈ xs.take p, lt y x := fun y hy => by
    obtain ⟨i, hi⟩ := List.getElem?_of_mem hy
    rw [List.getElem?_take] at hi
    split at hi
    · next z => exact (k.iff i y hi).mpr z
    · cases hi
  have h2 : ∀ y ∈ xs.drop p, lt x y := fun y hy => by
    obtain ⟨i, hi⟩ := List.getElem?_of_mem hy
    rw [List.getElem?_drop] at hi
    rcases L.tri y x with e | e | e
    · have := (k.iff _ y hi).mp e; omega
    · exact absurd (e ▸ List.mem_of_getElem? hi) hx
    · exact e
  rw [List.append_assoc]
  refine List.pairwise_append.mpr ⟨h.sublist (List.take_sublist _ _), List.pairwise_cons.mpr ⟨h2, h.sublist (List.drop_sublist _ _)⟩, fun a ha b hb => ?_⟩
  rcases List.mem_cons.mp (show b ∈ x :: xs.drop p from hb) with rfl | hb
  · exact h1 a ha
  · exact L.tr _ _ _ (h1 a ha) (h2 b hb)
theorem plc_at (L : Lin lt) {xs : List α} {x : α} {p : Nat} (h : xs.Pairwise lt) (hx : x ∈ xs) (k : Plc lt xs x p) : xs[p]? = some x := by
  obtain ⟨j, hj⟩ := List.getElem?_of_mem hx
  have hl : j < xs.length := (List.getElem?_eq_some_iff.mp hj).1
  have e : xs[j] = x := (List.getElem?_eq_some_iff.mp hj).2
  have n1 : ¬ j < p := fun z => L.irr x ((k.iff j x hj).mpr z)
  have n2 : ¬ p < j := fun z => by
    have hp : xs[p]? = some xs[p] := List.getElem?_eq_getElem (by omega)
    have := List.pairwise_iff_getElem.mp h p j (by omega) hl z
    rw [e] at this
    exact Nat.lt_irrefl _ ((k.iff p _ hp).mp this)
  have : p = j := by omega
  rw [this]; exact hj
theorem cut_perm : ∀ {xs : List α} {x : α} {p : Nat}, xs[p]? = some x → xs.Perm (x :: xs.eraseIdx p)
  | [], _, _, h => by simp at h
  | y :: r, x, 0, h => by cases h; exact List.Perm.refl _
  | y :: r, x, p + 1, h => ((cut_perm (show r[p]? = some x from h)).cons y).trans (List.Perm.swap _ _ _)
theorem srt_uniq (L : Lin lt) : ∀ {xs ys : List α}, xs.Pairwise lt → ys.Pairwise lt → xs.Perm ys → xs = ys
  | [], ys, _, _, h => (List.nil_perm.mp h).symm
  | x :: r, [], _, _, h => absurd h.symm (fun z => by cases List.nil_perm.mp z)
  | x :: r, y :: t, h1, h2, h => by
    obtain ⟨a1, a2⟩ := List.pairwise_cons.mp h1
    obtain ⟨b1, b2⟩ := List.pairwise_cons.mp h2
    have e : x = y := by
      rcases List.mem_cons.mp (h.subset List.mem_cons_self) with e | m
      · exact e
      · rcases List.mem_cons.mp (h.symm.subset List.mem_cons_self) with e | m2
        · exact e.symm
        · exact absurd (L.tr _ _ _ (a1 y m2) (b1 x m)) (L.irr x)
    subst e
    rw [srt_uniq L a2 b2 h.cons_inv]
end
abbrev ltI (a b : Int) : Prop := a < b
theorem linI : Lin ltI := ⟨fun a => Int.lt_irrefl a, fun a b c => Int.lt_trans, fun a b => by show a < b ∨ a = b ∨ b < a; omega⟩
def lx (a b : Int × Int) : Prop := a.1 < b.1 ∨ (a.1 = b.1 ∧ a.2 < b.2)
theorem linX : Lin lx := ⟨fun a h => by unfold lx at h; omega, fun a b c h k => by unfold lx at *; omega, fun a b => by
  obtain ⟨a1, a2⟩ := a
  obtain ⟨b1, b2⟩ := b
  show (a1 < b1 ∨ a1 = b1 ∧ a2 < b2) ∨ (a1, a2) = (b1, b2) ∨ (b1 < a1 ∨ b1 = a1 ∧ b2 < a2)
  by_cases h : a1 = b1
  · by_cases k : a2 = b2
    · subst h k; exact .inr (.inl rfl)
    · omega
  · omega⟩
theorem le_lt {xs : List Int} (h : xs.Pairwise (· ≤ ·)) (n : xs.Nodup) : xs.Pairwise ltI := by
  refine (h.and n).imp fun {a b} k => ?_
  have := k.1; have := k.2; show a < b; omega
/-! ### numbers with weights: a dict, and its two ascending lists -/
abbrev Wts := List (Int × Int)
def dkv (D : Wts) : List (Key × V) := D.map fun e => ((.inl e.1 : Key), V.int e.2)
def keysW (D : Wts) : List Int := D.map (·.1)
def flipW (D : Wts) : List (Int × Int) := D.map fun e => (e.2, e.1)
theorem dkv_keys (D : Wts) : (dkv D).map (·.1) = (keysW D).map Sum.inl := by unfold dkv keysW; rw [List.map_map, List.map_map]; rfl
theorem dkv_nd {D : Wts} (h : (keysW D).Nodup) : ((dkv D).map (·.1)).Nodup := by
  rw [dkv_keys]
  exact List.Pairwise.map _ (fun a b h z => h (Sum.inl.inj z)) h
theorem dkv_val {D : Wts} (h : (keysW D).Nodup) {e : Int × Int} (m : e ∈ D) : valV (dkv D) (.inl e.1) = some (.int e.2) := val_of_mem (e := ((.inl e.1 : Key), V.int e.2)) (dkv_nd h) (List.mem_map_of_mem (f := fun e : Int × Int => ((.inl e.1 : Key), V.int e.2)) m)
theorem dkv_none {D : Wts} {n : Int} (h : n ∉ keysW D) : valV (dkv D) (.inl n) = none := val_not fun z => by
  rw [dkv_keys] at z
  obtain ⟨x, hx, e⟩ := List.mem_map.mp z
  cases e
  exact h hx
theorem dkv_len (D : Wts) : (dkv D).length = D.length := List.length_map _
theorem keysW_len (D : Wts) : (keysW D).length = D.length := List.length_map _
theorem flipW_len (D : Wts) : (flipW D).length = D.length := List.length_map _
theorem dkv_add {D : Wts} {n w : Int} (h : n ∉ keysW D) : putK (dkv D) (.inl n) (.int w) = dkv (D ++ [(n, w)]) := by
  rw [putK_new _ (dkv_none h)]; unfold dkv; rw [List.map_append]; rfl
def cutW (D : Wts) (n : Int) : Wts := D.filter fun e => decide (e.1 ≠ n)
theorem dkv_cut (n : Int) : ∀ D : Wts, dropK (dkv D) (.inl n) = dkv (cutW D n)
  | [] => rfl
  | e :: r => by
    show dropK (((.inl e.1 : Key), V.int e.2) :: dkv r) (.inl n) = dkv (cutW (e :: r) n)
    unfold cutW
    rw [List.filter_cons]
    by_cases h : e.1 = n
    · rw [dropK_pos (congrArg Sum.inl h), if_neg (by simp [h])]
      exact dkv_cut n r
    · rw [dropK_neg (fun z => h (Sum.inl.inj z)), if_pos (by simp [h]), dkv_cut n r]
      rfl
theorem cutW_no {n : Int} : ∀ {D : Wts}, n ∉ keysW D → cutW D n = D
  | [], _ => rfl
  | e :: r, h => by
    have h1 : ¬ e.1 = n := fun z => h (by rw [← z]; exact List.mem_cons_self)
    unfold cutW
    rw [List.filter_cons, if_pos (by simp [h1])]
    exact congrArg _ (cutW_no fun z => h (List.mem_cons_of_mem _ z))
theorem cutW_perm {n w : Int} : ∀ {D : Wts}, (keysW D).Nodup → (n, w) ∈ D → D.Perm ((n, w) :: cutW D n)
  | [], _, m => by cases m
  | e :: r, h, m => by
    have h : e.1 ∉ keysW r ∧ (keysW r).Nodup := List.nodup_cons.mp h
    rcases List.mem_cons.mp m with rfl | m
    · unfold cutW
      rw [List.filter_cons, if_neg (by simp)]
      show List.Perm _ (_ :: cutW r n)
      rw [cutW_no h.1]
    · have hn : ¬ e.1 = n := fun z => h.1 (by rw [z]; exact List.mem_map_of_mem (f := Prod.fst) m)
      unfold cutW
      rw [List.filter_cons, if_pos (by simp [hn])]
      exact ((cutW_perm h.2 m).cons e).trans (List.Perm.swap _ _ _)
theorem cutW_nd {D : Wts} {n : Int} (h : (keysW D).Nodup) : (keysW (cutW D n)).Nodup := h.sublist ((List.filter_sublist (p := fun e : Int × Int => decide (e.1 ≠ n))).map _)
theorem cutW_sub {D : Wts} {n : Int} {e : Int × Int} (h : e ∈ cutW D n) : e ∈ D := (List.mem_filter.mp h).1
/-- what stands: both lists ascend and have what the dict has -/
structure Srt (D : Wts) (ns : List Int) (ws : List (Int × Int)) : Prop where
  nd : (keysW D).Nodup
  sn : ns.Pairwise ltI
  pn : ns.Perm (keysW D)
  sw : ws.Pairwise lx
  pw : ws.Perm (flipW D)
theorem Srt.nil : Srt [] [] [] := ⟨List.nodup_nil, .nil, .nil, .nil, .nil⟩
theorem Srt.lenN {D : Wts} {ns : List Int} {ws : List (Int × Int)} (S : Srt D ns ws) : ns.length = D.length := S.pn.length_eq.trans (keysW_len D)
theorem Srt.lenW {D : Wts} {ns : List Int} {ws : List (Int × Int)} (S : Srt D ns ws) : ws.length = D.length := S.pw.length_eq.trans (flipW_len D)
theorem Srt.add {D : Wts} {ns : List Int} {ws : List (Int × Int)} {n w : Int} {p q : Nat} (S : Srt D ns ws) (h : n ∉ keysW D) (k1 : Plc ltI ns n p) (k2 : Plc lx ws (w, n) q) : Srt (D ++ [(n, w)]) (ns.take p ++ [n] ++ ns.drop p) (ws.take q ++ [(w, n)] ++ ws.drop q) where
  nd := by
    unfold keysW; rw [List.map_append]
    exact List.nodup_append.mpr ⟨S.nd, List.pairwise_singleton _ _, fun a ha b hb z => h (by have hb : b = n := List.mem_singleton.mp hb; rw [← hb, ← z]; exact ha)⟩
  sn := plc_ins linI S.sn (fun z => h (S.pn.subset z)) k1
  pn := (plc_perm _ _ _).trans ((S.pn.cons _).trans (by unfold keysW; rw [List.map_append]; exact (List.perm_append_singleton _ _).symm))
  sw := plc_ins linX S.sw (fun z => h (by
    obtain ⟨e, he, ee⟩ := List.mem_map.mp (S.pw.subset z)
    cases ee
    exact List.mem_map_of_mem (f := Prod.fst) he)) k2
  pw := (plc_perm _ _ _).trans ((S.pw.cons _).trans (by unfold flipW; rw [List.map_append]; exact (List.perm_append_singleton _ _).symm))
theorem Srt.cut {D : Wts} {ns : List Int} {ws : List (Int × Int)} {n w : Int} {p q : Nat} (S : Srt D ns ws) (m : (n, w) ∈ D) (k1 : ns[p]? = some n) (k2 : ws[q]? = some (w, n)) : Srt (cutW D n) (ns.eraseIdx p) (ws.eraseIdx q) where
  nd := cutW_nd S.nd
  sn := S.sn.sublist (List.eraseIdx_sublist _ _)
  pn := ((cut_perm k1).symm.trans (S.pn.trans ((cutW_perm S.nd m).map Prod.fst))).cons_inv
  sw := S.sw.sublist (List.eraseIdx_sublist _ _)
  pw := ((cut_perm k2).symm.trans (S.pw.trans (List.Perm.map (fun e : Int × Int => (e.2, e.1)) (cutW_perm S.nd m)))).cons_inv
theorem Srt.uniqN {D : Wts} {ns : List Int} {ws : List (Int × Int)} (S : Srt D ns ws) {ys : List Int} (h : ys.Pairwise (· ≤ ·)) (p : ys.Perm (keysW D)) : ys = ns :=
  srt_uniq linI (le_lt h (p.nodup_iff.mpr S.nd)) S.sn (p.trans S.pn.symm)
/-! ### the number that is due -/
def Due57 (b : Bool) (D : Wts) (r : Int) : Prop := ∃ w, (r, w) ∈ D ∧ if b = true then ∀ e ∈ D, ¬ lx (e.2, e.1) (w, r) else ∀ e ∈ D, r ≤ e.1
theorem due_uniq {b : Bool} {D : Wts} (nd : (keysW D).Nodup) {r r' : Int} (h : Due57 b D r) (h' : Due57 b D r') : r = r' := by
  obtain ⟨w, m, k⟩ := h
  obtain ⟨w', m', k'⟩ := h'
  cases b with
  | true =>
    rw [if_pos rfl] at k k'
    have a := k _ m'
    have b := k' _ m
    unfold lx at a b
    dsimp only at a b
    omega
  | false =>
    rw [if_neg Bool.false_ne_true] at k k'
    have a := k _ m'
    have b := k' _ m
    dsimp only at a b
    omega
theorem head_min {α : Type} {lt : α → α → Prop} (L : Lin lt) {xs : List α} {x : α} (h : xs.Pairwise lt) (e : xs[0]? = some x) : ∀ y ∈ xs, ¬ lt y x := by
  cases xs with
  | nil => cases e
  | cons z r =>
    cases e
    intro y hy k
    rcases List.mem_cons.mp hy with rfl | hy
    · exact L.irr _ k
    · exact L.irr _ (L.tr _ _ _ ((List.pairwise_cons.mp h).1 y hy) k)
theorem Srt.dueW {D : Wts} {ns : List Int} {ws : List (Int × Int)} (S : Srt D ns ws) {w r : Int} (e : ws[0]? = some (w, r)) : (r, w) ∈ D ∧ Due57 true D r := by
  have m : (r, w) ∈ D := by
    obtain ⟨p, hp, ee⟩ := List.mem_map.mp (S.pw.subset (List.mem_of_getElem? e))
    cases ee; exact hp
  refine ⟨m, w, m, ?_⟩
  rw [if_pos rfl]
  intro p hp
  exact head_min linX S.sw e _ (S.pw.symm.subset (List.mem_map_of_mem (f := fun e : Int × Int => (e.2, e.1)) hp))
theorem Srt.dueN {D : Wts} {ns : List Int} {ws : List (Int × Int)} (S : Srt D ns ws) {r : Int} (e : ns[0]? = some r) : ∃ w, (r, w) ∈ D ∧ Due57 false D r := by
  obtain ⟨⟨r', w⟩, hp, ee⟩ := List.mem_map.mp (S.pn.subset (List.mem_of_getElem? e))
  cases ee
  refine ⟨w, hp, w, hp, ?_⟩
  rw [if_neg Bool.false_ne_true]
  intro p hp
  have := head_min linI S.sn e _ (S.pn.symm.subset (List.mem_map_of_mem (f := Prod.fst) hp))
  have : ¬ p.1 < r' := this
  show r' ≤ p.1
  omega
end Own
namespace Own
open PySem PySem.Spec PyProof.Rows L2 RT HT ItX
/-! ### a test's, an expression's reading cut: what holds behind it is said once -/
def tCutT (t : TT) : TT := fun σ F Q => ∃ M : Bool → Hp → Prop, t σ F M ∧ ∀ b F', M b F' → Q b F'
theorem pt_cut {X : Cx} {e : Expr} {t : TT} (h : PT X e t) : PT X e (tCutT t) :=
  ⟨fun pn s σ F Q J ⟨M, m, k⟩ => thn (h.run pn s σ F M J m) fun b s1 ⟨F1, J1, z⟩ => ⟨F1, J1, k b F1 z⟩⟩
def tCutE (t : TE) : TE := fun σ F Q => ∃ M : VK, t σ F M ∧ ∀ v F', M v F' → Q v F'
theorem pe_cut {X : Cx} {e : Expr} {t : TE} (h : PE X e t) : PE X e (tCutE t) :=
  ⟨fun pn s σ F Q J ⟨M, m, k⟩ => thn (h.run pn s σ F M J m) fun u s1 ⟨v, F1, J1, r, z⟩ => ⟨v, F1, J1, r, k v F1 z⟩⟩
end Own
set_option maxHeartbeats 2000000
namespace Own
open PySem PySem.Spec PyProof.Rows L2 RT HT ItX
/-! ### arguments cut: their reading is monotone whatever they are -/
def tCutA (t : TA) : TA := fun σ F Q => ∃ M : List V → Hp → Prop, t σ F M ∧ ∀ vs F', M vs F' → Q vs F'
theorem pa_cut {X : Cx} {es : List Expr} {t : TA} (h : PA X es t) : PA X es (tCutA t) :=
  ⟨fun pos pn s σ F Q J ⟨M, m, k⟩ => thn (h.run pos pn s σ F M J m) fun us s1 ⟨vs, F1, J1, r, z⟩ => ⟨vs, F1, J1, r, k vs F1 z⟩⟩
theorem mono_cut {t : TA} {P Q : List V → Hp → Prop} (hm : ∀ vs H, P vs H → Q vs H) {σ : L2.St} {H : Hp} (h : tCutA t σ H P) : tCutA t σ H Q := by
  obtain ⟨M, m, k⟩ := h
  exact ⟨M, m, fun vs F z => hm _ _ (k vs F z)⟩
/-! ### C(e, ..) and C(k = v, ..) where __init__ may raise -/
section
variable {X : Cx} {CX : CXT} {k n : Nat} {f C : Addr} {fd : FuncData} {ps ks : List Str} {sp : Sp} {E : L2.St → XK} {x : Str} {p pos : Pos} {e : Expr} {es : List Expr} {kws : List Keyword} {t tk : TA} {g : List Value → List Value → List Value} {gV : List V → List V → List V} {σ : L2.St}
theorem run_makeE {pn : List (Addr × Obj)} {F : Hp} {s : Shared} {Q : VK} {us ws : List Value} {vs zs : List V} (M : Mk X.K C f) (G : FnOk X.prog X.w X.K X.mg X.base CX k f fd ps sp) (hr : Room (k + 1) X.A) (hb : KBn X.K fd ps (n + 1) ks g gV) (hx : PassesAt CX X σ (E σ))
    (J : Inv X pn σ F s) (rv : Vals vs us) (rz : Vals zs ws) (n1 : vs.length = n) (n2 : zs.length = ks.length)
    (h : ∀ a da, F a = none → F da = none → da ≠ a → sp (gV (.ref a :: vs) zs) (upd (upd F da (.own a)) a (.ins C da [])) (fun v F2 => v = .non ∧ Q (.ref a) F2) (E σ)) :
    wpAny (model X.prog X.w) X.A (call (.ref C) us (ks.zip ws)) (EP X pn σ Q) X.xe s := by
  have q0 := h (s.heap.objs.size + 1) s.heap.objs.size (J.hok.fresh (Nat.le_succ _)) (J.hok.fresh (Nat.le_refl _)) (Nat.ne_of_lt (Nat.lt_succ_self _))
  have J2 := Inv.made (C := C) J
  have rv1 : Vals (V.ref (s.heap.objs.size + 1) :: vs) (Value.ref (s.heap.objs.size + 1) :: us) := .cons rfl rv
  have rv2 := hb.rel rv1 rz
  have m1 : (Value.ref (s.heap.objs.size + 1) :: us).length = n + 1 := by rw [List.length_cons, ← rv.length, n1]
  have b := hb.to _ (Value.ref (s.heap.objs.size + 1) :: us) ws J2.kIn m1 (rz.length.symm.trans n2)
  have e0 := J2.env0.make C us (ks.zip ws)
  have run := G.run _ X.stack _ _ ⟨Value.ref (s.heap.objs.size + 1) :: us, ks.zip ws⟩ _ _ _ (E σ) (hr.make C us (ks.zip ws)) e0 b rv2 q0
  refine wpAny_call (make_map (f := f) J.kIn M.makes M.init (beq_iff_eq.mp M.fn) (codeAny_mono run fun r s' hq' => ?_))
  cases r with
  | error er => exact hx pn _ _ er s' J2 hq'
  | ok fl =>
    cases fl with
    | next => exact hq'.elim
    | brk => exact hq'.elim
    | cont => exact hq'.elim
    | ret u =>
      obtain ⟨v, F', J3, rr, ev, q3⟩ := J2.after hq'
      subst ev
      exact ⟨rr, ⟨V.ref (s.heap.objs.size + 1), F', J3, rfl, q3⟩⟩
def tMakeE (C : Addr) (n m : Nat) (sp : Sp) (gV : List V → List V → List V) (E : L2.St → XK) (t tk : TA) : TE := fun σ F Q => t σ F fun vs F1 => tk σ F1 fun zs F2 => vs.length = n ∧ zs.length = m ∧ ∀ a da, F2 a = none → F2 da = none → da ≠ a →
  sp (gV (.ref a :: vs) zs) (upd (upd F2 da (.own a)) a (.ins C da [])) (fun v F3 => v = .non ∧ Q (.ref a) F3) (E σ)
theorem pe_makeE0 (M : Mk X.K C f) (G : FnOk X.prog X.w X.K X.mg X.base CX k f fd ps sp) (hr : Room (k + 1) X.A) (hg : Gl X x) (hm : X.mg x = some (.ref C)) (hb : KBn X.K fd ps 1 ks g gV) (hx : ∀ σ, PassesAt CX X σ (E σ)) (hkw : PK X kws tk)
    (h1 : (backToKw pos (keywordEach kws X.env)).all (·.1.isSome) = true := by rfl) (h2 : (backToKw pos (keywordEach kws X.env)).filterMap (·.1) = ks := by rfl) (h3 : (x == ("__debug__" : Str)) = false := by decide)
    (h4 : ((backTo pos (starEach [] X.env)).any (·.1) || (backToKw pos (keywordEach kws X.env)).any (·.1.isNone)) = false := by rfl) :
    PE X (.Call (.Name x p) [] kws pos) (tMakeE C 0 ks.length sp gV E tNil tk) := by
  refine ⟨fun pn s σ F Q J h => wpAny_Call_Name_kw (ld_glob J hg hm ?_ h3)⟩
  refine PySem.W.callWith_KW0 (h₀ := X.base) J.ok.mod.kin M.kp h1 ?_ h4
  refine thn (hkw.run pos pn s σ F _ J h) fun ws s2 ⟨zs, F2, J2, rz, n1, n2, q⟩ => ⟨J2.kIn, ?_⟩
  rw [h2]
  exact run_makeE (us := []) (vs := []) M G hr hb (hx σ) J2 .nil rz rfl n2 q
end
section
variable {X : Cx} {CX : CXT} {k : Nat} {f C : Addr} {fd : FuncData} {ps : List Str} {sp : Sp} {E : L2.St → XK} {x : Str} {p pos : Pos} {e : Expr} {es : List Expr} {t : TA}
def tMakeP (C : Addr) (sp : Sp) (E : L2.St → XK) (t : TA) : TE := fun σ F Q => t σ F fun vs F1 => ∀ a da, F1 a = none → F1 da = none → da ≠ a → sp (.ref a :: vs) (upd (upd F1 da (.own a)) a (.ins C da [])) (fun v F3 => v = .non ∧ Q (.ref a) F3) (E σ)
theorem pe_makeP (M : Mk X.K C f) (G : FnOk X.prog X.w X.K X.mg X.base CX k f fd ps sp) (hr : Room (k + 1) X.A) (hg : Gl X x) (hm : X.mg x = some (.ref C)) (hb : Binds X.K fd ps []) (hx : ∀ σ, PassesAt CX X σ (E σ)) (ha : PA X (e :: es) t)
    (h3 : (x == ("__debug__" : Str)) = false := by decide) (he : starEach (e :: es) X.env = (false, eval e X.env) :: starEach es X.env := by rfl) (hpl : (backTo pos (starEach es X.env)).any (·.1) = false := by rfl) :
    PE X (.Call (.Name x p) (e :: es) [] pos) (tMakeP C sp E t) := by
  refine ⟨fun pn s σ F Q J h => wpAny_Call_Name_kw (ld_glob J hg hm ?_ h3)⟩
  refine PySem.W.callWith_K (h₀ := X.base) J.ok.mod.kin M.kp (thn (ha.run pos pn s σ F _ J h) fun us s1 ⟨vs, F1, J1, rv, q⟩ => ⟨J1.kIn, ?_⟩) he hpl
  have q0 := q (s1.heap.objs.size + 1) s1.heap.objs.size (J1.hok.fresh (Nat.le_succ _)) (J1.hok.fresh (Nat.le_refl _)) (Nat.ne_of_lt (Nat.lt_succ_self _))
  have J2 := Inv.made (C := C) J1
  have rv1 : Vals (V.ref (s1.heap.objs.size + 1) :: vs) (Value.ref (s1.heap.objs.size + 1) :: us) := .cons rfl rv
  have hl : (Value.ref (s1.heap.objs.size + 1) :: us ++ []).length = ps.length := by
    rw [List.append_nil, ← rv1.length]
    exact G.len _ _ _ _ q0
  have b := hb _ (Value.ref (s1.heap.objs.size + 1) :: us) J2.kIn hl
  rw [List.append_nil] at b
  have run := G.run _ X.stack _ _ ⟨Value.ref (s1.heap.objs.size + 1) :: us, []⟩ _ _ _ (E σ) (hr.make C us []) (J2.env0.make C us []) b rv1 q0
  refine wpAny_call (make_map (f := f) J1.kIn M.makes M.init (beq_iff_eq.mp M.fn) (codeAny_mono run fun r s' hq' => ?_))
  cases r with
  | error er => exact hx σ pn _ _ er s' J2 hq'
  | ok fl =>
    cases fl with
    | next => exact hq'.elim
    | brk => exact hq'.elim
    | cont => exact hq'.elim
    | ret u =>
      obtain ⟨v, F', J3, rr, ev, q3⟩ := J2.after hq'
      subst ev
      exact ⟨rr, ⟨V.ref (s1.heap.objs.size + 1), F', J3, rfl, q3⟩⟩
end
/-! ### != of two dicts that hold the same flat things, one of them locked maybe -/
section
variable {X : Cx}
def rNeRd : R2 := fun x y H Q => ∃ a b ks ls, x = .ref a ∧ y = .ref b ∧ Rd H a (.dK ks) ∧ Rd H b (.dK ls) ∧ ks.length = ls.length ∧ (∀ p ∈ ks, valV ls p.1 = some p.2 ∧ flatB p.2 = true) ∧ Q (.bl false) H
theorem op_neRd (hu : X.A.units < cLine) : OpR X (compareOp .NotEq) rNeRd := by
  intro pn t τ G p r vp vr Q J kp kr
  rintro ⟨a, b, ks, ls, rfl, rfl, ea, eb, hlen, hp, q⟩
  cases (show vp = Value.ref a from kp)
  cases (show vr = Value.ref b from kr)
  obtain ⟨_, ya, wa, ra, da⟩ := dk_rd J.hok ea
  obtain ⟨_, yb, wb, rb, db⟩ := dk_rd J.hok eb
  have el : wa.length = wb.length := ra.length.symm.trans (hlen.trans rb.length)
  refine PySem.W.keq_ne (knd := mixKind X.prog X.w) (r := true) ya yb da db hu (fun _ => hits_all rb ra hp) ?_
  rw [el, beq_self_eq_true]
  exact ⟨.bl false, G, J, rfl, q⟩
end
end Own
set_option maxHeartbeats 2000000
namespace Own
open PySem PySem.Spec PyProof.Rows L2 RT HT ItX
/-! ### repr of data, where no repr is under way -/
section
variable {X : Cx}
def rReprD (K : PySem.W.Frag) : List V → Hp → VK → Prop := fun xs H Q => ∃ (a : Addr) (d : PyData), xs = [.ref a] ∧ Dp K H (.ref a) d ∧ d.showable = true ∧ d.hasDict = false ∧ d.depth ≤ 64 ∧ d.shown.length ≤ sizeLine ∧ Q (.str d.shown) H
theorem call_reprD (hg : X.A.guards = some []) (hu : X.A.units + 70 < cLine) : CallR X (.builtin "repr") (rReprD X.K) := by
  intro pn s σ F xs us Q J r h
  obtain ⟨a, d, rfl, hd, hs, hn, hz, hl, q⟩ := h
  obtain ⟨u, rfl, ru⟩ := vals1 r
  obtain ⟨as, rd⟩ := Dp.reads J d (.ref a) u hd ru
  cases (show u = Value.ref a from ru)
  exact repr_of_reads' rd hs (PyData.noDict_hsm hn) hg (by omega) (fun _ _ e => e) (fun h' v tk hk => ⟨.str d.shown, F, J.kept (t' := tk) hk, ⟨_, rfl⟩, q⟩) hl
end
/-! ### a def whose promise may speak of where it is called -/
structure FnOkA (P : Program) (w : World) (K : PySem.W.Frag) (mg : Str → Option Value) (base : Heap) (k : Nat) (f : Addr) (fd : FuncData) (ps : List Str) (sp : Around → Sp) : Prop where
  len : ∀ A vs F Q E, sp A vs F Q E → vs.length = ps.length
  run : ∀ (A : Around) (out : List Env) (s : Shared) (F : Hp) (us : List Value) (vs : List V) (Q : VK) (E : XK), Room k A → Env0 P w K mg base A out s F → BindsTo s fd ⟨us, []⟩ (ps.zip us) → Vals vs us →
    sp A vs F Q E → codeAny (model P w) A (.call (.ref f) ⟨us, []⟩) (CR CX0 out P w F s Q E) s
theorem okA {P : Program} {w : World} {K : PySem.W.Frag} {mg : Str → Option Value} {base : Heap} {x qual : Str} {st : Stmt} {f : Addr} {fd : FuncData} {N ps : List Str} {k : Nat} {sp : Around → Sp} (D : Fun K x qual st f fd) (S : FnScope N ps (defScope st))
    (ln : ∀ A vs F Q E, sp A vs F Q E → vs.length = ps.length)
    (rd : ∀ (cdv : Value) (A : Around) (out : List Env) (s : Shared) (F : Hp) (vs : List V) (Q : VK) (E : XK), Room k (A.deeper (envOfC qual (defScope st) s.heap.objs.size f cdv)) → sp A vs F Q E →
      ∃ t, PSs (cxOf CX0 P w K mg base N qual (defScope st) f cdv A out s F E).nox (defBody st) t ∧ t { nx := fun _ F' => Q .non F', rt := Q } (start N vs) F) : FnOkA P w K mg base (k + 1) f fd ps sp := by
  obtain ⟨oc, od, kV, doc, pm, an, cdv, ct, osl, rfl, lk, cd⟩ := D.ex
  refine ⟨ln, fun A out s F us vs Q E room e0 hb rv h => ?_⟩
  have nl := ln _ _ _ _ _ h
  have KI : K.In s.heap := e0.mod.kin.keeps fun b o e => (e0.bs b o e).1
  have NL : s.heap.NoLimit := e0.mod.nolimit.keeps fun b o e => (e0.bs b o e).1
  have kinds : ∀ y ∈ ps.zip us, (defScope st).names.lookup y.1 = some .local ∨ ((defScope st).names.lookup y.1 = some .cell ∧ ((cellsFrom (s.heap.objs.size + 1) (defScope st).names []).lookup y.1).isSome = true) := by
    rintro ⟨n, v⟩ hy
    rcases S.par n (List.of_mem_zip hy).1 with g | g
    · exact .inl g
    · exact .inr ⟨g, PySem.W.cellsFrom_some _ _ _ (.inl g)⟩
  refine codeAny_call_function room.depth (KI _ _ lk) rfl S.co S.gen rfl (PySem.W.codeRec_of KI cd) (hb _ _ _ _ ?_)
  refine wpAny_newFunctionEnv_cells S.kind kinds fun en ee s1 ic => ?_
  cases ee
  refine ⟨NL.keeps ic.toInCall.keep, codeAny_func ?_⟩
  obtain ⟨t, ht, g⟩ := rd cdv A out s F vs Q E (room.deeper _) h
  refine wpAny_mono (ht.nox.run [] s1 (start N vs) F _ (inv_start S room.hd e0 nl rv ic) g) (fun fl s' z => ?_) fun e s' z => z
  cases fl with
  | ret u =>
    obtain ⟨v, _, F', J, r1, r2⟩ := z
    exact ⟨v, F', J.os, J.bare, J.base, J.hok, r1, r2⟩
  | next =>
    obtain ⟨_, F', J, r2⟩ := z
    exact ⟨.non, F', J.os, J.bare, J.base, J.hok, rfl, r2⟩
  | brk => exact z.elim fun _ z => z.elim fun _ z => z.2.elim
  | cont => exact z.elim fun _ z => z.elim fun _ z => z.2.elim
/-! ### the end of a law whose own def asks where it is called -/
theorem law_callA {P : Program} {w : World} {K : PySem.W.Frag} {mg mb : Str → Option Value} {k : Nat} {fa a : Addr} {fd : FuncData} {x : Str} {sp : Around → Sp} {t : Shared} {us : List Value} {zs : List Int}
    (KI : K.In t.heap) (gns : t.heap.Ns mainGlobals mg) (bns : t.heap.Ns builtinsNs mb) (bbt : ∀ z : Str, z ≠ "__name__" → mb z = bootBuiltins z) (nlm : t.heap.NoLimit) (gen : t.gens = #[])
    (obj : t.heap.get? a = some { cls := .type "list", data := .seq us.toArray }) (its : IntsAre us zs) (few : zs.length ≤ sizeLine) (room : Room k callerA)
    (G : ∀ bs : Heap, K.In bs → bs.Ns mainGlobals mg → FnOkA P w K mg bs k fa fd [x] sp) (bind : ∀ (s : Shared) (u : Value), BindsTo s fd ⟨[u], []⟩ [(x, u)])
    (want : ∀ F : Hp, Only F → SqL K F a (zs.map V.int) → sp callerA [.ref a] F (fun v _ => v = .bl true) E0) :
    codeAny (model P w) callerA (.call (.ref fa) ⟨[.ref a], []⟩) (fun r s' => r = .ok (.ret (.bool true)) ∧ OldK t.heap s'.heap ∧ s'.os = t.os ∧ AllBare s'.gens) t := by
  have vi := vals_ints its
  have vl := its.length
  suffices main : ∀ F : Hp, Only F → SqL K F a (zs.map V.int) → HOk P w F t.heap → (∀ b, F b ≠ none → b = a) → (F a ≠ none → K.lookup a = none) →
      codeAny (model P w) callerA (.call (.ref fa) ⟨[.ref a], []⟩) (fun r s' => r = .ok (.ret (.bool true)) ∧ OldK t.heap s'.heap ∧ s'.os = t.os ∧ AllBare s'.gens) t by
    cases e : K.lookup a with
    | some o =>
      have eo := KI a o e
      rw [obj] at eo
      cases eo
      exact main (fun _ => none) (fun _ => .inl rfl) (.inr ⟨_, us.toArray, _, e, rfl, rfl, rfl, by rw [List.size_toArray, vl]; exact few, by simpa using vi⟩) (fun b u z => by cases (show (none : Option HO) = some u from z)) (fun _ z => absurd rfl z) fun z => absurd rfl z
    | none =>
      have at_ : ∀ b, b = a ∨ (upd (fun _ => none) a (.frz { cls := .type "list", data := .seq us.toArray } (.lst (zs.map V.int)))) b = none := fun b => by
        by_cases n : b = a
        · exact .inl n
        · exact .inr (upd_ne n)
      refine main (upd (fun _ => none) a (.frz { cls := .type "list", data := .seq us.toArray } (.lst (zs.map V.int)))) (fun b => ?_) (.inl (.inr ⟨_, upd_same⟩)) (fun b u z => ?_) (fun b z => ?_) fun _ => e
      · rcases at_ b with n | n
        · subst n; exact .inr ⟨_, _, upd_same⟩
        · exact .inl n
      · rcases at_ b with n | n
        · subst n
          rw [upd_same] at z
          cases z
          exact ⟨obj, by rw [List.length_map]; exact few, us, _, vi, obj⟩
        · rw [n] at z; cases z
      · rcases at_ b with n | n
        · exact n
        · exact absurd n z
  intro F only sq hok one free
  have hid : ∀ {b : Addr} {o : Obj}, t.heap.get? b = some o → F b = none → (hidT t.heap F).get? b = some o := fun e n => hidT_get e n
  have noD : ∀ {b : Addr} {o : Obj} {es : Array DictEntry} {ep : Nat}, t.heap.get? b = some o → o.data = .dict es ep → F b = none := fun {b o es ep} e dt => by
    cases z : F b with
    | none => rfl
    | some u =>
      have n := one b (by rw [z]; exact fun y => by cases y)
      subst n
      rw [obj] at e
      cases e
      cases (show Data.seq us.toArray _ = Data.dict es ep from dt)
  have nsH : ∀ {b : Addr} {m : Str → Option Value}, t.heap.Ns b m → (hidT t.heap F).Ns b m := fun ⟨o, es, ep, e, dt, r⟩ => ⟨o, es, ep, hid e (noD e dt), dt, r⟩
  have KH : K.In (hidT t.heap F) := fun b o e => hid (KI b o e) (by
    cases z : F b with
    | none => rfl
    | some u =>
      have n := one b (by rw [z]; exact fun y => by cases y)
      subst n
      rw [free (by rw [z]; exact fun y => by cases y)] at e
      cases e)
  have modH : Mod K mg (hidT t.heap F) := ⟨KH, nsH gns, ⟨mb, nsH bns, bbt⟩, by obtain ⟨mc, n1, n2⟩ := nlm; exact ⟨mc, nsH n1, n2⟩⟩
  have env : Env0 P w K mg (hidT t.heap F) callerA [] t F := ⟨rfl, modH, fun b o e => of_hidT e, Nat.le_of_eq (hidT_size _ _), trivial, fun b hb => absurd (show b ∈ ([] : List Addr) from hb) List.not_mem_nil, hok, .of_eq gen⟩
  refine codeAny_mono ((G _ KH (nsH gns)).run callerA [] t F [.ref a] [.ref a] _ _ room env (bind t (.ref a)) (.cons rfl .nil) (want F only sq)) fun r s' h => ?_
  cases r with
  | error e => exact h.elim
  | ok fl =>
    cases fl with
    | next => exact h.elim
    | brk => exact h.elim
    | cont => exact h.elim
    | ret u =>
      obtain ⟨v, F', os, bare, un, hok', rv, q⟩ := h
      cases (show v = .bl true from q)
      cases (show u = Value.bool true from rv)
      refine ⟨rfl, OldK.of_keep fun b o e => ?_, os, bare⟩
      cases z : F b with
      | none => exact un.keep b o e z (fun y => absurd (show b ∈ ([] : List Addr) from y) List.not_mem_nil) List.not_mem_nil
      | some u =>
        rcases only b with y | ⟨ob, xs, y⟩
        · rw [z] at y; cases y
        · obtain ⟨e1, _⟩ := hok b _ y
          obtain ⟨e2, _⟩ := hok' b _ (un.frzs b ob _ y)
          rw [e] at e1
          cases e1
          exact e2
theorem walk_ofA {l : PySem.W.OpenLaw} {n k : Nat} {q : Program} {loose : List Str} {XP : (Str → Option Value) → Heap → Prop} {YP : World → Heap → Prop} {d : DefRec} {K : Params → PySem.W.Frag} {sp : World → Around → Sp} {x : Str}
    (most : l.most = some n) (few : n ≤ sizeLine) (nodef : d.params.defaults = []) (room : Room k callerA) (yes : ∀ (w : World) (h : Heap), YP w h → (K w.params).In h)
    (G : ∀ (w : World) (mg : Str → Option Value) (fa : Addr) (h : Heap), (K w.params).In h → h.Ns mainGlobals mg → mg d.name = some (.ref fa) →
      ∃ fd : FuncData, (∀ (s : Shared) (u : Value), BindsTo s fd ⟨[u], []⟩ [(x, u)]) ∧ ∀ base : Heap, (K w.params).In base → base.Ns mainGlobals mg → FnOkA l.prog w (K w.params) mg base k fa fd [x] (sp w))
    (want : ∀ (w : World) (F : Hp) (a : Addr) (zs : List Int), zs.length ≤ n → Only F → SqL (K w.params) F a (zs.map V.int) → sp w callerA [.ref a] F (fun v _ => v = .bl true) E0) :
    PySem.W.WalkO q loose XP YP l.row.toRowW d [] (fun f vs => PySem.call f vs) := by
  refine Att.attach_call most nodef fun w s0 t mg mb fa o pm cd doc a us zs M Y ho hd hcd hmg obj its len gen => ?_
  have KI := yes w _ Y
  obtain ⟨fd, bind, H⟩ := G w mg fa _ KI M.T.g hmg
  exact law_callA KI M.T.g M.T.b M.T.builtins M.T.nolimit gen obj its (Nat.le_trans len few) room H bind fun F h1 h2 => want w F a zs len h1 h2
end Own
set_option maxHeartbeats 2000000
namespace Own
open PySem PySem.Spec PyProof.Rows L2 RT HT ItX Builtin Builtin.Str StrLaws
/-! ### texts by their signs -/
def sg (z : Str) : List Nat := z.cps.toList
theorem sg_len (z : Str) : (sg z).length = z.length := Array.length_toList
theorem sg_app (x y : Str) : sg (x ++ y) = sg x ++ sg y := by
  show (x.cps ++ y.cps).toList = _
  exact Array.toList_append
theorem sg_inj {x y : Str} (h : sg x = sg y) : x = y := by
  cases x; cases y
  exact congrArg Str.mk (Array.toList_inj.mp h)
def ofS (l : List Nat) : Str := ⟨l.toArray⟩
theorem sg_of (l : List Nat) : sg (ofS l) = l := by first | rfl | simp [sg, ofS]
theorem of_sg (z : Str) : ofS (sg z) = z := sg_inj (sg_of _)
theorem ofS_app (a b : List Nat) : ofS (a ++ b) = ofS a ++ ofS b := sg_inj (by rw [sg_of, sg_app, sg_of, sg_of])
theorem ofS_len (l : List Nat) : (ofS l).length = l.length := by rw [← sg_len, sg_of]
theorem ofS_inj {a b : List Nat} (h : ofS a = ofS b) : a = b := by rw [← sg_of a, ← sg_of b, h]
/-! ### the first place of a sign from a place on -/
theorem occ_full (s sub : Str) (hi : Nat) : ∀ (l : List Nat) (st : Array Nat × Nat), 1 ≤ st.fst.size → (forIn l st (occBody s sub hi 1)).run.fst = st.fst
  | [], st, h => rfl
  | a :: l, st, h => by
    rw [List.forIn_cons]
    unfold occBody
    rw [if_neg (fun z => by have := z.1.1.1; omega)]
    exact occ_full s sub hi l _ h
theorem occ_walk (s : Str) (c : Nat) : ∀ (n lo free : Nat), free ≤ lo → (∀ j, j < n → (sg s)[lo + j]? ≠ some c) → (forIn (List.range' lo n) ((#[] : Array Nat), free) (occBody s ⟨#[c]⟩ s.length 1)).run.fst = #[]
  | 0, lo, free, _, _ => rfl
  | n + 1, lo, free, hf, h => by
    rw [List.range'_succ, List.forIn_cons]
    unfold occBody
    rw [if_neg (fun z => h 0 (Nat.succ_pos _) (by rw [Nat.add_zero]; exact (subAt_one s c lo).mp ⟨z.1.2, z.2⟩))]
    exact occ_walk s c n (lo + 1) free (by omega) fun j hj => by
      have := h (j + 1) (by omega)
      rw [show lo + (j + 1) = lo + 1 + j by omega] at this
      exact this
theorem occ_hit (s : Str) (c : Nat) : ∀ (m n lo free : Nat), free ≤ lo → m < n → (∀ j, j < m → (sg s)[lo + j]? ≠ some c) → (sg s)[lo + m]? = some c → (forIn (List.range' lo n) ((#[] : Array Nat), free) (occBody s ⟨#[c]⟩ s.length 1)).run.fst = #[lo + m]
  | _, 0, lo, free, _, h, _, _ => absurd h (Nat.not_lt_zero _)
  | 0, n + 1, lo, free, hf, _, _, e => by
    rw [List.range'_succ, List.forIn_cons]
    unfold occBody
    have g := (subAt_one s c lo).mpr (by rw [Nat.add_zero] at e; exact e)
    rw [if_pos ⟨⟨⟨by simp, hf⟩, g.1⟩, g.2⟩]
    exact occ_full s ⟨#[c]⟩ s.length _ _ (by simp)
  | m + 1, n + 1, lo, free, hf, hm, h, e => by
    rw [List.range'_succ, List.forIn_cons]
    unfold occBody
    rw [if_neg (fun z => h 0 (Nat.succ_pos _) (by rw [Nat.add_zero]; exact (subAt_one s c lo).mp ⟨z.1.2, z.2⟩))]
    have := occ_hit s c m n (lo + 1) free (by omega) (by omega) (fun j hj => by
      have := h (j + 1) (by omega)
      rw [show lo + (j + 1) = lo + 1 + j by omega] at this
      exact this) (by rw [show lo + 1 + m = lo + (m + 1) by omega]; exact e)
    rw [show lo + (m + 1) = lo + 1 + m by omega]
    exact this
theorem from_nat (len i : Nat) : PySem.fromIndex len (i : Int) = i := by
  unfold PySem.fromIndex
  rw [if_neg (by omega)]
  omega
/-- what stands from the place on: no such sign -/
theorem find_no {s : Str} {c lo : Nat} {r : List Nat} (e : (sg s).drop lo = r) (h : c ∉ r) : Txt.find3 s ⟨#[c]⟩ (lo : Int) = -1 := by
  unfold Txt.find3
  rw [from_nat, occ_eq]
  rw [occ_walk s c _ lo lo (Nat.le_refl _) fun j _ z => h (by rw [← e]; exact List.mem_of_getElem? (i := j) (by rw [List.getElem?_drop]; exact z))]
theorem find_yes {s : Str} {c lo : Nat} {a b : List Nat} (e : (sg s).drop lo = a ++ c :: b) (h : c ∉ a) : Txt.find3 s ⟨#[c]⟩ (lo : Int) = ((lo + a.length : Nat) : Int) := by
  unfold Txt.find3
  have g : ∀ j, (sg s)[lo + j]? = (a ++ c :: b)[j]? := fun j => by rw [← e, List.getElem?_drop]
  have el : (sg s)[lo + a.length]? = some c := by rw [g, List.getElem?_append_right (Nat.le_refl _), Nat.sub_self]; rfl
  have lt := (List.getElem?_eq_some_iff.mp el).1
  rw [sg_len] at lt
  rw [from_nat, occ_eq, occ_hit s c a.length _ lo lo (Nat.le_refl _) (by omega) (fun j hj z => ?_) el]
  rw [g, List.getElem?_append_left hj] at z
  exact h (List.mem_of_getElem? z)
theorem starts_iff {s sub : Str} {lo : Nat} : Txt.startswith3 s sub (lo : Int) = decide (lo + sub.length ≤ s.length ∧ ((sg s).drop lo).take sub.length = sg sub) := by
  unfold Txt.startswith3
  rw [from_nat, subAt_eq]
  rw [Bool.eq_iff_iff, Bool.and_eq_true, decide_eq_true_iff, decide_eq_true_iff, beq_iff_eq]
  rfl
/-- the text from a place to a place -/
theorem cutS_mid {z : Str} {p w r : List Nat} (e : sg z = p ++ (w ++ r)) : cutS z (some (p.length : Int)) (some ((p.length + w.length : Nat) : Int)) = ofS w := by
  have lz : z.length = p.length + (w.length + r.length) := by rw [← sg_len, e, List.length_append, List.length_append]
  unfold cutS
  rw [HT.sIx_nat, HT.sIx_nat, show min p.length z.length = p.length by omega, show min (p.length + w.length) z.length = p.length + w.length by omega, show p.length + w.length - p.length = w.length by omega]
  show ofS (((sg z).drop p.length).take w.length) = _
  rw [e, List.drop_left, List.take_left]
theorem at_mid {z : Str} {p r : List Nat} {c : Nat} (e : sg z = p ++ c :: r) : atI (z.cps.toList) (p.length : Int) = some c := atI_nat (by
  show (sg z)[p.length]? = _
  rw [e, List.getElem?_append_right (Nat.le_refl _), Nat.sub_self]; rfl)
theorem one_eq (c d : Nat) : decide (V.str ⟨#[c]⟩ = V.str ⟨#[d]⟩) = decide (c = d) := by
  by_cases h : c = d
  · rw [h]; simp
  · rw [decide_eq_false h, decide_eq_false]
    intro z
    have := congrArg sg (V.str.inj z)
    cases this
    exact h rfl
end Own
set_option maxHeartbeats 2000000
namespace Own
open PySem PySem.Spec PyProof.Rows L2 RT HT ItX
/-! ### the signs of a source text -/
def LETS : Str := "abcdefghijklmnopqrstuvwxyzABCDEFGHIJKLMNOPQRSTUVWXYZ"
def CAPS : Str := "ABCDEFGHIJKLMNOPQRSTUVWXYZ"
def WCHS : Str := "abcdefghijklmnopqrstuvwxyzABCDEFGHIJKLMNOPQRSTUVWXYZ0123456789_"
def SGNS : List Str := ["(", ")", ",", ":", ".", "~", "&", "|", "=", "!=", "->", "<->"]
def kindW (x : Nat) : Str := if x ∈ sg CAPS then "variable" else "name"
abbrev Tk := Str × Str × Nat × Nat
inductive End10
  | fin (l c : Nat)
  | bad (l c : Nat) (r : Str)
/-- reading on from a line and a column -/
inductive Scan : List Nat → Nat → Nat → List Tk → End10 → Prop
  | nil (l c : Nat) : Scan [] l c [] (.fin l c)
  | nl {r : List Nat} {l c : Nat} {o : List Tk} {f : End10} : Scan r (l + 1) 1 o f → Scan (10 :: r) l c o f
  | blank {x : Nat} {r : List Nat} {l c : Nat} {o : List Tk} {f : End10} (h : x = 32 ∨ x = 9) : Scan r l (c + 1) o f → Scan (x :: r) l c o f
  | rem {a r : List Nat} {l c : Nat} {o : List Tk} {f : End10} (ha : 10 ∉ a) (hr : r = [] ∨ ∃ t, r = 10 :: t) : Scan r l (c + (a.length + 1)) o f → Scan (35 :: (a ++ r)) l c o f
  | word {x : Nat} {w r : List Nat} {l c : Nat} {o : List Tk} {f : End10} (hx : x ∈ sg LETS) (hw : ∀ y ∈ w, y ∈ sg WCHS) (hr : ∀ y t, r = y :: t → y ∉ sg WCHS) (len : w.length + 1 ≤ 20) : Scan r l (c + (w.length + 1)) o f → Scan (x :: (w ++ r)) l c ((kindW x, ofS (x :: w), l, c) :: o) f
  | sign {s : Str} {r : List Nat} {l c : Nat} {o : List Tk} {f : End10} (hs : s ∈ SGNS) : Scan r l (c + s.length) o f → Scan (sg s ++ r) l c (("sign", s, l, c) :: o) f
  | long {x : Nat} {w r : List Nat} {l c : Nat} (hx : x ∈ sg LETS) (hw : ∀ y ∈ w, y ∈ sg WCHS) (hr : ∀ y t, r = y :: t → y ∉ sg WCHS) (len : 20 < w.length + 1) : Scan (x :: (w ++ r)) l c [] (.bad l c "name too long")
  | odd {x : Nat} {r : List Nat} {l c : Nat} (h : x ≠ 10 ∧ x ≠ 32 ∧ x ≠ 9 ∧ x ≠ 35) (hx : x ∉ sg LETS) (hs : ∀ s ∈ SGNS, ¬ ∃ t, sg s ++ t = x :: r) : Scan (x :: r) l c [] (.bad l c "unknown character")
theorem lets_word : ∀ x ∈ sg LETS, x ∈ sg WCHS := by decide +kernel
theorem sgn_head : ∀ s ∈ SGNS, ∃ x t, sg s = x :: t ∧ x ∉ sg WCHS ∧ x ≠ 10 ∧ x ≠ 32 ∧ x ≠ 9 ∧ x ≠ 35 := by
  intro s hs
  have h : ∀ s ∈ SGNS, (match sg s with | x :: _ => decide (x ∉ sg WCHS) && decide (x ≠ 10) && decide (x ≠ 32) && decide (x ≠ 9) && decide (x ≠ 35) | [] => false) = true := by decide +kernel
  have := h s hs
  cases e : sg s with
  | nil => rw [e] at this; cases this
  | cons x t =>
    rw [e] at this
    simp only [Bool.and_eq_true, decide_eq_true_eq] at this
    exact ⟨x, t, rfl, this.1.1.1.1, this.1.1.1.2, this.1.1.2, this.1.2, this.2⟩
/-- at most one sign stands at the beginning -/
theorem sgn_one : ∀ s ∈ SGNS, ∀ s' ∈ SGNS, (sg s).head? = (sg s').head? → s = s' := by decide +kernel
theorem let_plain : ∀ x ∈ sg LETS, x ≠ 10 ∧ x ≠ 32 ∧ x ≠ 9 ∧ x ≠ 35 := by decide +kernel
theorem sgn_short : ∀ s ∈ SGNS, 1 ≤ s.length ∧ s.length ≤ 3 := by decide +kernel
end Own
set_option maxHeartbeats 2000000
namespace Own
open PySem PySem.Spec PyProof.Rows L2 RT HT ItX
/-! ### words, gaps, and what they are read as -/
structure IsW (z : Str) : Prop where
  ex : ∃ x u, sg z = x :: u ∧ x ∈ sg LETS ∧ (∀ y ∈ u, y ∈ sg WCHS)
  le : z.length ≤ 20
def W10 (z : Str) : Prop := IsW z ∨ z ∈ SGNS
def headL (z : Str) : Bool := match sg z with
  | x :: _ => decide (x ∈ sg LETS)
  | [] => false
def kindT (z : Str) : Str := match sg z with
  | x :: _ => if x ∈ sg LETS then kindW x else "sign"
  | [] => "end"
theorem IsW.head {z : Str} (h : IsW z) : headL z = true := by
  obtain ⟨⟨x, u, e, hx, _⟩, _⟩ := h
  unfold headL; rw [e]; exact decide_eq_true hx
theorem sgn_headL : ∀ s ∈ SGNS, headL s = false := by decide +kernel
theorem sgn_kind : ∀ s ∈ SGNS, kindT s = "sign" := by decide +kernel
theorem IsW.kind {z : Str} (h : IsW z) : ∃ x u, sg z = x :: u ∧ x ∈ sg LETS ∧ (∀ y ∈ u, y ∈ sg WCHS) ∧ kindT z = kindW x ∧ z = ofS (x :: u) ∧ u.length + 1 = z.length := by
  obtain ⟨⟨x, u, e, hx, hu⟩, hl⟩ := h
  refine ⟨x, u, e, hx, hu, ?_, ?_, ?_⟩
  · unfold kindT; rw [e]; exact if_pos hx
  · rw [← e, of_sg]
  · rw [← sg_len, e]; rfl
def GAPS : List Str := [" # a -> b ( $\n", "\n", "\t ", "", " "]
def adv : List Nat → Nat → Nat → Nat × Nat
  | [], l, c => (l, c)
  | x :: r, l, c => if x = 10 then adv r (l + 1) 1 else adv r l (c + 1)
theorem adv_app : ∀ (a b : List Nat) (l c : Nat), adv (a ++ b) l c = adv b (adv a l c).1 (adv a l c).2
  | [], b, l, c => rfl
  | x :: a, b, l, c => by
    show (if x = 10 then adv (a ++ b) (l + 1) 1 else adv (a ++ b) l (c + 1)) = adv b (if x = 10 then adv a (l + 1) 1 else adv a l (c + 1)).1 (if x = 10 then adv a (l + 1) 1 else adv a l (c + 1)).2
    by_cases h : x = 10
    · rw [if_pos h, if_pos h]; exact adv_app a b _ _
    · rw [if_neg h, if_neg h]; exact adv_app a b _ _
theorem gap_scan {g : Str} (hg : g ∈ GAPS) {r : List Nat} {l c : Nat} {o : List Tk} {f : End10} (h : Scan r (adv (sg g) l c).1 (adv (sg g) l c).2 o f) : Scan (sg g ++ r) l c o f := by
  simp only [GAPS, List.mem_cons, List.not_mem_nil, or_false] at hg
  rcases hg with rfl | rfl | rfl | rfl | rfl
  · have e : sg (" # a -> b ( $\n" : Str) = 32 :: 35 :: ([32, 97, 32, 45, 62, 32, 98, 32, 40, 32, 36] ++ [10]) := by decide +kernel
    rw [e] at h ⊢
    exact .blank (.inl rfl) (.rem (a := [32, 97, 32, 45, 62, 32, 98, 32, 40, 32, 36]) (r := 10 :: r) (by decide) (.inr ⟨r, rfl⟩) (.nl h))
  · have e : sg ("\n" : Str) = [10] := by decide +kernel
    rw [e] at h ⊢
    exact .nl h
  · have e : sg ("\t " : Str) = [9, 32] := by decide +kernel
    rw [e] at h ⊢
    exact .blank (.inr rfl) (.blank (.inl rfl) h)
  · have e : sg ("" : Str) = [] := by decide +kernel
    rw [e] at h ⊢
    exact h
  · have e : sg (" " : Str) = [32] := by decide +kernel
    rw [e] at h ⊢
    exact .blank (.inl rfl) h
theorem gap_head {g : Str} (hg : g ∈ GAPS) : g = "" ∨ ∃ x t, sg g = x :: t ∧ x ∉ sg WCHS := by
  simp only [GAPS, List.mem_cons, List.not_mem_nil, or_false] at hg
  rcases hg with rfl | rfl | rfl | rfl | rfl
  · exact .inr ⟨32, _, rfl, by decide +kernel⟩
  · exact .inr ⟨10, _, rfl, by decide +kernel⟩
  · exact .inr ⟨9, _, rfl, by decide +kernel⟩
  · exact .inl rfl
  · exact .inr ⟨32, _, rfl, by decide +kernel⟩
theorem gap_len : ∀ g ∈ GAPS, g.length ≤ 20 := by decide +kernel
/-- what may stand behind -/
def Bnd (b : Str) (r : List Nat) : Prop := headL b = true → ∀ y t, r = y :: t → y ∉ sg WCHS
theorem w10_scan {z : Str} (h : W10 z) {r : List Nat} {l c : Nat} {o : List Tk} {f : End10} (hb : Bnd z r) (s : Scan r l (c + z.length) o f) : Scan (sg z ++ r) l c ((kindT z, z, l, c) :: o) f := by
  rcases h with h | h
  · obtain ⟨x, u, e, hx, hu, k, ez, el⟩ := h.kind
    have hl := h.le
    have hh := h.head
    have hb := hb hh
    rw [e, k]
    have s' : Scan r l (c + (u.length + 1)) o f := by rw [el]; exact s
    have := Scan.word (c := c) hx hu hb (by omega) s'
    rw [← ez] at this
    exact this
  · rw [sgn_kind z h]
    exact .sign h s
theorem w10_head {z : Str} (h : W10 z) : headL z = false → ∀ r y t, sg z ++ r = y :: t → y ∉ sg WCHS := fun hh r y t e => by
  rcases h with h | h
  · rw [h.head] at hh; cases hh
  · obtain ⟨x, u, es, hx, _⟩ := sgn_head z h
    rw [es] at e
    cases e
    exact hx
/-- the gap may stand between the two words -/
def GapOk (a b g : Str) : Prop := g ∈ GAPS ∧ (g = "" → ¬ (headL a = true ∧ headL b = true))
/-- what has been joined so far: text, words with their places, line, column, the word before -/
def Jnd (T : List Nat) (L : List (Str × Nat × Nat)) (l c : Nat) (b : Str) : Prop := ∀ r o f, Bnd b r → Scan r l c o f → Scan (T ++ r) 1 1 (L.map (fun e => (kindT e.1, e.1, e.2.1, e.2.2)) ++ o) f
theorem jnd_nil : Jnd [] [] 1 1 "" := fun r o f _ s => s
theorem jnd_step {T : List Nat} {L : List (Str × Nat × Nat)} {l c : Nat} {b z g : Str} (J : Jnd T L l c b) (hz : W10 z) (hg : GapOk b z g) : Jnd (T ++ sg g ++ sg z) (L ++ [(z, adv (sg g) l c)]) (adv (sg g) l c).1 ((adv (sg g) l c).2 + z.length) z := by
  intro r o f hb s
  have s1 := w10_scan hz hb s
  have s2 := gap_scan hg.1 s1
  have b2 : Bnd b (sg g ++ (sg z ++ r)) := fun hbb y t e => by
    rcases gap_head hg.1 with h | ⟨x, u, es, hx⟩
    · subst h
      have hzz : headL z = false := by
        cases h : headL z with
        | false => rfl
        | true => exact absurd ⟨hbb, h⟩ (hg.2 rfl)
      exact w10_head hz hzz r y t e
    · rw [es] at e; cases e; exact hx
  have := J _ _ _ b2 s2
  rw [List.map_append, List.append_assoc, List.append_assoc, List.append_assoc]
  exact this
theorem jnd_last {T : List Nat} {L : List (Str × Nat × Nat)} {l c : Nat} {b g : Str} (J : Jnd T L l c b) (hg : GapOk b "" g) : Scan (T ++ sg g) 1 1 (L.map fun e => (kindT e.1, e.1, e.2.1, e.2.2)) (.fin (adv (sg g) l c).1 (adv (sg g) l c).2) := by
  have s2 := gap_scan hg.1 (Scan.nil (adv (sg g) l c).1 (adv (sg g) l c).2)
  have b2 : Bnd b (sg g ++ []) := fun hbb y t e => by
    rcases gap_head hg.1 with h | ⟨x, u, es, hx⟩
    · subst h; cases e
    · rw [es] at e; cases e; exact hx
  have := J _ _ _ b2 s2
  rw [List.append_nil, List.append_nil] at this
  exact this
/-! ### tokens as data -/
def tkD (t : Tk) : PyData := .tuple [.str t.1, .str t.2.1, .int (t.2.2.1 : Nat), .int (t.2.2.2 : Nat)]
structure TkOk (t : Tk) : Prop where
  k : PyData.strOk t.1 = true ∧ t.1.length ≤ 20
  z : PyData.strOk t.2.1 = true ∧ t.2.1.length ≤ 40
  l : t.2.2.1 < 1000000
  c : t.2.2.2 < 1000000
end Own
namespace Own
open PySem PySem.Spec PyProof.Rows L2 RT HT ItX
theorem small_int {n : Nat} (h : n < 1000000) : (PyData.int (n : Nat)).weight ≤ 20 ∧ (PyData.int (n : Nat)).showable = true ∧ (PyData.int (n : Nat)).shown.length ≤ 30 := by
  have h2 : n < 2 ^ 20 := by omega
  have hl : (n : Int).natAbs.log2 < 20 := by
    by_cases z : n = 0
    · subst z; decide
    · exact (Nat.log2_lt (by omega)).mpr (by omega)
  refine ⟨?_, ?_, ?_⟩
  · show (if (n : Int) == 0 then 0 else (n : Int).natAbs.log2 + 1) ≤ 20
    split
    · decide
    · omega
  · exact decide_eq_true (by omega)
  · have := int_text_length_le (k := 20) (a := (n : Int)) (by decide) hl
    show (Str.ofString (toString (n : Int))).length ≤ 30
    rw [PySem.ofString_length]; omega
theorem tk_shape {t : Tk} (o : TkOk t) : (tkD t).canLay0 = true ∧ (tkD t).depth = 1 ∧ (tkD t).weight ≤ 110 ∧ (tkD t).showable = true ∧ (tkD t).leavesShort 30 = true := by
  obtain ⟨⟨k1, k2⟩, ⟨z1, z2⟩, hl, hc⟩ := o
  obtain ⟨a1, a2, a3⟩ := small_int hl
  obtain ⟨b1, b2, b3⟩ := small_int hc
  have cps : ∀ {x : Str}, PyData.strOk x = true → (x.cps.toList.all fun c => decide (c < 16 ^ 8)) = true := fun {x} h => by
    have h : x.cps.all (· < 0x110000) = true := h
    rw [← Array.all_toList] at h
    rw [List.all_eq_true] at h ⊢
    intro c hcm
    have := of_decide_eq_true (h c hcm)
    exact decide_eq_true (by omega)
  refine ⟨?_, rfl, ?_, ?_, ?_⟩
  · show (PyData.strOk t.1 && (PyData.strOk t.2.1 && (true && (true && true)))) = true
    rw [k1, z1]; rfl
  · show t.1.cps.size + 1 + (t.2.1.cps.size + 1 + ((PyData.int (t.2.2.1 : Nat)).weight + 1 + ((PyData.int (t.2.2.2 : Nat)).weight + 1 + 0))) ≤ 110
    have e1 : t.1.cps.size = t.1.length := rfl
    have e2 : t.2.1.cps.size = t.2.1.length := rfl
    omega
  · show (true && (true && ((PyData.int (t.2.2.1 : Nat)).showable && ((PyData.int (t.2.2.2 : Nat)).showable && true)))) = true
    rw [a2, b2]; rfl
  · show ((t.1.cps.toList.all fun c => decide (c < 16 ^ 8)) && ((t.2.1.cps.toList.all fun c => decide (c < 16 ^ 8)) && (decide ((PyData.int (t.2.2.1 : Nat)).shown.length ≤ 30) && (decide ((PyData.int (t.2.2.2 : Nat)).shown.length ≤ 30) && true)))) = true
    rw [cps k1, cps z1, decide_eq_true a3, decide_eq_true b3]; rfl
theorem tks_shape : ∀ {ts : List Tk}, (∀ t ∈ ts, TkOk t) → PyData.canLayAll0 (ts.map tkD) = true ∧ PyData.depthAll (ts.map tkD) ≤ 1 ∧ PyData.weightAll (ts.map tkD) ≤ 111 * ts.length ∧ PyData.showableAll (ts.map tkD) = true ∧ PyData.leavesShortAll 30 (ts.map tkD) = true
  | [], _ => ⟨rfl, Nat.zero_le _, Nat.le_refl _, rfl, rfl⟩
  | t :: r, h => by
    obtain ⟨a1, a2, a3, a4, a5⟩ := tk_shape (h t List.mem_cons_self)
    obtain ⟨b1, b2, b3, b4, b5⟩ := tks_shape (ts := r) fun x hx => h x (List.mem_cons_of_mem _ hx)
    refine ⟨?_, ?_, ?_, ?_, ?_⟩
    · show ((tkD t).canLay0 && PyData.canLayAll0 (r.map tkD)) = true
      rw [a1, b1]; rfl
    · show max (tkD t).depth (PyData.depthAll (r.map tkD)) ≤ 1
      omega
    · show (tkD t).weight + 1 + PyData.weightAll (r.map tkD) ≤ 111 * (r.length + 1)
      omega
    · show ((tkD t).showable && PyData.showableAll (r.map tkD)) = true
      rw [a4, b4]; rfl
    · show ((tkD t).leavesShort 30 && PyData.leavesShortAll 30 (r.map tkD)) = true
      rw [a5, b5]; rfl
end Own
set_option maxHeartbeats 2000000
namespace Own
open PySem PySem.Spec PyProof.Rows L2 RT HT ItX
/-! ### a text times an int -/
def repS (x : Str) (n : Nat) : Str := ofS ((List.replicate n (sg x)).flatten)
theorem foldl_arr : ∀ (l : List (Array Nat)) (a : Array Nat), (l.foldl (· ++ ·) a).toList = a.toList ++ (l.map Array.toList).flatten
  | [], a => by simp
  | x :: r, a => by
    show (r.foldl (· ++ ·) (a ++ x)).toList = _
    rw [foldl_arr r (a ++ x), List.map_cons, List.flatten_cons, ← List.append_assoc, Array.toList_append]
theorem rep_eq (x : Str) (n : Nat) : (⟨(List.replicate n x.cps).foldl (· ++ ·) #[]⟩ : Str) = repS x n := by
  apply sg_inj
  show ((List.replicate n x.cps).foldl (· ++ ·) #[]).toList = sg (ofS _)
  rw [foldl_arr, sg_of, List.map_replicate]
  rfl
theorem repS_len (x : Str) (n : Nat) : (repS x n).length = n * x.length := by
  unfold repS
  rw [ofS_len, List.length_flatten, List.map_replicate, List.sum_replicate_nat, sg_len]
section
variable {X : Cx}
theorem op_mul_str : OpR X (binaryOp .Mult) (fun x y H Q => ∃ (z : Str) (n : Nat), x = .str z ∧ y = .int (n : Nat) ∧ 1 ≤ z.length ∧ z.length * n ≤ 1000000 ∧ Q (.str (repS z n)) H) := by
  intro pins s σ H x y v u Q I rx ry h
  obtain ⟨z, n, rfl, rfl, hl, hz, q⟩ := h
  obtain ⟨t, rfl⟩ := rx
  obtain ⟨t', rfl⟩ := ry
  have hn : n ≤ 1000000 := Nat.le_trans (Nat.le_mul_of_pos_left n hl) hz
  have zn : z.length ≤ 1000000 ∨ n = 0 := by
    by_cases h : n = 0
    · exact .inr h
    · exact .inl (Nat.le_trans (Nat.le_mul_of_pos_right z.length (by omega)) hz)
  refine P.mul_str ?_ ?_ ?_ ?_
  · have e1 : decide ((n : Int) < -(2 ^ 63 : Int)) = false := decide_eq_false (by omega)
    have e2 : decide ((n : Int) ≥ 2 ^ 63) = false := decide_eq_false (by omega)
    rw [e1, e2]; rfl
  · intro h1 h2
    rcases zn with h | h
    · have : (1000000 : Int) ≤ (2 ^ 63 - 1) / n := by
        refine (Int.le_ediv_iff_mul_le (by omega)).mpr ?_
        omega
      omega
    · omega
  · intro h1 h2
    have := sizeLine_eq
    rw [show (n : Int).toNat = n by omega]
    exact decide_eq_false (by omega)
  · by_cases h1 : (n : Int) < 1
    · rw [if_pos h1]
      have n0 : n = 0 := by omega
      subst n0
      exact ⟨by decide, .str (repS z 0), H, I.tok _, ⟨_, rfl⟩, q⟩
    · rw [if_neg h1]
      by_cases h2 : ((n : Int) == 1 || z.length == 0) = true
      · rw [if_pos h2]
        have n1 : n = 1 := by
          rcases Bool.or_eq_true_iff.mp h2 with h | h
          · have := beq_iff_eq.mp h; omega
          · have := beq_iff_eq.mp h; omega
        subst n1
        have e : repS z 1 = z := by
          unfold repS
          show ofS ((sg z) ++ []) = z
          rw [List.append_nil, of_sg]
        rw [e] at q
        exact ⟨.str z, H, I, ⟨_, rfl⟩, q⟩
      · rw [if_neg h2, show (n : Int).toNat = n by omega, rep_eq]
        refine ⟨?_, .str (repS z n), H, I.tok _, ⟨_, rfl⟩, q⟩
        have := repS_len z n
        have := sizeLine_eq
        have e : n * z.length = z.length * n := Nat.mul_comm _ _
        omega
end
/-! ### a call of a def that a local name holds, which may raise -/
def tCallLS (i : Nat) (f : Addr) (sp : Sp) (E : L2.St → XK) (t : TA) : TE := fun σ H Q => σ[i]? = some (some (.ref f)) ∧ t σ H fun vs H1 => sp vs H1 Q (E σ)
section
variable {X : Cx} {CX : CXT} {k i : Nat} {f : Addr} {fd : FuncData} {ps : List Str} {sp : Sp} {E : L2.St → XK} {x : Str} {p pos : Pos} {e : Expr} {es : List Expr} {t : TA}
theorem pe_callLS (F : FnOk X.prog X.w X.K X.mg X.base CX k f fd ps sp) (hr : Room k X.A) (hN : X.N[i]? = some x) (hv : Vis X.env.scope x) (hk : PySem.W.keepIn X.K (.ref f) = true) (hb : Binds X.K fd ps []) (hx : ∀ σ, PassesAt CX X σ (E σ)) (ha : PA X (e :: es) t)
    (hdb : (x == ("__debug__" : Str)) = false := by decide) (hcd : (x == ("__classdict__" : Str)) = false := by decide)
    (he : starEach (e :: es) X.env = (false, eval e X.env) :: starEach es X.env := by rfl) (hpl : (backTo pos (starEach es X.env)).any (·.1) = false := by rfl) : PE X (.Call (.Name x p) (e :: es) [] pos) (tCallLS i f sp E t) := by
  refine ⟨fun pins s σ H Q I h => ?_⟩
  obtain ⟨hs, ht⟩ := h
  refine wpAny_Call_Name_kw (thn ((pe_var (pos := p) hN hv hdb hcd).run pins s σ H (fun v H1 => v = .ref f ∧ H1 = H) I ⟨.ref f, hs, rfl, rfl⟩) fun u s1 ⟨v, H1, I1, r1, q1⟩ => ?_)
  obtain ⟨rfl, rfl⟩ := q1
  cases r1
  refine PySem.W.callWith_K (h₀ := X.base) I.ok.mod.kin hk (thn (ha.run pos pins s1 σ _ _ I1 ht) fun us s2 ⟨vs, H2, I2, r, q⟩ => ⟨I2.kIn, ?_⟩) he hpl
  exact run_fnS F hr hb (hx σ) I2 r q
end
/-! ### words that are refused -/
inductive BadW : Str → Str → Prop
  | long {x : Nat} {u : List Nat} {b : Str} (e : sg b = x :: u) (hx : x ∈ sg LETS) (hu : ∀ y ∈ u, y ∈ sg WCHS) (l1 : 20 < u.length + 1) (l2 : u.length + 1 ≤ 23) : BadW b "name too long"
  | odd {x : Nat} {b : Str} (e : sg b = [x]) (h : x ≠ 10 ∧ x ≠ 32 ∧ x ≠ 9 ∧ x ≠ 35) (hx : x ∉ sg LETS) (hs : ∀ s ∈ SGNS, ∀ r, ¬ ∃ t, sg s ++ t = x :: 32 :: r) : BadW b "unknown character"
def Bad (z m : Str) : Prop := ∃ b : Str, sg z = 32 :: (sg b ++ [32]) ∧ BadW b m
theorem bad_fun {z m m' : Str} (h : Bad z m) (h' : Bad z m') : m = m' := by
  obtain ⟨b, e, hb⟩ := h
  obtain ⟨b', e', hb'⟩ := h'
  rw [e] at e'
  have : sg b = sg b' := List.append_cancel_right (List.cons.inj e').2
  cases hb with
  | long e1 x1 _ _ _ =>
    cases hb' with
    | long => rfl
    | odd e2 _ x2 _ => rw [e1, e2] at this; cases this; exact absurd x1 x2
  | odd e1 _ x1 _ =>
    cases hb' with
    | odd => rfl
    | long e2 x2 _ _ _ => rw [e1, e2] at this; cases this; exact absurd x2 x1
theorem bad_len {z m : Str} (h : Bad z m) : z.length ≤ 25 := by
  obtain ⟨b, e, hb⟩ := h
  rw [← sg_len, e, List.length_cons, List.length_append, List.length_singleton]
  cases hb with
  | long e1 _ _ _ l2 => rw [e1, List.length_cons]; omega
  | odd e1 => rw [e1, List.length_singleton]; omega
theorem bad_head {z m : Str} (h : Bad z m) : headL z = false := by
  obtain ⟨b, e, hb⟩ := h
  unfold headL; rw [e]; exact decide_eq_false (by decide +kernel)
theorem w10_not_bad {z m : Str} (h : W10 z) (hb : Bad z m) : False := by
  obtain ⟨b, e, _⟩ := hb
  rcases h with h | h
  · obtain ⟨⟨x, u, e2, hx, _⟩, _⟩ := h
    rw [e] at e2; cases e2
    exact absurd hx (by decide +kernel)
  · obtain ⟨x, t, e2, _, _, n32, _⟩ := sgn_head z h
    rw [e] at e2; cases e2
    exact n32 rfl
theorem bad_scan {z m : Str} (h : Bad z m) (r : List Nat) (l c : Nat) : Scan (sg z ++ r) l c [] (.bad l (c + 1) m) := by
  obtain ⟨b, e, hb⟩ := h
  rw [e]
  cases hb with
  | @long x u _ e1 hx hu l1 l2 =>
    rw [e1]
    have : (32 :: (x :: u ++ [32])) ++ r = 32 :: (x :: (u ++ (32 :: r))) := by simp
    rw [this]
    exact .blank (.inl rfl) (.long hx hu (fun y t ee => by cases ee; decide +kernel) l1)
  | @odd x _ e1 hh hx hs =>
    rw [e1]
    exact .blank (.inl rfl) (.odd hh hx (fun s hs' => hs s hs' r))
abbrev LW3 := List (Str × Nat × Nat)
def FirstBad (L : LW3) (l c : Nat) (m : Str) : Prop := ∃ (p q : LW3) (z : Str) (k : Nat), L = p ++ (z, l, k) :: q ∧ c = k + 1 ∧ Bad z m ∧ ∀ e ∈ p, W10 e.1
theorem FirstBad.app {L : LW3} {l c : Nat} {m : Str} (h : FirstBad L l c m) (L2 : LW3) : FirstBad (L ++ L2) l c m := by
  obtain ⟨p, q, z, k, rfl, h2, h3, h4⟩ := h
  exact ⟨p, q ++ L2, z, k, by simp, h2, h3, h4⟩
def tk3 (e : Str × Nat × Nat) : Tk := (kindT e.1, e.1, e.2.1, e.2.2)
def JB (T : List Nat) (L : LW3) (l k : Nat) (b : Str) : Prop := (Jnd T L l k b ∧ ∀ e ∈ L, W10 e.1) ∨ ∃ (l' c' : Nat) (m : Str) (o : List Tk), FirstBad L l' c' m ∧ ∀ r, Scan (T ++ r) 1 1 o (.bad l' c' m)
theorem jb_nil : JB [] [] 1 1 "" := .inl ⟨jnd_nil, fun e he => absurd he List.not_mem_nil⟩
theorem jb_step {T : List Nat} {L : LW3} {l k : Nat} {b z g : Str} (J : JB T L l k b) (hz : W10 z ∨ ∃ m, Bad z m) (hg : GapOk b z g) : JB (T ++ sg g ++ sg z) (L ++ [(z, adv (sg g) l k)]) (adv (sg g) l k).1 ((adv (sg g) l k).2 + z.length) z := by
  rcases J with ⟨J, hL⟩ | ⟨l', c', m, o, fb, sc⟩
  · rcases hz with hz | ⟨m, hz⟩
    · refine .inl ⟨jnd_step J hz hg, fun e he => ?_⟩
      rcases List.mem_append.mp he with he | he
      · exact hL e he
      · cases List.mem_singleton.mp he; exact hz
    · refine .inr ⟨(adv (sg g) l k).1, (adv (sg g) l k).2 + 1, m, L.map tk3 ++ [], ⟨L, [], z, (adv (sg g) l k).2, rfl, rfl, hz, hL⟩, fun r => ?_⟩
      have s1 := bad_scan hz r (adv (sg g) l k).1 (adv (sg g) l k).2
      have s2 := gap_scan hg.1 s1
      have b2 : Bnd b (sg g ++ (sg z ++ r)) := fun hbb y t e => by
        rcases gap_head hg.1 with h | ⟨x, u, es, hx⟩
        · subst h
          obtain ⟨b', e', _⟩ := hz
          rw [e'] at e
          cases e
          decide +kernel
        · rw [es] at e; cases e; exact hx
      have := J _ _ _ b2 s2
      rw [List.append_assoc, List.append_assoc]
      exact this
  · refine .inr ⟨l', c', m, o, fb.app _, fun r => ?_⟩
    rw [List.append_assoc, List.append_assoc]
    exact sc _
theorem jb_last {T : List Nat} {L : LW3} {l k : Nat} {b g : Str} (J : JB T L l k b) (hg : GapOk b "" g) : ((∀ e ∈ L, W10 e.1) ∧ Scan (T ++ sg g) 1 1 (L.map tk3) (.fin (adv (sg g) l k).1 (adv (sg g) l k).2)) ∨ ∃ (l' c' : Nat) (m : Str) (o : List Tk), FirstBad L l' c' m ∧ Scan (T ++ sg g) 1 1 o (.bad l' c' m) := by
  rcases J with ⟨J, hL⟩ | ⟨l', c', m, o, fb, sc⟩
  · exact .inl ⟨hL, jnd_last J hg⟩
  · exact .inr ⟨l', c', m, o, fb, sc _⟩
end Own
set_option maxHeartbeats 2000000
namespace Own
open PySem PySem.Spec PyProof.Rows L2 RT HT ItX
/-! ### an __init__ that may make things besides, and its raise -/
def spInitG (C : Addr) (fs : List Str) (ok : List V → Hp → Prop) : Sp := fun vs H Q _ => ∃ a ws, vs = .ref a :: ws ∧ ws.length = fs.length ∧ H a = some (exo a C none) ∧ ok ws H ∧
  ∀ H2 dx, (∀ b o, b ≠ a → H b = some o → H2 b = some o) → H dx = none → dx ≠ a → H2 a = some (exo a C (some dx)) → H2 dx = some (exd dx (fs.zip ws).reverse) → Q .non H2
def tMkG (C : Addr) (fs : List Str) (ok : List V → Hp → Prop) (ta : TA) : L2.St → Hp → XK → Prop := fun σ H Q => ta σ H fun vs H1 => vs.length = fs.length ∧ vs.length ≤ 1000 ∧ (∀ a, H1 a = none → ok vs (upd H1 a (exo a C none))) ∧
  ∀ d H', H1 d = none → Same H1 H' → H' d = some (.xd (fs.zip vs).reverse) → Q (.ref C) (some d) H'
theorem tMk_ofG {ta : TA} {C : Addr} {fs : List Str} {ok : List V → Hp → Prop} {σ : L2.St} {H : Hp} {Q : XK} (hm : ∀ {P Q : List V → Hp → Prop}, (∀ vs H, P vs H → Q vs H) → ∀ {σ H}, ta σ H P → ta σ H Q) (h : tMkG C fs ok ta σ H Q) : tMkO C (spInitG C fs ok) [] ta σ H Q := by
  refine hm (fun vs H1 hq => ?_) h
  obtain ⟨h1, h2, h3, h4⟩ := hq
  refine ⟨h2, fun a na => ?_⟩
  rw [List.append_nil]
  refine ⟨a, vs, rfl, h1, upd_same, h3 a na, fun H2 dx same fx nx ea ed => ⟨rfl, dx, _, ea, ed, ?_, ?_⟩⟩
  · rw [← upd_ne (H := H1) (o := exo a C none) nx]
    exact fx
  · have fx1 : H1 dx = none := by rw [← upd_ne (H := H1) (o := exo a C none) nx]; exact fx
    refine h4 dx _ fx1 (fun b o e => ?_) upd_same
    have ba : b ≠ a := fun z => by rw [z, na] at e; cases e
    have bd : b ≠ dx := fun z => by rw [z, fx1] at e; cases e
    rw [upd_ne bd]
    have : H2 b = some o := same b o ba (by rw [upd_ne ba]; exact e)
    first | (rw [del_ne ba]; exact this) | (unfold del; rw [if_neg ba]; exact this) | (show (if b = a then none else H2 b) = some o; rw [if_neg ba]; exact this)
section
variable {X : Cx} {CX : CXT} {x : Str} {e : Expr} {es : List Expr} {ta : TA} {p pos pos2 : Pos} {C fI : Addr} {k : Nat} {fd : FuncData} {ps : List Str} {W : WX} {fs : List Str} {ok : List V → Hp → Prop}
theorem ps_raiseG (hc : X.calm = true) (tk : L2N.Takes X W) (T : OexC X.K C) (iC : PySem.W.findIn X.K (.ref C) "__init__" = some (some (.ref fI))) (tI : PySem.W.typeIn X.K (.ref fI) = some (.type "function"))
    (F1 : FnOk X.prog X.w X.K X.mg X.base CX k fI fd ps (spInitG C fs ok)) (hr : Room (k + 1) X.A) (hb : Binds X.K fd ps []) (hx : Passes CX X (fun _ _ _ => False)) (hg : Gl X x) (hm : X.mg x = some (.ref C)) (ha : PA X (e :: es) ta)
    (mono : ∀ {P Q : List V → Hp → Prop}, (∀ vs H, P vs H → Q vs H) → ∀ {σ H}, ta σ H P → ta σ H Q)
    (hdb : (x == ("__debug__" : Str)) = false := by decide) (he : starEach (e :: es) X.env = (false, eval e X.env) :: starEach es X.env := by rfl) (hpl : (backTo pos (starEach es X.env)).any (·.1) = false := by rfl) :
    PS X (.Raise (some (.Call (.Name x p) (e :: es) [] pos)) none pos2) (fun _ σ H => tMkG C fs ok ta σ H fun cls d H' => W cls d σ H') := by
  have m := pmkN_sup (p := p) (pos := pos) T iC tI F1 hr hb hx hg hm ha hdb he hpl
  exact L2N.ps_raise (t := tMkG C fs ok ta) hc tk fun pins s σ H Q I h => m pins s σ H Q I (tMk_ofG mono h)
end
end Own
set_option maxHeartbeats 2000000
namespace Own
open PySem PySem.Spec PyProof.Rows L2 RT HT ItX L2H
/-! ### a def called within an except suite, whose promise may speak of the handled exception -/
structure FnHP (P : Program) (w : World) (K : PySem.W.Frag) (mg : Str → Option Value) (base : Heap) (CX : CXT) (k : Nat) (f : Addr) (fd : FuncData) (ps : List Str) (sp : Addr × Obj → Sp) : Prop where
  len : ∀ p vs H Q E, sp p vs H Q E → vs.length = ps.length
  run : ∀ (A : Around) (outer : List Env) (s : Shared) (H : Hp) (args : Args) (us : List Value) (vs : List V) (Q : VK) (E : XK) (p : Addr × Obj), RoomH k A → Hot1 A p → PinOk outer H s p → Env0 P w K mg base A outer s H → BindsTo s fd args (ps.zip us) → Vals vs us → sp p vs H Q E →
    codeAny (model P w) A (.call (.ref f) args) (CR CX outer P w H s Q E) s
theorem fn_ofHP {CX : CXT} {P : Program} {w : World} {K : PySem.W.Frag} {mg : Str → Option Value} {base : Heap} {k : Nat} {f : Addr} {name qual : Str} {params : Arguments} {body : List Stmt} {scope : Scope} {dV kV doc pm cdv ct oc : Value} {an od : Option Addr}
    {osl : Array (Option Value)} {N ps : List Str} {sp : Addr × Obj → Sp} (lk : K.lookup f = some ⟨oc, od, .func (PySem.W.fnOf name qual params body scope dV kV doc pm an cdv ct), osl⟩) (hcd : PySem.W.codeIn K cdv qual = true) (S : FnScope N ps scope)
    (len : ∀ p vs H Q E, sp p vs H Q E → vs.length = ps.length)
    (hbody : ∀ (A : Around) (outer : List Env) (s : Shared) (H : Hp) (vs : List V) (Q : VK) (E : XK) (p : Addr × Obj), Hot1 A p → RoomH k (A.deeper (envOfC qual scope s.heap.objs.size f cdv)) → sp p vs H Q E →
      ∃ t, PSs (cxH CX P w K mg base N qual scope f cdv A outer s H E p) body t ∧ t { nx := fun _ H' => Q .non H', rt := Q } (L2.start N vs) H) :
    FnHP P w K mg base CX (k + 1) f (PySem.W.fnOf name qual params body scope dV kV doc pm an cdv ct) ps sp := by
  refine ⟨len, fun A outer s H args us vs Q E p hr hot hpin e0 hb r hsp => ?_⟩
  have hl := len _ _ _ _ _ hsp
  have KX : K.In s.heap := e0.mod.kin.keeps fun b o e => (e0.bs b o e).1
  have lim : s.heap.NoLimit := e0.mod.nolimit.keeps fun b o e => (e0.bs b o e).1
  have hkind : ∀ y ∈ ps.zip us, scope.names.lookup y.1 = some .local ∨ (scope.names.lookup y.1 = some .cell ∧ ((cellsFrom (s.heap.objs.size + 1) scope.names []).lookup y.1).isSome = true) := fun ⟨n, v⟩ hy => by
    rcases S.par n (List.of_mem_zip hy).1 with q | q
    · exact .inl q
    · exact .inr ⟨q, PySem.W.cellsFrom_some _ _ _ (.inl q)⟩
  refine codeAny_call_function hr.depth (KX _ _ lk) rfl S.co S.gen rfl (PySem.W.codeRec_of KX hcd) (hb _ _ _ _ ?_)
  refine wpAny_newFunctionEnv_cells S.kind hkind fun env he s1 x => ?_
  subst he
  refine ⟨lim.keeps x.toInCall.keep, codeAny_func ?_⟩
  obtain ⟨t, ht, hq⟩ := hbody A outer s H vs Q E p hot (hr.deeper _) hsp
  have I : Inv (cxH CX P w K mg base N qual scope f cdv A outer s H E p) [] (L2.start N vs) H s1 := inv_startH S hpin e0 hl r x
  refine wpAny_mono (ht.run [] s1 (L2.start N vs) H _ I hq) (fun fl s' hs => ?_) fun e s' hs => hs
  cases fl with
  | ret u =>
    obtain ⟨v, σ', H', J, rv, q⟩ := hs
    exact ⟨v, H', J.os, J.bare, J.base, J.hok, rv, q⟩
  | next =>
    obtain ⟨σ', H', J, q⟩ := hs
    exact ⟨.non, H', J.os, J.bare, J.base, J.hok, rfl, q⟩
  | brk =>
    obtain ⟨_, _, _, q⟩ := hs
    exact False.elim q
  | cont =>
    obtain ⟨_, _, _, q⟩ := hs
    exact False.elim q
section
variable {P : Program} {w : World} {K : PySem.W.Frag} {mg : Str → Option Value} {base : Heap} {x qual : Str} {st : Stmt} {f : Addr} {fd : FuncData} {N ps : List Str} {k : Nat}
theorem okHP {sp : Addr × Obj → Sp} (F : Fun K x qual st f fd) (S : FnScope N ps (defScope st)) (len : ∀ p vs H Q E, sp p vs H Q E → vs.length = ps.length)
    (hb : ∀ (cdv : Value) (A : Around) (outer : List Env) (s : Shared) (H : Hp) (vs : List V) (Q : VK) (E : XK) (p : Addr × Obj), HotC (cxH CX0 P w K mg base N qual (defScope st) f cdv A outer s H E p) → RoomH k (A.deeper (envOfC qual (defScope st) s.heap.objs.size f cdv)) → sp p vs H Q E →
      ∃ t, PSs (cxH CX0 P w K mg base N qual (defScope st) f cdv A outer s H E p) (defBody st) t ∧ t { nx := fun _ H' => Q .non H', rt := Q } (start N vs) H) : FnHP P w K mg base CX0 (k + 1) f fd ps sp := by
  obtain ⟨oc, od, kV, doc, pm, an, cdv, ct, osl, rfl, l, c⟩ := F.ex
  exact fn_ofHP l c S len fun A outer s H vs Q E p hot r q => hb cdv A outer s H vs Q E p ⟨p, ⟨hot.1, hot.2⟩, List.mem_singleton.mpr rfl⟩ r q
end
section
variable {X : Cx} {CX : CXT} {k : Nat} {f : Addr} {fd : FuncData} {ps : List Str} {sp : Addr × Obj → Sp} {E : L2.St → XK} {x : Str} {q pos : Pos} {e : Expr} {es : List Expr} {t : TA} {p : Addr × Obj}
theorem run_fnHP {pins : List (Addr × Obj)} {σ : L2.St} {H : Hp} {s : Shared} {Q : VK} {us : List Value} {vs : List V} (F : FnHP X.prog X.w X.K X.mg X.base CX k f fd ps sp) (hr : RoomH k X.A) (hot : Hot1 X.A p) (hp : p ∈ X.pn) (hb : Binds X.K fd ps []) (hx : PassesAt CX X σ (E σ))
    (I : Inv X pins σ H s) (r : Vals vs us) (h : sp p vs H Q (E σ)) : wpAny (model X.prog X.w) X.A (call (.ref f) us) (EP X pins σ Q) X.xe s := by
  have hl : us.length = ps.length := by rw [← r.length]; exact F.len _ _ _ _ _ h
  have b := hb s us I.kIn (by rw [List.append_nil]; exact hl)
  rw [List.append_nil] at b
  have P1 := I.pin p (List.mem_append_left _ hp)
  have hpin : PinOk X.stack H s p := ⟨P1.1, P1.2.1, fun hm => (List.mem_cons.mp (I.stkSub p.1 hm)).elim P1.2.2.1 P1.2.2.2.1, P1.2.2.2.2⟩
  refine wpAny_call (codeAny_mono (F.run X.A X.stack s H ⟨us, []⟩ us vs Q (E σ) p hr hot hpin I.env0 b r h) fun r s' hq => ?_)
  cases r with
  | error e => exact hx pins H s e s' I hq
  | ok fl =>
    cases fl with
    | ret u => exact I.after hq
    | next => exact False.elim hq
    | brk => exact False.elim hq
    | cont => exact False.elim hq
theorem pe_callHP (F : FnHP X.prog X.w X.K X.mg X.base CX k f fd ps sp) (hr : RoomH k X.A) (hot : Hot1 X.A p) (hp : p ∈ X.pn) (hg : Gl X x) (hm : X.mg x = some (.ref f)) (hk : PySem.W.keepIn X.K (.ref f) = true) (hb : Binds X.K fd ps []) (hx : ∀ σ, PassesAt CX X σ (E σ))
    (ha : PA X (e :: es) t) (hdb : (x == ("__debug__" : Str)) = false := by decide) (he : starEach (e :: es) X.env = (false, eval e X.env) :: starEach es X.env := by rfl) (hpl : (backTo pos (starEach es X.env)).any (·.1) = false := by rfl) :
    PE X (.Call (.Name x q) (e :: es) [] pos) (tCallS (sp p) E t) := by
  refine ⟨fun pins s σ H Q I h => ?_⟩
  refine wpAny_Call_Name_kw (ld_glob I hg hm ?_ hdb)
  refine PySem.W.callWith_K (h₀ := X.base) I.ok.mod.kin hk (thn (ha.run pos pins s σ H _ I h) fun us s1 ⟨vs, H1, I1, r, q⟩ => ⟨I1.kIn, ?_⟩) he hpl
  exact run_fnHP F hr hot hp hb (hx σ) I1 r q
end
theorem hot1_suite {X : Cx} {a : Addr} {oe : Obj} {cls : Value} {d : Option Addr} {pn : List (Addr × Obj)} (hz : L2N.Zn cls d oe) (hf : ∃ vs, oe.data = .fields vs) : Hot1 (X.suite a ((a, oe) :: pn)).A (a, oe) := by
  obtain ⟨vs, hv⟩ := hf
  exact ⟨rfl, vs, hv, hz.2.2 vs hv⟩
/-! ### isinstance of a pinned exception, with fields or without -/
def DxOk (H : Hp) (d : Option Addr) : Prop := d = none ∨ ∃ (dd : Addr) (fs : List (Str × V)), d = some dd ∧ H dd = some (.xd fs)
def rIsP (K : PySem.W.Frag) (C a : Addr) (d : Option Addr) : List V → Hp → VK → Prop := fun xs H Q => DxOk H d ∧ ∃ (c : V) (cv : Value) (b : Bool), xs = [.ref a, c] ∧ (∀ u, RelV c u → u = cv) ∧ PySem.W.kitOne K (.ref C) cv = some b ∧ Q (.bl b) H
theorem call_isP {X : Cx} {C : Addr} {d : Option Addr} {p : Addr × Obj} (hp : p ∈ X.pn) (T : ErrC X.K C) (hz : Zc (.ref C) d p.2) (hf : ∃ vs, p.2.data = .fields vs) : CallR X (.builtin "isinstance") (rIsP X.K C p.1 d) := by
  intro pins s σ H xs us Q I r h
  obtain ⟨hd, c, cv, b, rfl, hcv, hk, q⟩ := h
  obtain ⟨u1, rest, rfl, r1, rr⟩ : ∃ u1 rest, us = u1 :: rest ∧ RelV (.ref p.1) u1 ∧ Vals [c] rest := by
    cases r with
    | cons x y => exact ⟨_, _, rfl, x, y⟩
  obtain ⟨u2, rfl, r2⟩ := rr.one
  cases r1
  have e2 := hcv _ r2
  subst e2
  obtain ⟨hget, _⟩ := I.pin p (List.mem_append_left _ hp)
  obtain ⟨vs, hv⟩ := hf
  rcases hd with rfl | ⟨dd, fs, rfl, hdd⟩
  · have J : PySem.W.InstAt s.heap p.1 p.2 C none := ⟨hget, hz.1, by unfold PySem.W.notCls; rw [hv] <;> rfl, by rw [hz.2]; trivial⟩
    exact PySem.W.kia_one (PySem.W.kitx_exc T.ic T.ga T.gg T.exC T.ca T.cn T.ct T.mo) I.kIn J hk (fun z => nomatch z) fun tk => ⟨.bl b, H, I.kept (t' := tk) fun _ _ z => z, rfl, q⟩
  · obtain ⟨mA, hns, _⟩ := (show ObjOk X.prog X.w H s.heap dd (.xd fs) from I.hok dd _ hdd)
    obtain ⟨od, ho, _⟩ := lookIn_ns hns
    have J : PySem.W.InstAt s.heap p.1 p.2 C (some od) := ⟨hget, hz.1, by unfold PySem.W.notCls; rw [hv] <;> rfl, by rw [hz.2]; exact ho⟩
    exact PySem.W.kia_one (PySem.W.kitx_exc T.ic T.ga T.gg T.exC T.ca T.cn T.ct T.mo) I.kIn J hk (fun z => nomatch z) fun tk => ⟨.bl b, H, I.kept (t' := tk) fun _ _ z => z, rfl, q⟩
/-! ### C(), an own exception class without an __init__ -/
theorem pmk_own0 {X : Cx} {C : Addr} {bmB : List Value} {B newId initId : String} {x : Str} {p pos : Pos} (F : ExcBaseFacts B newId initId bmB) (q : PySem.W.excIn X.K C bmB newId = true) (gC : X.mg x = some (.ref C)) (kC : PySem.W.keepIn X.K (.ref C) = true) (r : L2.Raises X (.ref C)) (hg : Gl X x)
    (hdb : (x == ("__debug__" : Str)) = false := by decide) : L2N.PMk X (.Call (.Name x p) [] [] pos) (fun _ H Q => Q (.ref C) none H) := by
  intro pins s σ H Q I h
  refine wpAny_Call_Name_kw (ld_glob I hg gC ?_ hdb)
  refine PySem.W.callWith_K0 (first := []) I.kIn kC ?_
  show wpAny _ _ (call (.ref C) []) _ _ _
  obtain ⟨bm, N, nm, qn, bs, hdct, sn, sub, ab, col, dd, k0, k1, k2, k3, k5, mN, hC, hN, hni, T⟩ := exc_obj I.kIn q
  refine wpAny_call_exc_subT F T hC hN hni (fun h' e hm => ?_) (Nat.zero_le _)
  exact L2N.mk_of I hm r h (I.hok.gone hm.new)
end Own
namespace Own
open PySem PySem.Spec PyProof.Rows L2 RT HT ItX
/-! ### list.count of data -/
section
variable {X : Cx}
def rCntD (K : PySem.W.Frag) : V → List V → Hp → VK → Prop := fun x xs0 H Q => ∃ (l : Addr) (y : V) (xs : List V) (d : PyData) (ds : List PyData), x = V.ref l ∧ xs0 = [y] ∧ SqL K H l xs ∧ DpAll K H xs ds ∧ Dp K H y d ∧ PyData.plainAll ds = true ∧ d.plain = true ∧ d.depth ≤ 64 ∧ Q (.int ((ds.countP fun z => PyData.eqv z d : Nat) : Int)) H
theorem mt_countD (hu : X.A.units + 65 < cLine) : MtR X "list.count" (rCntD X.K) := by
  intro pins s σ H x xs0 v us Q I rx rxs h
  obtain ⟨l, y, xs, d, ds, rfl, rfl, hs, hds, hy, p1, p2, hz, q⟩ := h
  cases rx
  obtain ⟨uy, rfl, ry⟩ := rxs.one
  obtain ⟨bs, r1⟩ := Dp.reads I d y uy hy ry
  obtain ⟨its, rv, hl, hlen⟩ := I.list hs
  obtain ⟨as, h4⟩ := Dp.readsAll I ds xs its hds rv
  refine SeqAt.count_list_data hl.isList (by rw [List.toList_toArray]; exact h4) r1 p1 p2 (by omega) ⟨.int _, H, I.tok _, ⟨_, rfl⟩, q⟩
end
end Own
set_option maxHeartbeats 2000000
namespace Own
open PySem PySem.Spec PyProof.Rows L2 RT HT ItX L2H
/-- the call by a promise that does not name the object -/
theorem pe_callHK {X : Cx} {CX : CXT} {k : Nat} {f : Addr} {fd : FuncData} {ps : List Str} {sp : Addr × Obj → Sp} {spk : Sp} {E : L2.St → XK} {x : Str} {q pos : Pos} {e : Expr} {es : List Expr} {t : TA} {p : Addr × Obj}
    (F : FnHP X.prog X.w X.K X.mg X.base CX k f fd ps sp) (imp : ∀ vs H Q E, spk vs H Q E → sp p vs H Q E) (hr : RoomH k X.A) (hot : Hot1 X.A p) (hp : p ∈ X.pn) (hg : Gl X x) (hm : X.mg x = some (.ref f)) (hk : PySem.W.keepIn X.K (.ref f) = true) (hb : Binds X.K fd ps []) (hx : ∀ σ, PassesAt CX X σ (E σ))
    (ha : PA X (e :: es) t) (hdb : (x == ("__debug__" : Str)) = false := by decide) (he : starEach (e :: es) X.env = (false, eval e X.env) :: starEach es X.env := by rfl) (hpl : (backTo pos (starEach es X.env)).any (·.1) = false := by rfl) :
    PE X (.Call (.Name x q) (e :: es) [] pos) (tCallS spk E t) := by
  refine ⟨fun pins s σ H Q I h => ?_⟩
  refine wpAny_Call_Name_kw (ld_glob I hg hm ?_ hdb)
  refine PySem.W.callWith_K (h₀ := X.base) I.ok.mod.kin hk (thn (ha.run pos pins s σ H _ I h) fun us s1 ⟨vs, H1, I1, r, q⟩ => ⟨I1.kIn, ?_⟩) he hpl
  exact run_fnHP F hr hot hp hb (hx σ) I1 r (imp _ _ _ _ q)
/-- o.m() where m may raise -/
theorem pe_methE0 {X : Cx} {CX : CXT} {k : Nat} {f C : Addr} {fd : FuncData} {ps : List Str} {sp : Sp} {E : L2.St → XK} {m : Str} {o : Expr} {ta : TE} {apos pos : Pos} {pl : Sem Bool} (he : PE X o ta) (c : Cls X.K C) (hm : Meth X.K C m f) (F : FnOk X.prog X.w X.K X.mg X.base CX k f fd ps sp) (hr : Room k X.A) (hb : Binds X.K fd ps []) (hx : ∀ σ, PassesAt CX X σ (E σ))
    (ht : eval (.Call (.Attribute o m apos) [] [] pos) X.env = (do
      let ov ← eval o X.env
      standAt apos.atName
      let (f, first) ← holding [ov] (getMethod ov m pl)
      callWith pos f first (backTo pos (starEach [] X.env)) (backToKw pos (keywordEach [] X.env))) := by rfl) :
    PE X (.Call (.Attribute o m apos) [] [] pos) (tMethE C m sp E ta tNil) := by
  refine ⟨fun pins s σ H Q I h => ?_⟩
  refine PySem.W.methodCall_KW (pl := pl) (thn (he.run pins s σ H _ I h) fun u s1 ⟨x, H1, I1, rx, a, dx, fs, ex, ea, l, q⟩ => ?_) ht
  subst ex
  obtain rfl : u = Value.ref a := rx
  refine getmeth_ok I1 ea c hm l ?_
  exact PySem.W.callWith_K0 (first := [.ref a]) I1.kIn hm.kp (run_fnS (us := [.ref a]) (vs := [.ref a]) F hr hb (hx σ) I1 (.cons rfl .nil) q)
end Own
set_option maxHeartbeats 2000000
namespace Own
open PySem PySem.Spec PyProof.Rows L2 HT
/-! ### d not in [dicts] -/
section
variable {X : Cx}
theorem hits_any {pn : List (Addr × Obj)} {τ : L2.St} {G : Hp} {t : Shared} (J : Inv X pn τ G t) {A : Around} (room : A.units + 64 < cLine) {ls : List (Key × V)} {wb : List (Key × Value)} (kb : KV ls wb) (lb : ∀ p ∈ ls, ∃ d, Dp X.K G p.2 d ∧ SeqAt.shaped d = true) {ks : List (Key × V)} {wa : List (Key × Value)} (ka : KV ks wa) :
    (∀ p ∈ ks, ∃ d, Dp X.K G p.2 d ∧ SeqAt.shaped d = true) → ∃ b, PySem.W.KeqHits A t wb wa b := by
  unfold KV at ka
  induction ka with
  | nil => exact fun _ => ⟨_, .nil⟩
  | @cons e1 e2 _ _ g _ ih =>
    intro all
    obtain ⟨kk, uu⟩ := e2
    obtain ⟨g1, g2⟩ := g
    have g1 : e1.1 = kk := g1
    obtain ⟨d, f2, f4⟩ := all e1 List.mem_cons_self
    obtain ⟨b, hb⟩ := ih fun p m => all p (List.mem_cons_of_mem _ m)
    have ro := kb.val e1.1
    rw [g1] at ro
    cases hv : valV ls kk with
    | none =>
      rw [hv] at ro
      cases hz : valueAt wb kk with
      | none => exact ⟨_, .miss hz⟩
      | some z => rw [hz] at ro; exact ro.elim
    | some u =>
      rw [hv] at ro
      obtain ⟨z, hz, rz⟩ := RelO.some_of ro
      obtain ⟨p, hp, he⟩ : ∃ p ∈ ls, p.2 = u := by
        unfold valV at hv
        cases q : ls.find? fun kv => decide (kv.1 = kk) with
        | none => rw [q] at hv; cases hv
        | some p => rw [q] at hv; exact ⟨p, List.mem_of_find?_eq_some q, Option.some.inj hv⟩
      obtain ⟨d', f3, f5⟩ := lb p hp
      rw [he] at f3
      obtain ⟨_, r1⟩ := Dp.reads J d _ _ f2 g2
      obtain ⟨_, r2⟩ := Dp.reads J d' _ _ f3 rz
      have eq1 := SeqAt.eqAt_reads d d' A t _ _ _ _ r1 r2 (SeqAt.canLay_of_shaped f4) (SeqAt.canLay_of_shaped f5) (SeqAt.room_of_shaped f4 room)
      exact ⟨_, .hit hz eq1 hb⟩
theorem KeqHits.toP {prog : Program} {w : World} {A : Around} {t : Shared} {wb : List (Key × Value)} : ∀ {wa : List (Key × Value)} {b : Bool}, PySem.W.KeqHits A t wb wa b → PySem.W.KeqHitsP prog w A t wb wa b
  | _, _, .nil => .nil
  | _, _, .miss h => .miss h
  | _, _, .hit h e r => .hit h e.eqP (KeqHits.toP r)
/-- a dict whose keys are numbers is one in every world: no number's hash leans on it -/
theorem dictOf_ints {P P' : Program} {w w' : World} {h : Heap} {a : Addr} {kvs : List (Key × Value)} (nk : ∀ p ∈ kvs, ∃ i, p.1 = Sum.inl i) (d : h.DictOf (mixKind P w) a kvs) : h.DictOf (mixKind P' w') a kvs := by
  obtain ⟨o, es, ep, h1, h2, h3, h4, h5, h6⟩ := d
  have key : ∀ {l : List DictEntry} {ks : List (Key × Value)}, PySem.Pairs (mixKind P w) l ks → (∀ p ∈ ks, ∃ i, p.1 = Sum.inl i) → PySem.Pairs (mixKind P' w') l ks ∧ ∀ e ∈ l, ∃ i, keyIs (.inl i) e.key = true := by
    intro l ks z
    induction z with
    | nil => exact fun _ => ⟨.nil, fun _ m => by cases m⟩
    | @cons e kv l ks g1 g2 _ ih =>
      intro al
      obtain ⟨i1, i2⟩ := ih fun p m => al p (List.mem_cons_of_mem _ m)
      obtain ⟨i, ei⟩ := al kv List.mem_cons_self
      refine ⟨.cons g1 g2 i1, fun x m => ?_⟩
      rcases List.mem_cons.mp m with rfl | m
      · exact ⟨i, ei ▸ g1⟩
      · exact i2 x m
  obtain ⟨k1, k2⟩ := key h5 nk
  refine ⟨o, es, ep, h1, h2, h3, fun e m => ?_, k1, h6⟩
  obtain ⟨k, g1, g2⟩ := h4 e m
  obtain ⟨i, g3⟩ := k2 e (Array.mem_toList_iff.mpr m)
  have ek : k = .inl i := (mixKind P w).inj _ _ _ g1 g3
  subst ek
  exact ⟨.inl i, g1, g2⟩
theorem KV.nums {ks : List (Key × V)} {vs : List (Key × Value)} (r : KV ks vs) : (∀ p ∈ ks, ∃ i, p.1 = Sum.inl i) → ∀ p ∈ vs, ∃ i, p.1 = Sum.inl i := by
  unfold KV at r
  induction r with
  | nil => exact fun _ _ m => by cases m
  | @cons p v _ _ g _ ih =>
    intro al x m
    rcases List.mem_cons.mp m with rfl | m
    · obtain ⟨i, ei⟩ := al p List.mem_cons_self
      exact ⟨i, g.1 ▸ ei⟩
    · exact ih (fun y n => al y (List.mem_cons_of_mem _ n)) x m
/-- a dict of data, its keys numbers -/
def DctOk (K : PySem.W.Frag) (H : Hp) (v : V) : Prop := ∃ a ks, v = .ref a ∧ H a = some (.dK ks) ∧ ∀ p ∈ ks, (∃ i, p.1 = Sum.inl i) ∧ ∃ d, Dp K H p.2 d ∧ SeqAt.shaped d = true
theorem dct_eq {pn : List (Addr × Obj)} {τ : L2.St} {G : Hp} {t : Shared} (J : Inv X pn τ G t) {A : Around} (room : A.units + 65 < cLine) {x y : V} {v u : Value} (hx : DctOk X.K G x) (hy : DctOk X.K G y) (rx : RelV x v) (ry : RelV y u) : ∃ b, SeqAt.EqAt A t v u b := by
  obtain ⟨a, ks, rfl, ea, fa⟩ := hx
  obtain ⟨c, ls, rfl, ec, fc⟩ := hy
  cases (show v = Value.ref a from rx)
  cases (show u = Value.ref c from ry)
  by_cases h : a = c
  · subst h
    exact ⟨true, SeqAt.EqAt.same _⟩
  obtain ⟨_, ya, wa, ra, da⟩ := (show ObjOk X.prog X.w G t.heap a (.dK ks) from J.hok a _ ea)
  obtain ⟨_, yb, wb, rb, db⟩ := (show ObjOk X.prog X.w G t.heap c (.dK ls) from J.hok c _ ec)
  obtain ⟨r, hr⟩ := hits_any J (A := A.in1) (by show A.units + 1 + 64 < cLine; omega) rb (fun p m => (fc p m).2) ra (fun p m => (fa p m).2)
  have na := KV.nums ra fun p m => (fa p m).1
  have nb := KV.nums rb fun p m => (fc p m).1
  exact ⟨_, SeqAt.EqAt.of_refs h fun prog w E Q q => PySem.W.rcP_dicts (knd := mixKind prog w) ya yb (dictOf_ints na da) (dictOf_ints nb db) (by omega) (fun _ => KeqHits.toP hr) E Q q⟩
def rNotInDct (K : PySem.W.Frag) : R2 := fun x y H Q => ∃ p xs, y = .ref p ∧ H p = some (.lst xs) ∧ DctOk K H x ∧ (∀ z ∈ xs, DctOk K H z) ∧ ∀ b, (xs = [] → b = true) → Q (.bl b) H
theorem dct_items {pn : List (Addr × Obj)} {τ : L2.St} {G : Hp} {t : Shared} (J : Inv X pn τ G t) {A : Around} (room : A.units + 65 < cLine) {x : V} {v : Value} (hx : DctOk X.K G x) (rx : RelV x v) : ∀ {xs : List V} {us : List Value}, Vals xs us → (∀ z ∈ xs, DctOk X.K G z) → ∀ u ∈ us, ∃ b, SeqAt.EqAt A t u v b
  | _, _, .nil, _ => fun u hu => by cases hu
  | y :: xs, u :: us, .cons r q, f => fun u' hu => by
    rcases List.mem_cons.mp hu with rfl | hu
    · exact dct_eq J room (f y List.mem_cons_self) hx r rx
    · exact dct_items J room hx rx q (fun z hz => f z (List.mem_cons_of_mem _ hz)) u' hu
open Classical in
theorem op_notInDct (room : X.A.units + 66 < cLine) : OpR X (compareOp .NotIn) (rNotInDct X.K) := by
  intro pins s σ H x y v u Q I rx ry h
  obtain ⟨p, xs, rfl, hp, hx, hxs, q⟩ := h
  cases ry
  obtain ⟨its, r, pl, hz⟩ := I.list (show SqL X.K H p xs from .inl (.inl hp))
  have al := dct_items I (A := X.A.in1) (by show X.A.units + 1 + 65 < cLine; omega) hx rx r hxs
  refine SeqAt.notIn_listAt (fun z => if h : ∃ b, SeqAt.EqAt X.A.in1 s z v b then Classical.choose h else false) pl.isList (fun z hz => ?_) ⟨.bl _, H, I, rfl, q _ fun e0 => ?_⟩
  · have hh := al z (by simpa using hz)
    show SeqAt.EqAt X.A.in1 s z v (if h : ∃ b, SeqAt.EqAt X.A.in1 s z v b then Classical.choose h else false)
    rw [dif_pos hh]
    exact Classical.choose_spec hh
  · subst e0
    cases r
    simp
end
/-! ### matching, of terms -/
mutual
def mt : Ter → Ter → Sb → Bool × Sb
  | .var k, u, B => match Sb.look B k with
    | some s => (eT s u, B)
    | none => (true, B ++ [(k, u)])
  | .ap g as, u, B => match u with
    | .var _ => (false, B)
    | .ap h bs => if g = h ∧ as.length = bs.length then mts as bs B else (false, B)
def mts : List Ter → List Ter → Sb → Bool × Sb
  | [], _, B => (true, B)
  | a :: as, us, B => match us with
    | [] => (true, B)
    | b :: bs => if (mt a b B).1 = true then mts as bs (mt a b B).2 else (false, (mt a b B).2)
end
/-- what a match binds: numbers, to terms that are right and not too deep -/
structure SOk (S : Str → Nat → Prop) (B : Sb) : Prop where
  nd : (Sb.keys B).Nodup
  al : ∀ e ∈ B, (∃ i : Int, e.1 = .inl i ∧ 0 ≤ i) ∧ e.2.wf S natVar ∧ e.2.nest ≤ 100
structure SB (S : Str → Nat → Prop) (H : Hp) (kvs : List (Key × V)) (B : Sb) : Prop where
  at_ : SubT H kvs B
  ok : SOk S B
theorem SB.mono {S : Str → Nat → Prop} {H H' : Hp} {kvs : List (Key × V)} {B : Sb} (h : SB S H kvs B) (m : Tups H H') : SB S H' kvs B := ⟨h.at_.mono m, h.ok⟩
theorem SOk.nil {S : Str → Nat → Prop} : SOk S [] := ⟨List.nodup_nil, (fun _ z => by cases z)⟩
theorem SOk.snoc {S : Str → Nat → Prop} {B : Sb} (g : SOk S B) {i : Int} (hi : 0 ≤ i) {u : Ter} (hw : u.wf S natVar) (hn : u.nest ≤ 100) (h : Sb.look B (.inl i) = none) : SOk S (B ++ [(.inl i, u)]) := by
  refine ⟨?_, fun e he => ?_⟩
  · unfold Sb.keys
    rw [List.map_append]
    exact nd_snoc g.nd (look_not h)
  · rcases List.mem_append.mp he with he | he
    · exact g.al e he
    · rcases List.mem_cons.mp he with rfl | he
      · exact ⟨⟨i, rfl, hi⟩, hw, hn⟩
      · cases he
theorem SB.nil {S : Str → Nat → Prop} {H : Hp} : SB S H [] [] := ⟨.nil, .nil⟩
mutual
theorem mt_ok {S : Str → Nat → Prop} : ∀ (p u : Ter) (B : Sb), p.wf S natVar → u.wf S natVar → u.nest ≤ 100 → SOk S B → SOk S (mt p u B).2 ∧ (mt p u B).2.length ≤ B.length + p.size
  | .var k, u, B, hp, hw, hn, hB => by
    obtain ⟨r, rfl, h1⟩ := hp
    unfold mt
    cases e : Sb.look B (.inl r) with
    | some s => exact ⟨hB, Nat.le_add_right _ _⟩
    | none => exact ⟨hB.snoc h1 hw hn e, by rw [List.length_append]; exact Nat.le_refl _⟩
  | .ap g as, .var k, B, hp, hw, hn, hB => by
    unfold mt
    exact ⟨hB, Nat.le_add_right _ _⟩
  | .ap g as, .ap h bs, B, hp, hw, hn, hB => by
    show SOk S (if g = h ∧ as.length = bs.length then mts as bs B else (false, B)).2 ∧ (if g = h ∧ as.length = bs.length then mts as bs B else (false, B)).2.length ≤ _
    by_cases c : g = h ∧ as.length = bs.length
    · rw [if_pos c]
      have hn : Ter.nests bs + 1 ≤ 100 := hn
      obtain ⟨a, b⟩ := mts_ok as bs B hp.2 hw.2 (by omega) hB
      exact ⟨a, Nat.le_trans b (Nat.add_le_add_left (Nat.le_succ _) _)⟩
    · rw [if_neg c]
      exact ⟨hB, Nat.le_add_right _ _⟩
theorem mts_ok {S : Str → Nat → Prop} : ∀ (ps us : List Ter) (B : Sb), Ter.wfs S natVar ps → Ter.wfs S natVar us → Ter.nests us ≤ 100 → SOk S B → SOk S (mts ps us B).2 ∧ (mts ps us B).2.length ≤ B.length + Ter.sizes ps
  | [], _, B, _, _, _, hB => ⟨hB, Nat.le_add_right _ _⟩
  | a :: as, [], B, _, _, _, hB => ⟨hB, Nat.le_add_right _ _⟩
  | a :: as, b :: bs, B, hp, hw, hn, hB => by
    have hn : max b.nest (Ter.nests bs) ≤ 100 := hn
    have z : Ter.sizes (a :: as) = a.size + Ter.sizes as := rfl
    obtain ⟨x, y⟩ := mt_ok a b B hp.1 hw.1 (by omega) hB
    show SOk S (if (mt a b B).1 = true then mts as bs (mt a b B).2 else (false, (mt a b B).2)).2 ∧ (if (mt a b B).1 = true then mts as bs (mt a b B).2 else (false, (mt a b B).2)).2.length ≤ _
    by_cases c : (mt a b B).1 = true
    · rw [if_pos c]
      obtain ⟨x2, y2⟩ := mts_ok as bs _ hp.2 hw.2 (by omega) x
      exact ⟨x2, by omega⟩
    · rw [if_neg c]
      exact ⟨x, by show (mt a b B).2.length ≤ _; omega⟩
end
theorem mt_int {k : Key} {u : Ter} {B : Sb} {s : Ter} (e : Sb.look B k = some s) : mt (.var k) u B = (eT s u, B) := by
  show (match Sb.look B k with | some s => (eT s u, B) | none => (true, B ++ [(k, u)])) = _
  rw [e]
theorem mt_new {k : Key} {u : Ter} {B : Sb} (e : Sb.look B k = none) : mt (.var k) u B = (true, B ++ [(k, u)]) := by
  show (match Sb.look B k with | some s => (eT s u, B) | none => (true, B ++ [(k, u)])) = _
  rw [e]
theorem mt_ap {g h : Str} {as bs : List Ter} {B : Sb} : mt (.ap g as) (.ap h bs) B = if g = h ∧ as.length = bs.length then mts as bs B else (false, B) := rfl
theorem mt_no {g : Str} {as : List Ter} {k : Key} {B : Sb} : mt (.ap g as) (.var k) B = (false, B) := rfl
theorem mts_at {as bs : List Ter} {B0 B : Sb} {i : Nat} {t u : Ter} (h : mts as bs B0 = mts (as.drop i) (bs.drop i) B) (ea : as[i]? = some t) (eb : bs[i]? = some u) :
    mts as bs B0 = if (mt t u B).1 = true then mts (as.drop (i + 1)) (bs.drop (i + 1)) (mt t u B).2 else (false, (mt t u B).2) := by
  obtain ⟨la, ea⟩ := List.getElem?_eq_some_iff.mp ea
  obtain ⟨lb, eb⟩ := List.getElem?_eq_some_iff.mp eb
  rw [h, List.drop_eq_getElem_cons la, List.drop_eq_getElem_cons lb, ea, eb]
  rfl
/-- nothing that a match has bound is changed later -/
theorem SubT.putN {H : Hp} {kvs : List (Key × V)} {θ : Sb} (h : SubT H kvs θ) {k : Key} {v : V} {t : Ter} (n : Sb.look θ k = none) (ht : TmAt H v t) : SubT H (putK kvs k v) (θ ++ [(k, t)]) := h.put (look_not n) ht
theorem SymF.lay {S : Str → Nat → Prop} (SF : SymF S) {t : Ter} (h : t.wf S natVar) : t.dat.canLay0 = true ∧ t.dat.depth ≤ t.nest := lay_ter t (SF.fine h)
theorem SymF.shp {S : Str → Nat → Prop} (SF : SymF S) {t : Ter} (h : t.wf S natVar) (n : t.nest ≤ 60) : SeqAt.shaped t.dat = true := shaped_ter (SF.fine h) (by omega)
/-- the one match of two sides -/
def mt2 (x y : Ter × Ter) : Option Sb :=
  if (mt x.1 y.1 []).1 = true then (if (mt x.2 y.2 (mt x.1 y.1 []).2).1 = true then some (mt x.2 y.2 (mt x.1 y.1 []).2).2 else none) else none
end Own
namespace Own
open PySem PySem.Spec PyProof.Rows L2 HT
/-! ### what a match binds: parts of what was matched -/
mutual
theorem mt_prop {P : Ter → Prop} (hs : ∀ h bs, P (.ap h bs) → ∀ b ∈ bs, P b) : ∀ (p u : Ter) (B : Sb), P u → (∀ e ∈ B, P e.2) → ∀ e ∈ (mt p u B).2, P e.2
  | .var k, u, B, hu, hB => by
    cases e : Sb.look B k with
    | some s => rw [mt_int e]; exact hB
    | none =>
      rw [mt_new e]
      intro e he
      rcases List.mem_append.mp he with he | he
      · exact hB e he
      · rw [List.mem_singleton.mp he]; exact hu
  | .ap g as, .var k, B, hu, hB => hB
  | .ap g as, .ap h bs, B, hu, hB => by
    rw [mt_ap]
    by_cases c : g = h ∧ as.length = bs.length
    · rw [if_pos c]; exact mts_prop hs as bs B (hs _ _ hu) hB
    · rw [if_neg c]; exact hB
theorem mts_prop {P : Ter → Prop} (hs : ∀ h bs, P (.ap h bs) → ∀ b ∈ bs, P b) : ∀ (ps us : List Ter) (B : Sb), (∀ u ∈ us, P u) → (∀ e ∈ B, P e.2) → ∀ e ∈ (mts ps us B).2, P e.2
  | [], _, B, _, hB => hB
  | a :: as, [], B, _, hB => hB
  | a :: as, b :: bs, B, hu, hB => by
    have h1 := mt_prop hs a b B (hu b List.mem_cons_self) hB
    show ∀ e ∈ (if (mt a b B).1 = true then mts as bs (mt a b B).2 else (false, (mt a b B).2)).2, P e.2
    by_cases c : (mt a b B).1 = true
    · rw [if_pos c]; exact mts_prop hs as bs _ (fun u h => hu u (List.mem_cons_of_mem _ h)) h1
    · rw [if_neg c]; exact h1
end
mutual
theorem mt_len : ∀ (p u : Ter) (B : Sb), (mt p u B).2.length ≤ B.length + p.size
  | .var k, u, B => by
    cases e : Sb.look B k with
    | some s => rw [mt_int e]; exact Nat.le_add_right _ _
    | none => rw [mt_new e, List.length_append]; exact Nat.le_refl _
  | .ap g as, .var k, B => Nat.le_add_right _ _
  | .ap g as, .ap h bs, B => by
    rw [mt_ap]
    show _ ≤ B.length + (Ter.sizes as + 1)
    by_cases c : g = h ∧ as.length = bs.length
    · rw [if_pos c]; have := mts_len as bs B; omega
    · rw [if_neg c]; exact Nat.le_add_right _ _
theorem mts_len : ∀ (ps us : List Ter) (B : Sb), (mts ps us B).2.length ≤ B.length + Ter.sizes ps
  | [], _, B => Nat.le_add_right _ _
  | a :: as, [], B => Nat.le_add_right _ _
  | a :: as, b :: bs, B => by
    have h1 := mt_len a b B
    show (if (mt a b B).1 = true then mts as bs (mt a b B).2 else (false, (mt a b B).2)).2.length ≤ B.length + (a.size + Ter.sizes as)
    by_cases c : (mt a b B).1 = true
    · rw [if_pos c]; have := mts_len as bs (mt a b B).2; omega
    · rw [if_neg c]; show (mt a b B).2.length ≤ _; omega
end
theorem nest_mem {t : Ter} : ∀ {as : List Ter}, t ∈ as → t.nest ≤ Ter.nests as
  | a :: r, h => by
    show t.nest ≤ max a.nest (Ter.nests r)
    rcases List.mem_cons.mp h with rfl | h
    · omega
    · have := nest_mem h; omega
theorem size_mem {t : Ter} : ∀ {as : List Ter}, t ∈ as → t.size ≤ Ter.sizes as
  | a :: r, h => by
    show t.size ≤ a.size + Ter.sizes r
    rcases List.mem_cons.mp h with rfl | h
    · omega
    · have := size_mem h; omega
def bdT (t : Ter) : Prop := t.nest ≤ 8 ∧ t.size ≤ 100000
theorem bdT_sub (h : Str) (bs : List Ter) (H : bdT (.ap h bs)) (b : Ter) (hb : b ∈ bs) : bdT b := by
  obtain ⟨h1, h2⟩ := H
  have h1 : Ter.nests bs + 1 ≤ 8 := h1
  have h2 : Ter.sizes bs + 1 ≤ 100000 := h2
  exact ⟨by have := nest_mem hb; omega, by have := size_mem hb; omega⟩
end Own
namespace Own
open PySem PySem.Spec PyProof.Rows L2 HT
/-! ### the places of applications, in preorder -/
mutual
def Ter.pls : Ter → List (List Int)
  | .var _ => []
  | .ap _ as => [] :: Ter.plss 1 as
def Ter.plss : Int → List Ter → List (List Int)
  | _, [] => []
  | i, a :: r => a.pls.map (i :: ·) ++ Ter.plss (i + 1) r
end
mutual
theorem posOf_walk (p : List Int) : ∀ t : Ter, posOf false (t.walk p) = t.pls.map (p ++ ·)
  | .var k => rfl
  | .ap f as => by
    show p :: posOf false (Ter.walks p 1 as) = (p ++ []) :: (Ter.plss 1 as).map (p ++ ·)
    rw [posOf_walks p 1 as, List.append_nil]
theorem posOf_walks (p : List Int) (i : Int) : ∀ as : List Ter, posOf false (Ter.walks p i as) = (Ter.plss i as).map (p ++ ·)
  | [] => rfl
  | a :: r => by
    show posOf false (a.walk (p ++ [i]) ++ Ter.walks p (i + 1) r) = (a.pls.map (i :: ·) ++ Ter.plss (i + 1) r).map (p ++ ·)
    rw [posOf_app, posOf_walk (p ++ [i]) a, posOf_walks p (i + 1) r, List.map_append, List.map_map]
    congr 1
    refine List.map_congr_left fun q _ => ?_
    show (p ++ [i]) ++ q = p ++ (i :: q)
    rw [List.append_assoc]; rfl
end
theorem posOf_pls (t : Ter) : posOf false (t.walk []) = t.pls := by
  rw [posOf_walk [] t]
  have : (fun x : List Int => [] ++ x) = id := rfl
  rw [this, List.map_id]
theorem plss_app : ∀ (as bs : List Ter) (i : Int), Ter.plss i (as ++ bs) = Ter.plss i as ++ Ter.plss (i + as.length) bs
  | [], bs, i => by
    show Ter.plss i bs = [] ++ Ter.plss (i + (0 : Nat)) bs
    simp
  | a :: r, bs, i => by
    show a.pls.map (i :: ·) ++ Ter.plss (i + 1) (r ++ bs) = (a.pls.map (i :: ·) ++ Ter.plss (i + 1) r) ++ Ter.plss (i + ((r.length + 1 : Nat) : Int)) bs
    rw [plss_app r bs (i + 1), List.append_assoc, show i + 1 + (r.length : Int) = i + ((r.length + 1 : Nat) : Int) by omega]
mutual
theorem pls_len : ∀ t : Ter, t.pls.length ≤ t.size
  | .var _ => Nat.zero_le _
  | .ap f as => by
    have := plss_len 1 as
    show (Ter.plss 1 as).length + 1 ≤ Ter.sizes as + 1
    omega
theorem plss_len (i : Int) : ∀ as : List Ter, (Ter.plss i as).length ≤ Ter.sizes as
  | [] => Nat.zero_le _
  | a :: r => by
    have h1 := pls_len a
    have h2 := plss_len (i + 1) r
    show (a.pls.map (i :: ·) ++ Ter.plss (i + 1) r).length ≤ a.size + Ter.sizes r
    rw [List.length_append, List.length_map]
    omega
end
mutual
/-- every such place is that of an application, not deeper than the term -/
theorem pls_at : ∀ (t : Ter) (q : List Int), q ∈ t.pls → (∃ f as, t.at q = some (.ap f as)) ∧ q.length < t.nest ∧ ∀ y ∈ q, 1 ≤ y
  | .var _, q, h => by cases h
  | .ap f as, q, h => by
    rcases List.mem_cons.mp h with rfl | h
    · exact ⟨⟨f, as, rfl⟩, Nat.succ_pos _, fun _ h => by cases h⟩
    · obtain ⟨i, r, a, e, ea, ⟨g, bs, h1⟩, h2, h3⟩ := plss_at as 1 q h
      have nm : a.nest ≤ Ter.nests as := nest_mem (List.mem_of_getElem? ea)
      refine ⟨⟨g, bs, ?_⟩, ?_, fun y hy => ?_⟩
      · rw [e]
        show ((Ter.ap f as).step (1 + (i : Nat))).bind _ = _
        rw [step_eq, if_pos (by omega), show (1 + (i : Nat) - 1 : Int).toNat = i by omega, ea]
        exact h1
      · rw [e]
        show r.length + 1 < Ter.nests as + 1
        omega
      · rw [e] at hy
        rcases List.mem_cons.mp hy with rfl | hy
        · omega
        · exact h3 y hy
theorem plss_at : ∀ (as : List Ter) (i : Int) (q : List Int), q ∈ Ter.plss i as → ∃ (k : Nat) (r : List Int) (a : Ter), q = (i + k) :: r ∧ as[k]? = some a ∧ (∃ f bs, a.at r = some (.ap f bs)) ∧ r.length < a.nest ∧ ∀ y ∈ r, 1 ≤ y
  | [], i, q, h => by cases h
  | a :: r, i, q, h => by
    rcases List.mem_append.mp h with h | h
    · obtain ⟨s, hs, rfl⟩ := List.mem_map.mp h
      exact ⟨0, s, a, by show i :: s = (i + (0 : Nat)) :: s; simp, rfl, pls_at a s hs⟩
    · obtain ⟨k, s, b, e, eb, hs⟩ := plss_at r (i + 1) q h
      exact ⟨k + 1, s, b, by rw [e, show i + 1 + (k : Int) = i + ((k + 1 : Nat) : Int) by omega], by rw [List.getElem?_cons_succ]; exact eb, hs⟩
end
end Own
namespace Own
open PySem PySem.Spec PyProof.Rows L2 HT
/-! ### a match that succeeds: the pattern becomes the term -/
def sbF (B : Sb) (k : Key) : Ter := (Sb.look B k).getD (.var k)
def extS (B B' : Sb) : Prop := ∀ k s, Sb.look B k = some s → Sb.look B' k = some s
theorem extS.refl (B : Sb) : extS B B := fun _ _ h => h
theorem extS.trans {A B C : Sb} (a : extS A B) (b : extS B C) : extS A C := fun k s h => b k s (a k s h)
mutual
theorem mt_ext : ∀ (p u : Ter) (B : Sb), extS B (mt p u B).2
  | .var k, u, B => by
    cases e : Sb.look B k with
    | some s => rw [mt_int e]; exact extS.refl _
    | none =>
      rw [mt_new e]
      intro j s hj
      show Sb.look (B ++ [(k, u)]) j = some s
      rw [look_app, hj]; rfl
  | .ap g as, .var k, B => extS.refl _
  | .ap g as, .ap h bs, B => by
    rw [mt_ap]
    by_cases c : g = h ∧ as.length = bs.length
    · rw [if_pos c]; exact mts_ext as bs B
    · rw [if_neg c]; exact extS.refl _
theorem mts_ext : ∀ (ps us : List Ter) (B : Sb), extS B (mts ps us B).2
  | [], _, B => extS.refl _
  | a :: as, [], B => extS.refl _
  | a :: as, b :: bs, B => by
    have h1 := mt_ext a b B
    show extS B (if (mt a b B).1 = true then mts as bs (mt a b B).2 else (false, (mt a b B).2)).2
    by_cases c : (mt a b B).1 = true
    · rw [if_pos c]; exact h1.trans (mts_ext as bs _)
    · rw [if_neg c]; exact h1
end
mutual
theorem mt_sound : ∀ (p u : Ter) (B C : Sb), (mt p u B).1 = true → extS (mt p u B).2 C → p.bind (sbF C) = u
  | .var k, u, B, C, h, hC => by
    show sbF C k = u
    unfold sbF
    cases e : Sb.look B k with
    | some s =>
      rw [mt_int e] at h hC
      have : eT s u = true := h
      rw [hC k s e]
      exact (eT_iff s u).mp this
    | none =>
      rw [mt_new e] at hC
      have : Sb.look (B ++ [(k, u)]) k = some u := by
        rw [look_app, e]
        show (if k = k then some u else none) = some u
        exact if_pos rfl
      rw [hC k u this]; rfl
  | .ap g as, .var k, B, C, h, hC => by cases h
  | .ap g as, .ap f bs, B, C, h, hC => by
    rw [mt_ap] at h hC
    by_cases c : g = f ∧ as.length = bs.length
    · rw [if_pos c] at h hC
      show Ter.ap g (Ter.binds (sbF C) as) = Ter.ap f bs
      rw [mts_sound as bs B C c.2 h hC, c.1]
    · rw [if_neg c] at h; cases h
theorem mts_sound : ∀ (ps us : List Ter) (B C : Sb), ps.length = us.length → (mts ps us B).1 = true → extS (mts ps us B).2 C → Ter.binds (sbF C) ps = us
  | [], [], B, C, _, _, _ => rfl
  | [], b :: bs, B, C, l, _, _ => by cases l
  | a :: as, [], B, C, l, _, _ => by cases l
  | a :: as, b :: bs, B, C, l, h, hC => by
    have h : (if (mt a b B).1 = true then mts as bs (mt a b B).2 else (false, (mt a b B).2)).1 = true := h
    have hC : extS (if (mt a b B).1 = true then mts as bs (mt a b B).2 else (false, (mt a b B).2)).2 C := hC
    by_cases c : (mt a b B).1 = true
    · rw [if_pos c] at h hC
      show a.bind (sbF C) :: Ter.binds (sbF C) as = b :: bs
      rw [mt_sound a b B C c ((mts_ext as bs _).trans hC), mts_sound as bs _ C (Nat.succ.inj l) h hC]
    · rw [if_neg c] at h; cases h
end
/-! ### sums, bounded -/
mutual
theorem lin_split (c : Int) (i o : Str → Int) : ∀ t : Ter, t.lin (fun f => c * i f + o f) (fun _ => 1) = c * t.lin i (fun _ => 0) + t.lin o (fun _ => 1)
  | .var _ => by show (1 : Int) = c * 0 + 1; omega
  | .ap f as => by
    have h := lins_split c i o as
    show c * i f + o f + Ter.lins _ _ as = c * (i f + Ter.lins _ _ as) + (o f + Ter.lins _ _ as)
    rw [h, Int.mul_add]; omega
theorem lins_split (c : Int) (i o : Str → Int) : ∀ ts : List Ter, Ter.lins (fun f => c * i f + o f) (fun _ => 1) ts = c * Ter.lins i (fun _ => 0) ts + Ter.lins o (fun _ => 1) ts
  | [] => by show (0 : Int) = c * 0 + 0; omega
  | a :: r => by
    have h1 := lin_split c i o a
    have h2 := lins_split c i o r
    show a.lin _ _ + Ter.lins _ _ r = c * (a.lin _ _ + Ter.lins _ _ r) + (a.lin _ _ + Ter.lins _ _ r)
    rw [h1, h2, Int.mul_add]; omega
end
mutual
theorem lin_nonneg {w : Str → Int} {v : Key → Int} (hw : ∀ f, 0 ≤ w f) (hv : ∀ k, 0 ≤ v k) : ∀ t : Ter, 0 ≤ t.lin w v
  | .var k => hv k
  | .ap f as => by
    have := lins_nonneg hw hv as
    have := hw f
    show 0 ≤ w f + Ter.lins w v as
    omega
theorem lins_nonneg {w : Str → Int} {v : Key → Int} (hw : ∀ f, 0 ≤ w f) (hv : ∀ k, 0 ≤ v k) : ∀ ts : List Ter, 0 ≤ Ter.lins w v ts
  | [] => Int.le_refl _
  | a :: r => by
    have := lin_nonneg hw hv a
    have := lins_nonneg hw hv r
    show 0 ≤ a.lin w v + Ter.lins w v r
    omega
end
mutual
theorem lin_le3 {w : Str → Int} (hw : ∀ f, w f ≤ 3) : ∀ t : Ter, t.lin w (fun _ => 1) ≤ 3 * (t.size : Nat)
  | .var _ => by show (1 : Int) ≤ 3 * ((1 : Nat) : Int); omega
  | .ap f as => by
    have h := lins_le3 hw as
    have := hw f
    show w f + Ter.lins w _ as ≤ 3 * ((Ter.sizes as + 1 : Nat) : Int)
    omega
theorem lins_le3 {w : Str → Int} (hw : ∀ f, w f ≤ 3) : ∀ ts : List Ter, Ter.lins w (fun _ => 1) ts ≤ 3 * (Ter.sizes ts : Nat)
  | [] => by show (0 : Int) ≤ 3 * ((0 : Nat) : Int); omega
  | a :: r => by
    have h1 := lin_le3 hw a
    have h2 := lins_le3 hw r
    show a.lin w _ + Ter.lins w _ r ≤ 3 * ((a.size + Ter.sizes r : Nat) : Int)
    omega
end
mutual
theorem size_lin {w : Str → Int} (hw : ∀ f, 1 ≤ w f) : ∀ t : Ter, (t.size : Int) ≤ t.lin w (fun _ => 1)
  | .var _ => by show ((1 : Nat) : Int) ≤ 1; omega
  | .ap f as => by
    have h := sizes_lin hw as
    have := hw f
    show ((Ter.sizes as + 1 : Nat) : Int) ≤ w f + Ter.lins w _ as
    omega
theorem sizes_lin {w : Str → Int} (hw : ∀ f, 1 ≤ w f) : ∀ ts : List Ter, (Ter.sizes ts : Int) ≤ Ter.lins w (fun _ => 1) ts
  | [] => Int.le_refl _
  | a :: r => by
    have h1 := size_lin hw a
    have h2 := sizes_lin hw r
    show ((a.size + Ter.sizes r : Nat) : Int) ≤ a.lin w _ + Ter.lins w _ r
    omega
end
theorem lins_modify (w : Str → Int) (v : Key → Int) (g : Ter → Ter) : ∀ (as : List Ter) (i : Nat) (a : Ter), as[i]? = some a → Ter.lins w v (as.modify i g) = Ter.lins w v as - a.lin w v + (g a).lin w v
  | [], _, _, h => by cases h
  | b :: r, 0, a, h => by
    have : b = a := Option.some.inj h
    subst this
    rw [List.modify_zero_cons]
    show (g b).lin w v + Ter.lins w v r = b.lin w v + Ter.lins w v r - b.lin w v + (g b).lin w v
    omega
  | b :: r, i + 1, a, h => by
    have := lins_modify w v g r i a (by simpa using h)
    rw [List.modify_succ_cons]
    show b.lin w v + Ter.lins w v (r.modify i g) = b.lin w v + Ter.lins w v r - a.lin w v + (g a).lin w v
    omega
theorem lin_put (w : Str → Int) (v : Key → Int) (x : Ter) : ∀ (q : List Int) (t u : Ter), t.at q = some u → (t.put x q).lin w v = t.lin w v - u.lin w v + x.lin w v
  | [], t, u, h => by
    have h : some t = some u := by cases t <;> exact h
    cases h
    have : t.put x [] = x := by cases t <;> rfl
    rw [this]; omega
  | n :: r, .var k, u, h => by cases h
  | n :: r, .ap f as, u, h => by
    have h : ((Ter.ap f as).step n).bind (fun a => a.at r) = some u := h
    cases e : (Ter.ap f as).step n with
    | none => rw [e] at h; cases h
    | some a =>
      rw [e] at h
      have h : a.at r = some u := h
      obtain ⟨_, ea⟩ := step_ap e
      have ih := lin_put w v x r a u h
      show w f + Ter.lins w v (as.modify (n - 1).toNat fun a => a.put x r) = w f + Ter.lins w v as - u.lin w v + x.lin w v
      rw [lins_modify w v _ as _ a ea]
      omega
theorem lins_get (w : Str → Int) (v : Key → Int) (hw : ∀ f, 0 ≤ w f) (hv : ∀ k, 0 ≤ v k) : ∀ {as : List Ter} {i : Nat} {a : Ter}, as[i]? = some a → a.lin w v ≤ Ter.lins w v as
  | [], _, _, h => by cases h
  | b :: r, 0, a, h => by
    have : b = a := Option.some.inj h
    subst this
    have := lins_nonneg hw hv r
    show b.lin w v ≤ b.lin w v + Ter.lins w v r
    omega
  | b :: r, i + 1, a, h => by
    have h1 := lins_get w v hw hv (as := r) (i := i) (a := a) (by simpa using h)
    have := lin_nonneg hw hv b
    show a.lin w v ≤ b.lin w v + Ter.lins w v r
    omega
theorem lin_at (w : Str → Int) (v : Key → Int) (hw : ∀ f, 0 ≤ w f) (hv : ∀ k, 0 ≤ v k) : ∀ (q : List Int) (t u : Ter), t.at q = some u → u.lin w v ≤ t.lin w v
  | [], t, u, h => by
    have h : some t = some u := by cases t <;> exact h
    cases h
    exact Int.le_refl _
  | n :: r, .var k, u, h => by cases h
  | n :: r, .ap f as, u, h => by
    have h : ((Ter.ap f as).step n).bind (fun a => a.at r) = some u := h
    cases e : (Ter.ap f as).step n with
    | none => rw [e] at h; cases h
    | some a =>
      rw [e] at h
      have h : a.at r = some u := h
      obtain ⟨_, ea⟩ := step_ap e
      have h1 := lin_at w v hw hv r a u h
      have h2 := lins_get w v hw hv ea
      have := hw f
      show u.lin w v ≤ w f + Ter.lins w v as
      omega
/-! ### one symbol may weigh very much -/
structure UpW (f0 : Str) (w : Str → Int) : Prop where
  one : ∀ f, 1 ≤ w f
  le : ∀ f, f ≠ f0 → w f ≤ 3
  big : w f0 ≤ 3 ∨ w f0 = 10 ^ 20 + 3
/-- the heavy symbol at 21 -/
def lowW (f0 : Str) (w : Str → Int) (f : Str) : Int := if f = f0 then (if 3 < w f0 then 21 else w f0) else w f
theorem lowW_one {f0 : Str} {w : Str → Int} (U : UpW f0 w) (f : Str) : 1 ≤ lowW f0 w f := by
  unfold lowW
  split
  · split
    · decide
    · exact U.one f0
  · exact U.one f
theorem low_rule {f0 : Str} {w : Str → Int} (U : UpW f0 w) {l r : Ter} (h : r.lin w (fun _ => 1) ≤ l.lin w (fun _ => 1)) (zl : l.size ≤ 8) (zr : r.size ≤ 7) : r.lin (lowW f0 w) (fun _ => 1) ≤ l.lin (lowW f0 w) (fun _ => 1) := by
  by_cases hv : 3 < w f0
  · have big : w f0 = 10 ^ 20 + 3 := by
      rcases U.big with b | b
      · omega
      · exact b
    have e1 : w = fun f => (10 ^ 20 + 3) * (if f = f0 then 1 else 0) + (if f = f0 then 0 else w f) := by
      funext f
      by_cases c : f = f0
      · rw [if_pos c, if_pos c, c, big]; rfl
      · rw [if_neg c, if_neg c]; omega
    have e2 : lowW f0 w = fun f => 21 * (if f = f0 then 1 else 0) + (if f = f0 then 0 else w f) := by
      funext f
      unfold lowW
      by_cases c : f = f0
      · rw [if_pos c, if_pos c, if_pos c, if_pos hv]; rfl
      · rw [if_neg c, if_neg c, if_neg c]; omega
    have o3 : ∀ f, (if f = f0 then 0 else w f) ≤ 3 := fun f => by
      split
      · decide
      · rename_i c; exact U.le f c
    have o0 : ∀ f, 0 ≤ (if f = f0 then 0 else w f) := fun f => by
      split
      · decide
      · have := U.one f; omega
    have i0 : ∀ f : Str, (0 : Int) ≤ (if f = f0 then 1 else 0) := fun f => by split <;> decide
    rw [e1, lin_split, lin_split] at h
    rw [e2, lin_split, lin_split]
    have a1 := lin_le3 o3 l
    have a2 := lin_le3 o3 r
    have b1 := lin_nonneg o0 (v := fun _ => 1) (fun _ => by decide) l
    have b2 := lin_nonneg o0 (v := fun _ => 1) (fun _ => by decide) r
    generalize l.lin (fun f => if f = f0 then 0 else w f) (fun _ => 1) = L at *
    generalize r.lin (fun f => if f = f0 then 0 else w f) (fun _ => 1) = R at *
    generalize l.lin (fun f => if f = f0 then 1 else 0) (fun _ => 0) = nl at *
    generalize r.lin (fun f => if f = f0 then 1 else 0) (fun _ => 0) = nr at *
    have n1 : nr ≤ nl := by omega
    omega
  · have : lowW f0 w = w := by
      funext f
      unfold lowW
      by_cases c : f = f0
      · rw [if_pos c, if_neg hv, c]
      · rw [if_neg c]
    rw [this]; exact h
/-- a rule, and what it does to an instance -/
theorem low_inst {f0 : Str} {w : Str → Int} (U : UpW f0 w) {l r : Ter} (g : cge l r) (h : r.lin w (fun _ => 1) ≤ l.lin w (fun _ => 1)) (zl : l.size ≤ 8) (zr : r.size ≤ 7) (s : Key → Ter) : (r.bind s).lin (lowW f0 w) (fun _ => 1) ≤ (l.bind s).lin (lowW f0 w) (fun _ => 1) := by
  obtain ⟨L, nd, hl, hr⟩ := vars_two l r
  have m := lin_mono (lowW f0 w) (v0 := fun _ => 1) (v1 := fun x => (s x).lin (lowW f0 w) fun _ => 1) (fun x => by
    have := size_lin (lowW_one U) (s x)
    have := (s x).size_pos
    omega) nd hl hr g
  have := low_rule U h zl zr
  rw [lin_bind, lin_bind]
  omega
theorem len_two {α : Type} : ∀ {l : List α}, l.length = 2 → ∃ a b, l = [a, b]
  | [a, b], _ => ⟨a, b, rfl⟩
/-! ### how deep, by weight -/
def phi (A : Int) : Nat → Int
  | 0 => 0
  | 1 => 3
  | n + 2 => max (A + phi A (n + 1)) (3 + 2 * phi A (n + 1))
theorem phi_mono {A : Int} (h : 0 ≤ A) : ∀ n : Nat, 0 ≤ phi A n ∧ phi A n ≤ phi A (n + 1)
  | 0 => ⟨Int.le_refl _, by show (0 : Int) ≤ 3; decide⟩
  | 1 => ⟨by show (0 : Int) ≤ 3; decide, by show (3 : Int) ≤ max (A + 3) (3 + 2 * 3); omega⟩
  | n + 2 => by
    obtain ⟨h1, h2⟩ := phi_mono h (n + 1)
    have h2 : phi A (n + 1) ≤ phi A (n + 2) := h2
    have h3 : 0 ≤ phi A (n + 2) := by omega
    refine ⟨h3, ?_⟩
    show phi A (n + 2) ≤ max (A + phi A (n + 2)) (3 + 2 * phi A (n + 2))
    omega
theorem phi_le {A : Int} (h : 0 ≤ A) {n m : Nat} (l : n ≤ m) : phi A n ≤ phi A m := by
  induction l with
  | refl => exact Int.le_refl _
  | step _ ih => exact Int.le_trans ih (phi_mono h _).2
/-- symbols of the menu: f0 has one argument, the others none or two -/
def shpW (f0 : Str) (f : Str) (n : Nat) : Prop := (f = f0 ∧ n = 1) ∨ (f ≠ f0 ∧ (n = 0 ∨ n = 2))
theorem low_phi {f0 : Str} {w : Str → Int} (U : UpW f0 w) (S : Str → Nat → Prop) (hS : ∀ f n, S f n → shpW f0 f n) {V : Key → Prop} : ∀ (t : Ter) (n : Nat), t.wf S V → t.nest ≤ n → t.lin (lowW f0 w) (fun _ => 1) ≤ phi (lowW f0 w f0) n
  | .var k, n, _, hn => by
    have hn : 1 ≤ n := hn
    have := phi_le (A := lowW f0 w f0) (by have := lowW_one U f0; omega) hn
    have e : phi (lowW f0 w f0) 1 = 3 := rfl
    show (1 : Int) ≤ _
    omega
  | .ap f as, n, hw, hn => by
    have hn : Ter.nests as + 1 ≤ n := hn
    obtain ⟨m, rfl⟩ : ∃ m, n = m + 1 := ⟨n - 1, by omega⟩
    have A0 : 0 ≤ lowW f0 w f0 := by have := lowW_one U f0; omega
    rcases hS _ _ hw.1 with ⟨rfl, l1⟩ | ⟨nf, l0 | l2⟩
    · obtain ⟨a, rfl⟩ := List.length_eq_one_iff.mp l1
      have hn : max a.nest 0 + 1 ≤ m + 1 := hn
      have ih := low_phi U S hS a m hw.2.1 (by omega)
      have np := a.nest_pos
      obtain ⟨k, rfl⟩ : ∃ k, m = k + 1 := ⟨m - 1, by omega⟩
      show lowW f w f + (a.lin _ _ + 0) ≤ max (lowW f w f + phi (lowW f w f) (k + 1)) (3 + 2 * phi (lowW f w f) (k + 1))
      omega
    · have := List.length_eq_zero_iff.mp l0
      subst this
      have w3 : lowW f0 w f ≤ 3 := by unfold lowW; rw [if_neg nf]; exact U.le f nf
      have := phi_le (A := lowW f0 w f0) A0 (show 1 ≤ m + 1 by omega)
      have e : phi (lowW f0 w f0) 1 = 3 := rfl
      show lowW f0 w f + 0 ≤ _
      omega
    · obtain ⟨a, b, rfl⟩ := len_two l2
      have hn : max a.nest (max b.nest 0) + 1 ≤ m + 1 := hn
      have ih1 := low_phi U S hS a m hw.2.1 (by omega)
      have ih2 := low_phi U S hS b m hw.2.2.1 (by omega)
      have np := a.nest_pos
      have w3 : lowW f0 w f ≤ 3 := by unfold lowW; rw [if_neg nf]; exact U.le f nf
      obtain ⟨k, rfl⟩ : ∃ k, m = k + 1 := ⟨m - 1, by omega⟩
      show lowW f0 w f + (a.lin _ _ + (b.lin _ _ + 0)) ≤ max (lowW f0 w f0 + phi (lowW f0 w f0) (k + 1)) (3 + 2 * phi (lowW f0 w f0) (k + 1))
      omega
theorem low_nest2 {f0 : Str} {w : Str → Int} (U : UpW f0 w) (hv : 3 < w f0) (S : Str → Nat → Prop) (hS : ∀ f n, S f n → shpW f0 f n) {V : Key → Prop} : ∀ (t : Ter), t.wf S V → 2 * (t.nest : Int) ≤ t.lin (lowW f0 w) (fun _ => 1) + 1
  | .var k, _ => by show 2 * ((1 : Nat) : Int) ≤ 1 + 1; omega
  | .ap f as, hw => by
    have o := lowW_one U f
    rcases hS _ _ hw.1 with ⟨rfl, l1⟩ | ⟨nf, l0 | l2⟩
    · obtain ⟨a, rfl⟩ := List.length_eq_one_iff.mp l1
      have ih := low_nest2 U hv S hS a hw.2.1
      have e : lowW f w f = 21 := by unfold lowW; rw [if_pos rfl, if_pos hv]
      show 2 * ((max a.nest 0 + 1 : Nat) : Int) ≤ lowW f w f + (a.lin _ _ + 0) + 1
      omega
    · have := List.length_eq_zero_iff.mp l0
      subst this
      show 2 * ((0 + 1 : Nat) : Int) ≤ lowW f0 w f + 0 + 1
      omega
    · obtain ⟨a, b, rfl⟩ := len_two l2
      have ih1 := low_nest2 U hv S hS a hw.2.1
      have ih2 := low_nest2 U hv S hS b hw.2.2.1
      have p1 := size_lin (lowW_one U) a
      have p2 := size_lin (lowW_one U) b
      have q1 := a.size_pos
      have q2 := b.size_pos
      show 2 * ((max a.nest (max b.nest 0) + 1 : Nat) : Int) ≤ lowW f0 w f + (a.lin _ _ + (b.lin _ _ + 0)) + 1
      omega
/-- what rewriting never passes -/
def lowB (f0 : Str) (w : Str → Int) : Int := if 3 < w f0 then 153 else 60
def LowT (f0 : Str) (w : Str → Int) (S : Str → Nat → Prop) (t : Ter) : Prop := t.wf S natVar ∧ t.lin (lowW f0 w) (fun _ => 1) ≤ lowB f0 w
theorem LowT.bd {f0 : Str} {w : Str → Int} (U : UpW f0 w) {S : Str → Nat → Prop} (hS : ∀ f n, S f n → shpW f0 f n) {t : Ter} (h : LowT f0 w S t) : t.size ≤ 153 ∧ t.nest ≤ 77 := by
  obtain ⟨h1, h2⟩ := h
  have z := size_lin (lowW_one U) t
  unfold lowB at h2
  by_cases hv : 3 < w f0
  · rw [if_pos hv] at h2
    have := low_nest2 U hv S hS t h1
    exact ⟨by omega, by omega⟩
  · rw [if_neg hv] at h2
    have := nest_size t
    exact ⟨by omega, by omega⟩
theorem lowW_f0 {f0 : Str} {w : Str → Int} (U : UpW f0 w) : (3 < w f0 ∧ lowW f0 w f0 = 21) ∨ (¬ 3 < w f0 ∧ lowW f0 w f0 ≤ 3) := by
  unfold lowW
  rw [if_pos rfl]
  by_cases hv : 3 < w f0
  · rw [if_pos hv]; exact .inl ⟨hv, rfl⟩
  · rw [if_neg hv]; exact .inr ⟨hv, by omega⟩
/-! ### bind, sharply -/
mutual
theorem bind_nest1 {s : Key → Ter} {m : Nat} (h1 : 1 ≤ m) (h : ∀ k, (s k).nest ≤ m) : ∀ t : Ter, (t.bind s).nest + 1 ≤ t.nest + m
  | .var k => by have := h k; show (s k).nest + 1 ≤ 1 + m; omega
  | .ap f as => by
    have := binds_nest1 h1 h as
    show (Ter.nests (Ter.binds s as) + 1) + 1 ≤ (Ter.nests as + 1) + m
    omega
theorem binds_nest1 {s : Key → Ter} {m : Nat} (h1 : 1 ≤ m) (h : ∀ k, (s k).nest ≤ m) : ∀ ts : List Ter, Ter.nests (Ter.binds s ts) + 1 ≤ Ter.nests ts + m
  | [] => by show 0 + 1 ≤ 0 + m; omega
  | a :: r => by
    have h1' := bind_nest1 h1 h a
    have h2' := binds_nest1 h1 h r
    show max (a.bind s).nest (Ter.nests (Ter.binds s r)) + 1 ≤ max a.nest (Ter.nests r) + m
    omega
end
/-! ### rewriting -/
abbrev Rls := List (Ter × Ter)
def stepR (R : Rls) (u : Ter) : Option Ter := R.findSome? fun e => if (mt e.1 u []).1 = true then some (e.2.bind (sbF (mt e.1 u []).2)) else none
def stepAt (R : Rls) (t : Ter) (q : List Int) : Option Ter := match t.at q with
  | none => none
  | some u => (stepR R u).map fun x => t.put x q
def onceT (R : Rls) (t : Ter) : Option Ter := t.pls.findSome? (stepAt R t)
def nfT (R : Rls) : Nat → Ter → Option Ter
  | 0, _ => none
  | n + 1, t => match onceT R t with
    | none => some t
    | some u => nfT R n u
/-- a rule that may be used -/
structure RlOk (f0 : Str) (w : Str → Int) (S : Str → Nat → Prop) (e : Ter × Ter) : Prop where
  w1 : e.1.wf S natVar
  w2 : e.2.wf S natVar
  n1 : e.1.nest ≤ 4
  n2 : e.2.nest ≤ 3
  z1 : e.1.size ≤ 8
  z2 : e.2.size ≤ 7
  sh : e.1.nest ≤ 3 ∨ ∃ t, e.1 = .ap f0 [t] ∧ t.nest ≤ 3
  ge : cge e.1 e.2
  le : e.2.lin w (fun _ => 1) ≤ e.1.lin w (fun _ => 1)
theorem sbF_wf {S : Str → Nat → Prop} {B : Sb} (h : SOk S B) (k : Key) (hk : natVar k) : (sbF B k).wf S natVar := by
  unfold sbF
  cases e : Sb.look B k with
  | none => exact hk
  | some s => exact (h.al _ (slook_mem e)).2.1
theorem stepR_low {f0 : Str} {w : Str → Int} (U : UpW f0 w) {S : Str → Nat → Prop} (hS : ∀ f n, S f n → shpW f0 f n) {e : Ter × Ter} (he : RlOk f0 w S e) {u : Ter} (hu : LowT f0 w S u) (c : (mt e.1 u []).1 = true) : (e.2.bind (sbF (mt e.1 u []).2)).wf S natVar ∧ (e.2.bind (sbF (mt e.1 u []).2)).lin (lowW f0 w) (fun _ => 1) ≤ u.lin (lowW f0 w) (fun _ => 1) := by
  have bd := LowT.bd U hS hu
  have so := (mt_ok e.1 u [] he.w1 hu.1 (by omega) SOk.nil).1
  refine ⟨bind_wf (fun k hk => sbF_wf so k hk) _ he.w2, ?_⟩
  have h := low_inst U he.ge he.le he.z1 he.z2 (sbF (mt e.1 u []).2)
  rw [mt_sound e.1 u [] _ c (extS.refl _)] at h
  exact h
theorem LowT.at_ {f0 : Str} {w : Str → Int} (U : UpW f0 w) {S : Str → Nat → Prop} {t u : Ter} {q : List Int} (h : LowT f0 w S t) (e : t.at q = some u) : LowT f0 w S u := by
  refine ⟨(at_wf q t u h.1 e).1, ?_⟩
  have := lin_at (lowW f0 w) (fun _ => 1) (fun f => by have := lowW_one U f; omega) (fun _ => by decide) q t u e
  exact Int.le_trans this h.2
theorem LowT.put {f0 : Str} {w : Str → Int} {S : Str → Nat → Prop} {t u x : Ter} {q : List Int} (h : LowT f0 w S t) (e : t.at q = some u) (hx : x.wf S natVar) (l : x.lin (lowW f0 w) (fun _ => 1) ≤ u.lin (lowW f0 w) (fun _ => 1)) (pw : (t.put x q).wf S natVar) : LowT f0 w S (t.put x q) := by
  refine ⟨pw, ?_⟩
  rw [lin_put _ _ x q t u e]
  have := h.2
  omega
end Own
namespace Own
open PySem PySem.Spec PyProof.Rows L2 HT
/-- a promise for each of many, as one -/
theorem fnEx {P : Program} {w : World} {K : PySem.W.Frag} {mg : Str → Option Value} {base : Heap} {CX : CXT} {k : Nat} {f : Addr} {fd : FuncData} {ps : List Str} {ι : Type} {C : ι → Prop} {sp : ι → Sp} (G : ∀ i, C i → FnOk P w K mg base CX k f fd ps (sp i)) : FnOk P w K mg base CX k f fd ps (fun vs H Q E => ∃ i, C i ∧ sp i vs H Q E) :=
  ⟨fun vs H Q E ⟨i, c, h⟩ => (G i c).1 vs H Q E h, fun A outer s H args us vs Q E a b c d ⟨i, ci, h⟩ => (G i ci).2 A outer s H args us vs Q E a b c d h⟩
/-! ### the first of a list that gives something -/
theorem fs_take {α β : Type} {f : α → Option β} : ∀ {L : List α} {i : Nat} {a : α} {b : β}, (L.take i).findSome? f = none → L[i]? = some a → f a = some b → L.findSome? f = some b
  | [], _, _, _, _, h, _ => by cases h
  | x :: r, 0, a, b, _, h, hb => by
    have : x = a := Option.some.inj h
    subst this
    rw [List.findSome?_cons, hb]
  | x :: r, i + 1, a, b, h0, h, hb => by
    rw [List.take_succ_cons, List.findSome?_cons] at h0
    rw [List.findSome?_cons]
    cases e : f x with
    | some y => rw [e] at h0; cases h0
    | none => rw [e] at h0; exact fs_take (i := i) h0 (by simpa using h) hb
theorem fs_next {α β : Type} {f : α → Option β} {L : List α} {i : Nat} {a : α} (h0 : (L.take i).findSome? f = none) (h : L[i]? = some a) (hb : f a = none) : (L.take (i + 1)).findSome? f = none := by
  rw [List.take_add_one, h, List.findSome?_append, h0]
  show (none : Option β).or ([a].findSome? f) = none
  rw [List.findSome?_cons, hb]; rfl
end Own
namespace K76
open PySem PySem.Spec PyProof.Rows L2 Own HT
def topS (i : Nat) : Stmt := PySem.Challenge.pw_elenchus_k76_rewriting_and_normal_forms.main.body.getD i (.Pass ⟨0, 0, 0, 0⟩)
abbrev s_is_integer : Stmt := topS 3
abbrev s_decimal : Stmt := topS 4
abbrev s_worded : Stmt := topS 6
abbrev s_ElenchusError : Stmt := topS 7
abbrev s_TooLarge : Stmt := topS 8
abbrev s_InvalidPosition : Stmt := topS 9
abbrev s_is_variable : Stmt := topS 13
abbrev s_fits : Stmt := topS 14
abbrev s_arguments_of : Stmt := topS 15
abbrev s_positions : Stmt := topS 16
abbrev s_subterm_at : Stmt := topS 17
abbrev s_replace_at : Stmt := topS 18
abbrev s_path_to : Stmt := topS 19
abbrev s_replace_variables : Stmt := topS 20
abbrev s_apply : Stmt := topS 22
abbrev s_match : Stmt := topS 23
abbrev s_match_all : Stmt := topS 24
abbrev s_matches : Stmt := topS 25
abbrev s_rewrite : Stmt := topS 27
abbrev s_fitting : Stmt := topS 28
abbrev s_normalize : Stmt := topS 29
abbrev s_joined : Stmt := topS 30
abbrev s__law_deck : Stmt := topS 32
abbrev s__law_draw : Stmt := topS 33
abbrev s__law_same : Stmt := topS 34
abbrev s__law_names : Stmt := topS 35
abbrev s__law_weights : Stmt := topS 36
abbrev s__law_precedence : Stmt := topS 37
abbrev s__law_term : Stmt := topS 38
abbrev s__law_leaves : Stmt := topS 39
abbrev s__law_apply : Stmt := topS 40
abbrev s__law_vars : Stmt := topS 41
abbrev s__law_count : Stmt := topS 42
abbrev s__law_weight : Stmt := topS 43
abbrev s__law_higher : Stmt := topS 44
abbrev s__law_greater : Stmt := topS 45
abbrev s__law_compare : Stmt := topS 46
abbrev s__law_match : Stmt := topS 47
abbrev s__law_places : Stmt := topS 48
abbrev s__law_at : Stmt := topS 49
abbrev s__law_put : Stmt := topS 50
abbrev s__law_rule : Stmt := topS 51
abbrev s__law_step_at : Stmt := topS 52
abbrev s__law_once : Stmt := topS 53
abbrev s__law_normal_form : Stmt := topS 54
abbrev s__law_rules : Stmt := topS 55
abbrev s__law_start : Stmt := topS 56
abbrev s_law : Stmt := topS 57
structure Df (K : PySem.W.Frag) (mg : Str → Option Value) (x : Str) (st : Stmt) (ps : List Str) (f : Addr) (fd : FuncData) : Prop where
  F : Fun K x x st f fd
  b : Binds K fd ps []
  m : mg x = some (.ref f)
section
variable {P : Program} {w : World} {K : PySem.W.Frag} {mg : Str → Option Value} {base : Heap}
/-! ### is_variable -/
def spIsVar : Sp := fun vs H Q _ => ∃ v t, vs = [v] ∧ TmAt H v t ∧ Q (.bl t.isVar) H
theorem sc_is_variable : FnScope ["term"] ["term"] (defScope s_is_variable) := ⟨rfl, rfl, rfl, by decide +kernel, rfl, by decide +kernel, by decide +kernel⟩
theorem ok_is_variable {f : Addr} {fd : FuncData} (D : Df K mg "is_variable" s_is_variable ["term"] f fd) (mi : mg "isinstance" = none) (mt : mg "tuple" = none) : FnOk P w K mg base CX0 1 f fd ["term"] spIsVar := by
  refine D.F.ok sc_is_variable (fun vs H Q E h => ?_) (fun cdv A outer s H vs Q E hr h => ?_)
  · obtain ⟨v, t, rfl, _⟩ := h; rfl
  obtain ⟨v, t, rfl, ht, q⟩ := h
  refine ⟨_, pss_one (ps_ret (pe_not (pe_callB call_isiTer (by rfl) mi (by decide +kernel) (pa_cons (pv 0) (pa_cons (pe_bltn (v := .ty "tuple") (by rfl) mt (by decide +kernel) rfl) pa_nil))))), ?_⟩
  refine ⟨v, rfl, v, t, rfl, ht, _, rfl, ?_⟩
  rw [Bool.not_not]
  exact q
end

section
variable {P : Program} {w : World} {K : PySem.W.Frag} {mg : Str → Option Value} {base : Heap}
/-! ### _law_deck, _law_draw -/
def spDeck (K : PySem.W.Frag) : Sp := fun vs H Q _ => ∃ (a : Addr) (ns : List Int), vs = [.ref a] ∧ SqL K H a (ns.map V.int) ∧ ns.length ≤ 63 ∧ ∀ (p c : Addr) (H' : Hp), Same H H' → H p = none → H c = none → Dek H' p c → Q (.ref p) H'
theorem sc_law_deck : FnScope ["script"] ["script"] (defScope s__law_deck) := ⟨rfl, rfl, rfl, by decide +kernel, rfl, by decide +kernel, by decide +kernel⟩
theorem ok_law_deck {f : Addr} {fd : FuncData} (D : Df K mg "_law_deck" s__law_deck ["script"] f fd) (m_list : mg "list" = none) : FnOk P w K mg base CX0 1 f fd ["script"] (spDeck K) := by
  refine D.F.ok sc_law_deck (fun vs H Q E h => ?_) (fun cdv A outer s H vs Q E hr h => ?_)
  · obtain ⟨a, ns, rfl, _⟩ := h; rfl
  obtain ⟨a, ns, rfl, hS, hn, q⟩ := h
  refine ⟨_, (pss_one (ps_ret (pe_lst (pa_cons (pe_callTy call_list_of (by rfl) m_list (by decide +kernel) (pa_cons (pv 0) pa_nil)) (pa_cons pe_int (pa_cons pe_int (pa_cons pe_int pa_nil))))))), ?_⟩
  refine ⟨_, rfl, a, _, rfl, .inl hS, fun c nc => ?_⟩
  refine ⟨by show 4 ≤ sizeLine; decide, fun p np => ?_⟩
  have s1 := same_new nc (.lst (ns.map V.int))
  have s2 := same_new np (.lst [.ref c, .int 0, .int 0, .int 7])
  have ncp : c ≠ p := fun z => by rw [← z, upd_same] at np; cases np
  have np0 : H p = none := by
    rw [upd_ne ncp.symm] at np
    exact np
  exact q p c _ (s1.trans s2) np0 nc ⟨ns, 0, 0, 7, upd_same, s2 _ _ upd_same, ncp⟩
def spDraw : Sp := fun vs H Q _ => ∃ (d : Addr) (b : Int), vs = [.ref d, .int b] ∧ ∃ c, Dek H d c ∧ 0 < b ∧ b < 1073741824 ∧ ∀ (r : Int) (H' : Hp), 0 ≤ r → r < b → But d H H' → Dek H' d c → Q (.int r) H'
theorem sc_law_draw : FnScope ["deck", "most", "value", "cell"] ["deck", "most"] (defScope s__law_draw) := ⟨rfl, rfl, rfl, by decide +kernel, rfl, by decide +kernel, by decide +kernel⟩
theorem ok_law_draw {f : Addr} {fd : FuncData} (D : Df K mg "_law_draw" s__law_draw ["deck", "most"] f fd) (m_len : mg "len" = none) (m_int : mg "int" = none) : FnOk P w K mg base CX0 1 f fd ["deck", "most"] spDraw := by
  refine D.F.ok sc_law_draw (fun vs H Q E h => ?_) (fun cdv A outer s H vs Q E hr h => ?_)
  · obtain ⟨a, b, rfl, _⟩ := h; rfl
  obtain ⟨d, b, rfl, c, hS, hb, hb2, q⟩ := h
  have nd := sc_law_draw.nd
  refine ⟨_, (pss_cons (ps_if (pt_cmpR op_ge (pe_ix ix_list (pv 0) pe_int (fun _ _ => rfl)) (pv 1) (nomark _))
      (pss_cons (ps_set (i := 2) nd rfl (.inl rfl) (pe_op op_mod (pe_callTy call_int1 (by rfl) m_int (by decide +kernel) (pa_cons (pe_ix ix_list (pv 0) pe_int (fun _ _ => rfl)) pa_nil)) (pv 1)))
    (pss_cons (ps_asg (pe_op op_fdiv (pe_ix ix_list (pv 0) pe_int (fun _ _ => rfl)) (pv 1)) (pg_sub (pv 0) pe_int set_list))
    (pss_one (ps_ret (pv 2)))))
      pss_nil)
    (pss_cons (ps_set (i := 3) nd rfl (.inl rfl) pe_int)
    (C8.pss_cut (ps_if (pt_cmpR op_lt (pe_ix ix_list (pv 0) pe_int (fun _ _ => rfl)) (pe_callB call_len_seq (by rfl) m_len PySem.boot_len (pa_cons (pe_ix ix_list (pv 0) pe_int (fun _ _ => rfl)) pa_nil)) (nomark _))
      (pss_one (ps_set (i := 3) nd rfl (.inl rfl) (pe_ix ix_list (pe_ix ix_list (pv 0) pe_int (fun _ _ => rfl)) (pe_ix ix_list (pv 0) pe_int (fun _ _ => rfl)) (fun _ _ => rfl))))
      pss_nil)
    (pss_cons (ps_asg (pe_op op_add (pe_ix ix_list (pv 0) pe_int (fun _ _ => rfl)) pe_int) (pg_sub (pv 0) pe_int set_list))
    (pss_cons (ps_asg pe_int (pg_sub (pv 0) pe_int set_list))
    (pss_cons (ps_if (pt_cmpR op_ge (pv 3) (pe_op op_pow pe_int pe_int) (nomark _))
      (pss_cons (ps_asg (pe_op op_fdiv (pv 3) (pv 1)) (pg_sub (pv 0) pe_int set_list))
    (pss_one (ps_ret (pe_op op_mod (pe_callTy call_int1 (by rfl) m_int (by decide +kernel) (pa_cons (pv 3) pa_nil)) (pv 1)))))
      pss_nil)
    (pss_cons (ps_asg (pe_op op_mod (pe_callTy call_int1 (by rfl) m_int (by decide +kernel) (pa_cons (pe_op op_add (pe_op op_add (pe_op op_mul (pe_ix ix_list (pv 0) pe_int (fun _ _ => rfl)) pe_int) (pe_op op_mul (pv 3) pe_int)) (pe_op op_mul (pe_ix ix_list (pv 0) pe_int (fun _ _ => rfl)) pe_int)) pa_nil)) pe_int) (pg_sub (pv 0) pe_int set_list))
    (pss_cons (ps_asg (pe_op op_mod (pe_callTy call_int1 (by rfl) m_int (by decide +kernel) (pa_cons (pe_op op_add (pe_op op_mul (pe_ix ix_list (pv 0) pe_int (fun _ _ => rfl)) pe_int) pe_int) pa_nil)) pe_int) (pg_sub (pv 0) pe_int set_list))
    (pss_one (ps_ret (pe_op op_mod (pe_callTy call_int1 (by rfl) m_int (by decide +kernel) (pa_cons (pe_op op_fdiv (pe_ix ix_list (pv 0) pe_int (fun _ _ => rfl)) pe_int) pa_nil)) (pv 1)))))))))))), ?_⟩
  obtain ⟨ns, i, r, z, e, ec, ncd⟩ := hS.ex
  have L : ∀ {H' : Hp} {xs : List V}, H' d = some (.lst xs) → SqL K H' d xs := fun e => .inl (.inl e)
  have i0 : ∀ {a0 a1 a2 a3 : V}, atI [a0, a1, a2, a3] 0 = some a0 := atI_nat (j := 0) rfl
  have i1 : ∀ {a0 a1 a2 a3 : V}, atI [a0, a1, a2, a3] 1 = some a1 := atI_nat (j := 1) rfl
  have i2 : ∀ {a0 a1 a2 a3 : V}, atI [a0, a1, a2, a3] 2 = some a2 := atI_nat (j := 2) rfl
  have i3 : ∀ {a0 a1 a2 a3 : V}, atI [a0, a1, a2, a3] 3 = some a3 := atI_nat (j := 3) rfl
  have fin : ∀ (H' : Hp) (i' : Nat) (r' s' : Int) (x : Int), But d H H' → H' d = some (.lst [.ref c, .int (i' : Nat), .int r', .int s']) → Q (.int (x % b)) H' := fun H' i' r' s' x b1 e1 => q _ _ (Int.emod_nonneg _ (by omega)) (Int.emod_lt_of_pos _ hb) b1 ⟨ns, i', r', s', e1, b1 _ _ ncd ec, ncd⟩
  have dv : CDiv 0 b := ⟨hb, hb2⟩
  have u1 : ∀ {H' : Hp} {xs : List V}, (upd H' d (.lst xs)) d = some (.lst xs) := upd_same
  refine ⟨_, rfl, d, _, 2, _, rfl, rfl, L e, i2, _, rfl, _, _, rfl, rfl, _, rfl, ite2 (fun _ => ?_) (fun _ => ?_)⟩
  · refine ⟨_, rfl, d, _, 2, _, rfl, rfl, L e, i2, .inl ⟨_, rfl, _, rfl, _, _, rfl, rfl, hb, ?_⟩⟩
    refine ⟨_, rfl, d, _, 2, _, rfl, rfl, L e, i2, _, rfl, _, _, rfl, rfl, dv, _, rfl, d, _, 2, 2, rfl, rfl, e, rfl, ?_⟩
    exact ⟨_, rfl, fin _ i _ z _ But.upd upd_same⟩
  refine ⟨fun σ H2 => ∃ x : Int, σ = [some (.ref d), some (.int b), none, some (.int x)] ∧ H2 = H, ?_, fun σ H2 h => ?_⟩
  · refine ⟨_, rfl, d, _, 1, _, rfl, rfl, L e, i1, _, rfl, d, _, 0, _, rfl, rfl, L e, i0, c, _, rfl, .inl (.inl (.inl ec)), _, _, rfl, rfl, _, rfl, ite2 (fun lt => ?_) (fun _ => ⟨_, rfl, rfl⟩)⟩
    have lt : i < ns.length := by
      have := of_decide_eq_true lt
      rw [List.length_map] at this
      omega
    refine ⟨_, rfl, d, _, 0, _, rfl, rfl, L e, i0, _, rfl, d, _, 1, _, rfl, rfl, L e, i1, c, _, _, .int ns[i], rfl, rfl, .inl (.inl ec), atI_nat (j := i) (by rw [List.getElem?_map, List.getElem?_eq_getElem lt]; rfl), _, rfl, rfl⟩
  obtain ⟨x, rfl, rfl⟩ := h
  refine ⟨_, rfl, d, _, 1, _, rfl, rfl, L e, i1, _, _, rfl, rfl, _, rfl, d, _, 1, 1, rfl, rfl, e, rfl, ?_⟩
  refine ⟨_, rfl, d, _, 2, 2, rfl, rfl, u1, rfl, ?_⟩
  refine ⟨_, rfl, _, _, rfl, rfl, ⟨by decide, by decide, by decide⟩, _, _, rfl, rfl, _, rfl, ite2 (fun _ => ?_) (fun _ => ?_)⟩
  · refine ⟨_, rfl, _, rfl, _, _, rfl, rfl, dv, _, rfl, d, _, 2, 2, rfl, rfl, u1, rfl, ?_⟩
    exact ⟨_, rfl, .inl ⟨_, rfl, _, rfl, _, _, rfl, rfl, hb, fin _ (i + 1) _ _ _ (But.upd.trans (But.upd.trans But.upd)) upd_same⟩⟩
  · refine ⟨_, rfl, d, _, 3, _, rfl, rfl, L u1, i3, _, _, rfl, rfl, .inr ⟨by decide, by decide⟩, _, rfl, _, _, rfl, rfl, .inr ⟨by decide, by decide⟩, _, _, rfl, rfl, _, rfl, d, _, 1, _, rfl, rfl, L u1, i1, _, _, rfl, rfl, .inr ⟨by decide, by decide⟩, _, _, rfl, rfl, .inl ⟨_, rfl, _, _, rfl, rfl, (by show (0 : Int) < 2147483647; decide), ?_⟩⟩
    refine ⟨_, rfl, d, _, 3, 3, rfl, rfl, u1, rfl, ?_⟩
    refine ⟨_, rfl, d, _, 3, _, rfl, rfl, L u1, i3, _, _, rfl, rfl, .inr ⟨by decide, by decide⟩, _, _, rfl, rfl, .inl ⟨_, rfl, _, _, rfl, rfl, (by show (0 : Int) < 2147483647; decide), ?_⟩⟩
    refine ⟨_, rfl, d, _, 3, 3, rfl, rfl, u1, rfl, ?_⟩
    refine ⟨_, rfl, d, _, 3, _, rfl, rfl, L u1, i3, _, _, rfl, rfl, ⟨by decide, by decide⟩, .inl ⟨_, rfl, _, rfl, _, _, rfl, rfl, hb, fin _ (i + 1) _ _ _ (But.upd.trans (But.upd.trans (But.upd.trans But.upd))) upd_same⟩⟩
/-! ### _law_names -/
def spNames : Sp := fun vs H Q _ => ∃ (d c : Addr), vs = [.ref d] ∧ Dek H d c ∧ ∀ (p : Addr) (ws : List Str) (H' : Hp), But d H H' → H p = none → Dek H' d c → H' p = some (.lst (ws.map V.str)) → ws ∈ MENUS → Q (.ref p) H'
theorem sc_law_names : FnScope ["deck", "menus"] ["deck"] (defScope s__law_names) := ⟨rfl, rfl, rfl, by decide +kernel, rfl, by decide +kernel, by decide +kernel⟩
theorem ok_law_names {f fD : Addr} {fd dD : FuncData} (D : Df K mg "_law_names" s__law_names ["deck"] f fd) (DD : Df K mg "_law_draw" s__law_draw ["deck", "most"] fD dD) (GD : FnOk P w K mg base CX0 1 fD dD ["deck", "most"] spDraw) (m_list : mg "list" = none) : FnOk P w K mg base CX0 2 f fd ["deck"] spNames := by
  refine D.F.ok sc_law_names (fun vs H Q E h => ?_) (fun cdv A outer s H vs Q E hr h => ?_)
  · obtain ⟨a, b, rfl, _⟩ := h; rfl
  obtain ⟨d, c, rfl, hS, q⟩ := h
  have nd := sc_law_names.nd
  have hr : Room 1 _ := hr.mono (by decide)
  refine ⟨_, (pss_cons (ps_set (i := 1) nd rfl (.inl rfl) (pe_lst (pa_cons (pe_lst (pa_cons pe_str (pa_cons pe_str (pa_cons pe_str (pa_cons pe_str (pa_cons pe_str (pa_cons pe_str (pa_cons pe_str pa_nil)))))))) (pa_cons (pe_lst (pa_cons pe_str (pa_cons pe_str (pa_cons pe_str (pa_cons pe_str (pa_cons pe_str (pa_cons pe_str (pa_cons pe_str pa_nil)))))))) (pa_cons (pe_lst (pa_cons pe_str (pa_cons pe_str (pa_cons pe_str (pa_cons pe_str (pa_cons pe_str (pa_cons pe_str (pa_cons pe_str pa_nil)))))))) (pa_cons (pe_lst (pa_cons pe_str (pa_cons pe_str (pa_cons pe_str (pa_cons pe_str (pa_cons pe_str (pa_cons pe_str (pa_cons pe_str pa_nil)))))))) pa_nil))))))
    (pss_one (ps_ret (pe_callTy call_list_of (by rfl) m_list (by decide +kernel) (pa_cons (pe_ix ix_list (pv 1) (pe_call GD hr (by rfl) DD.m DD.F.kp DD.b .nil pass0 (pa_cons (pv 0) (pa_cons pe_int pa_nil))) (fun _ _ => rfl)) pa_nil))))), ?_⟩
  have z7 : 7 ≤ sizeLine := by decide
  refine ⟨z7, fun a0 n0 => ⟨z7, fun a1 n1 => ⟨z7, fun a2 n2 => ⟨z7, fun a3 n3 => ⟨by show 4 ≤ sizeLine; decide, fun m nm => ?_⟩⟩⟩⟩⟩
  have s0 := same_new n0 (.lst ((["a", "b", "c", "f", "g", "p", "q"] : List Str).map V.str))
  have s1 := same_new n1 (.lst ((["c", "a", "b", "g", "f", "q", "p"] : List Str).map V.str))
  have s2 := same_new n2 (.lst ((["k1", "zero", "aB_", "suc", "mul", "big", "at0"] : List Str).map V.str))
  have s3 := same_new n3 (.lst ((["a", "aa", "aaa", "f1", "f10", "p", "pp"] : List Str).map V.str))
  have s4 := same_new nm (.lst [V.ref a0, .ref a1, .ref a2, .ref a3])
  have sa := s0.trans (s1.trans (s2.trans (s3.trans s4)))
  have e0 := (s1.trans (s2.trans (s3.trans s4))) _ _ (upd_same (H := H) (a := a0))
  have e1 := (s2.trans (s3.trans s4)) _ _ upd_same
  have e2 := (s3.trans s4) _ _ upd_same
  have e3 := s4 _ _ upd_same
  have hS5 := hS.same sa
  have md : m ≠ d := (hS.same (s0.trans (s1.trans (s2.trans s3)))).ne nm
  refine ⟨_, rfl, _, rfl, d, 4, rfl, c, hS5, by decide, by decide, fun r H6 r0 r4 b6 hS6 => ?_⟩
  have em := b6 m _ md upd_same
  have ne : ∀ {HH : Hp} {x : Addr} {ws : List Str}, Dek HH d c → HH x = some (.lst (ws.map V.str)) → x ≠ d := fun {HH x ws} hk ex z => by
    obtain ⟨ns, i, r', s', e', _, _⟩ := hk.ex
    rw [z, e'] at ex
    cases ws with
    | nil => cases ex
    | cons y r => cases ex
  have pick : ∃ (x : Addr) (ws : List Str), atI [V.ref a0, .ref a1, .ref a2, .ref a3] r = some (.ref x) ∧ H6 x = some (.lst (ws.map V.str)) ∧ ws ∈ MENUS := by
    have h : r = 0 ∨ r = 1 ∨ r = 2 ∨ r = 3 := by omega
    rcases h with rfl | rfl | rfl | rfl
    · exact ⟨a0, ["a", "b", "c", "f", "g", "p", "q"], atI_nat (j := 0) rfl, b6 _ _ (ne (ws := ["a", "b", "c", "f", "g", "p", "q"]) hS5 e0) e0, by decide +kernel⟩
    · exact ⟨a1, ["c", "a", "b", "g", "f", "q", "p"], atI_nat (j := 1) rfl, b6 _ _ (ne (ws := ["c", "a", "b", "g", "f", "q", "p"]) hS5 e1) e1, by decide +kernel⟩
    · exact ⟨a2, ["k1", "zero", "aB_", "suc", "mul", "big", "at0"], atI_nat (j := 2) rfl, b6 _ _ (ne (ws := ["k1", "zero", "aB_", "suc", "mul", "big", "at0"]) hS5 e2) e2, by decide +kernel⟩
    · exact ⟨a3, ["a", "aa", "aaa", "f1", "f10", "p", "pp"], atI_nat (j := 3) rfl, b6 _ _ (ne (ws := ["a", "aa", "aaa", "f1", "f10", "p", "pp"]) hS5 e3) e3, by decide +kernel⟩
  obtain ⟨x, ws, hx, ex, hw⟩ := pick
  refine ⟨m, _, r, .ref x, rfl, rfl, .inl (.inl em), hx, x, _, rfl, .inl (.inl (.inl ex)), fun p np => ?_⟩
  have s7 := same_new np (.lst (ws.map V.str))
  exact q p ws _ (sa.but.trans (b6.trans s7.but)) (sa.free (b6.free (hS6.ne np) np)) (hS6.same s7) upd_same hw
/-! ### _law_weights -/
/-- weights that are right: for some of the names -/
structure WOk (ws : List Str) (W : List (Str × Int)) : Prop where
  nd : (W.map (·.1)).Nodup
  inn : ∀ e ∈ W, e.1 ∈ ws
  pos : ∀ e ∈ W, 1 ≤ e.2
  up : ∀ e ∈ W, e.2 ≤ 3 ∨ (ws[3]? = some e.1 ∧ e.2 = 10 ^ 20 + 3)
def spWts : Sp := fun vs H Q _ => ∃ (d c l : Addr) (ws : List Str), vs = [.ref d, .ref l] ∧ Dek H d c ∧ H l = some (.lst (ws.map V.str)) ∧ l ≠ d ∧ ws ∈ MENUS ∧ ∀ (p : Addr) (W : List (Str × Int)) (H' : Hp), But d H H' → H p = none → Dek H' d c → H' p = some (.dK (wkv W)) → WOk ws W → Q (.ref p) H'
theorem sc_law_weights : FnScope ["deck", "names", "weights", "name", "weight"] ["deck", "names"] (defScope s__law_weights) := ⟨rfl, rfl, rfl, by decide +kernel, rfl, by decide +kernel, by decide +kernel⟩
theorem putK_wkv {W : List (Str × Int)} {f : Str} {n : Int} (h : f ∉ W.map (·.1)) : putK (wkv W) (.inr f) (V.int n) = wkv (W ++ [(f, n)]) := by rw [putK_new _ (wkv_none h), wkv_app]
theorem putK_wkv2 {ws : List Str} {W : List (Str × Int)} {f : Str} {n : Int} (o : WOk ws W) (hf : f ∈ ws) (hn : 1 ≤ n) (hu : n ≤ 3 ∨ (ws[3]? = some f ∧ n = 10 ^ 20 + 3)) : ∃ W', putK (wkv W) (.inr f) (V.int n) = wkv W' ∧ WOk ws W' := by
  by_cases h : f ∈ W.map (·.1)
  · refine ⟨W.map fun e => if e.1 = f then (e.1, n) else e, ?_, ?_, ?_, ?_, ?_⟩
    · unfold putK wkv
      have e : ((W.map fun e => ((.inr e.1 : Key), V.int e.2)).any fun kv => decide (kv.1 = (.inr f : Key))) = true := by
        obtain ⟨e, he, ef⟩ := List.mem_map.mp h
        exact List.any_eq_true.mpr ⟨_, List.mem_map_of_mem he, decide_eq_true (by show (Sum.inr e.1 : Key) = .inr f; rw [ef])⟩
      rw [if_pos e, List.map_map, List.map_map]
      refine List.map_congr_left fun x _ => ?_
      show (if (Sum.inr x.1 : Key) = .inr f then ((Sum.inr x.1 : Key), V.int n) else ((Sum.inr x.1 : Key), V.int x.2)) = ((.inr (if x.1 = f then (x.1, n) else x).1 : Key), V.int (if x.1 = f then (x.1, n) else x).2)
      by_cases c : x.1 = f
      · rw [if_pos (congrArg Sum.inr c), if_pos c]
      · rw [if_neg (fun z => c (Sum.inr.inj z)), if_neg c]
    · have e : (W.map fun e => if e.1 = f then (e.1, n) else e).map (·.1) = W.map (·.1) := by
        rw [List.map_map]
        refine List.map_congr_left fun x _ => ?_
        show (if x.1 = f then (x.1, n) else x).1 = x.1
        split <;> rfl
      rw [e]; exact o.nd
    · intro e he
      obtain ⟨x, hx, rfl⟩ := List.mem_map.mp he
      have := o.inn x hx
      split <;> exact this
    · intro e he
      obtain ⟨x, hx, rfl⟩ := List.mem_map.mp he
      have := o.pos x hx
      split
      · exact hn
      · exact this
    · intro e he
      obtain ⟨x, hx, rfl⟩ := List.mem_map.mp he
      have := o.up x hx
      split
      · rename_i c
        show n ≤ 3 ∨ (ws[3]? = some x.1 ∧ n = 10 ^ 20 + 3)
        rw [c]; exact hu
      · exact this
  · refine ⟨W ++ [(f, n)], putK_wkv h, ?_, ?_, ?_, ?_⟩
    · rw [List.map_append]; exact nd_snoc o.nd h
    · intro e he
      rcases List.mem_append.mp he with he | he
      · exact o.inn e he
      · rw [List.mem_singleton.mp he]; exact hf
    · intro e he
      rcases List.mem_append.mp he with he | he
      · exact o.pos e he
      · rw [List.mem_singleton.mp he]; exact hn
    · intro e he
      rcases List.mem_append.mp he with he | he
      · exact o.up e he
      · rw [List.mem_singleton.mp he]; exact hu
theorem wok_len {ws : List Str} {W : List (Str × Int)} (o : WOk ws W) (hm : ws ∈ MENUS) : W.length ≤ 7 := by
  have h1 : (W.map (·.1)).length ≤ ws.length := by
    have := o.nd
    have sub : ∀ x ∈ W.map (·.1), x ∈ ws := fun x hx => by
      obtain ⟨e, he, rfl⟩ := List.mem_map.mp hx
      exact o.inn e he
    exact nodup_sub _ _ this sub
  rw [List.length_map, menu_len ws hm] at h1
  exact h1
theorem ok_law_weights {f fD : Addr} {fd dD : FuncData} (D : Df K mg "_law_weights" s__law_weights ["deck", "names"] f fd) (DD : Df K mg "_law_draw" s__law_draw ["deck", "most"] fD dD) (GD : FnOk P w K mg base CX0 1 fD dD ["deck", "most"] spDraw) : FnOk P w K mg base CX0 2 f fd ["deck", "names"] spWts := by
  refine D.F.ok sc_law_weights (fun vs H Q E h => ?_) (fun cdv A outer s H vs Q E hr h => ?_)
  · obtain ⟨_, _, _, _, rfl, _⟩ := h; rfl
  obtain ⟨d, c, l, ws, rfl, hS, hl, nl, hm, q⟩ := h
  have nd := sc_law_weights.nd
  have hr : Room 1 _ := hr.mono (by decide)
  refine ⟨_, (pss_cons (ps_set (i := 2) nd rfl (.inl rfl) pe_dnewK)
    (pss_cons (ps_for PassesOwn.never rfl (pi_list (pv 1)) (pg_name (i := 3) nd rfl (.inl rfl))
      (pss_cons (ps_set (i := 4) nd rfl (.inl rfl) (pe_call GD hr (by rfl) DD.m DD.F.kp DD.b .nil pass0 (pa_cons (pv 0) (pa_cons pe_int pa_nil))))
    (pss_one (ps_if (pt_cmpR op_gt (pv 4) pe_int (nomark _))
      (pss_one (ps_dput (hu_of hr) (pv 2) (pv 3) (pe_op op_sub (pv 4) pe_int) rfl))
      pss_nil))))
    (pss_cons (ps_if (pt_cmpR op_eq (pe_call GD hr (by rfl) DD.m DD.F.kp DD.b .nil pass0 (pa_cons (pv 0) (pa_cons pe_int pa_nil))) pe_int (nomark _))
      (pss_one (ps_dput (hu_of hr) (pv 2) (pe_ix ix_list (pv 1) pe_int (fun _ _ => rfl)) (pe_op op_add (pe_op op_pow pe_int pe_int) pe_int) rfl))
      pss_nil)
    (pss_one (ps_ret (pv 2)))))), ?_⟩
  intro p np
  have s1 := same_new np (.dK [])
  have npd : p ≠ d := hS.ne np
  have lw := menu_len ws hm
  have npl : l ≠ p := ne_of_none hl np
  have npc : c ≠ p := (hS.nec np).symm
  refine ⟨_, rfl, l, rfl, ⟨_, .inl (.inl (s1 _ _ hl))⟩, for_list (xs := ws.map V.str) (fun i σ F => ∃ W y3 y4, σ = [some (.ref d), some (.ref l), some (.ref p), y3, y4] ∧ (∀ b o, b ≠ d → b ≠ p → H b = some o → F b = some o) ∧ Dek F d c ∧ F p = some (.dK (wkv W)) ∧ WOk ws W) ⟨[], none, none, rfl, fun b o _ hb e => by rw [upd_ne hb]; exact e, hS.same s1, upd_same, List.nodup_nil, fun _ h => (by cases h), fun _ h => (by cases h), fun _ h => (by cases h)⟩ (fun i σ F _ h => ?_) (fun i x σ F hx h => ?_) (fun σ F h => ?_)⟩
  · obtain ⟨_, _, _, _, b, _⟩ := h
    exact .inl (.inl (b _ _ nl npl hl))
  · obtain ⟨W, y3, y4, rfl, b, hF, eF, oW⟩ := h
    rw [List.getElem?_map] at hx
    obtain ⟨name, en, rfl⟩ : ∃ name, ws[i]? = some name ∧ x = V.str name := by
      cases z : ws[i]? with
      | none => rw [z] at hx; cases hx
      | some k => rw [z] at hx; exact ⟨k, rfl, (Option.some.inj hx).symm⟩
    have hlW := wok_len oW hm
    refine ⟨_, rfl, d, 5, rfl, c, hF, by decide, by decide, fun r F2 r0 r5 b2 hF2 => ?_⟩
    have bb : ∀ b' o, b' ≠ d → b' ≠ p → H b' = some o → F2 b' = some o := fun b' o n1 n2 e => b2 b' o n1 (b b' o n1 n2 e)
    have eF2 := b2 p _ npd eF
    refine ⟨_, rfl, _, _, rfl, rfl, _, rfl, ite2 (fun c1 => ?_) (fun _ => ⟨W, _, _, rfl, bb, hF2, eF2, oW⟩)⟩
    have c1 := of_decide_eq_true c1
    obtain ⟨W', eW, oW'⟩ := putK_wkv2 (n := r - 1) oW (List.mem_of_getElem? en) (by omega) (.inl (by omega))
    refine ⟨_, rfl, _, _, rfl, rfl, _, rfl, _, rfl, p, _, rfl, DPut.k (k := Sum.inr name) eF2 (by rw [wkv_len]; exact small6' (by omega)), ?_⟩
    rw [eW]
    refine ⟨W', _, _, rfl, fun b' o n1 n2 e => by rw [upd_ne n2]; exact bb b' o n1 n2 e, hF2.but But.upd npd.symm npc, upd_same, oW'⟩
  · obtain ⟨W, y3, y4, rfl, b, hF, eF, oW⟩ := h
    have hlW := wok_len oW hm
    have elF := b _ _ nl npl hl
    refine ⟨_, rfl, d, 9, rfl, c, hF, by decide, by decide, fun r F2 r0 r5 b2 hF2 => ⟨rfl, _, rfl, ?_⟩⟩
    have bb : But d H F2 := fun b' o n1 e => b2 b' o n1 (b b' o n1 (ne_of_none e np) e)
    have eF2 := b2 p _ npd eF
    refine ite2 (fun _ => ?_) (fun _ => ⟨_, rfl, q p W F2 bb np hF2 eF2 oW⟩)
    have e3 : ws[3]? = some ws[3] := List.getElem?_eq_getElem (by omega)
    generalize ws[3] = x3 at e3
    obtain ⟨W', eW, oW'⟩ := putK_wkv2 (n := 10 ^ 20 + 3) oW (List.mem_of_getElem? e3) (by decide) (.inr ⟨e3, rfl⟩)
    refine ⟨_, _, rfl, rfl, ⟨by decide, by decide, by decide⟩, _, _, rfl, rfl, _, rfl, _, rfl, l, _, 3, .str x3, rfl, rfl, .inl (.inl (b2 l _ nl elF)), atI_nat (j := 3) (by rw [List.getElem?_map, e3]; rfl), p, _, rfl, DPut.k (k := Sum.inr x3) eF2 (by rw [wkv_len]; exact small6' (by omega)), ?_⟩
    have eW : putK (wkv W) (.inr x3) (V.int ((10 : Int) ^ (20 : Int).toNat + 3)) = wkv W' := eW
    rw [eW]
    exact ⟨_, rfl, q p W' _ (fun b' o n1 e => by rw [upd_ne (ne_of_none e np)]; exact bb b' o n1 e) np (hF2.but But.upd npd.symm npc) upd_same oW'⟩
/-! ### _law_precedence -/
structure POk (ws ps : List Str) : Prop where
  nd : ps.Nodup
  inn : ∀ x ∈ ps, x ∈ ws
def spPrec : Sp := fun vs H Q _ => ∃ (d c l : Addr) (ws : List Str), vs = [.ref d, .ref l] ∧ Dek H d c ∧ H l = some (.lst (ws.map V.str)) ∧ l ≠ d ∧ ws ∈ MENUS ∧ ∀ (p : Addr) (ps : List Str) (H' : Hp), But d H H' → H p = none → Dek H' d c → H' p = some (.lst (ps.map V.str)) → POk ws ps → Q (.ref p) H'
theorem sc_law_precedence : FnScope ["deck", "names", "rest", "chosen", "k", "at"] ["deck", "names"] (defScope s__law_precedence) := ⟨rfl, rfl, rfl, by decide +kernel, rfl, by decide +kernel, by decide +kernel⟩
theorem ok_law_precedence {f fD : Addr} {fd dD : FuncData} (D : Df K mg "_law_precedence" s__law_precedence ["deck", "names"] f fd) (DD : Df K mg "_law_draw" s__law_draw ["deck", "most"] fD dD) (GD : FnOk P w K mg base CX0 1 fD dD ["deck", "most"] spDraw) (m_list : mg "list" = none) (m_len : mg "len" = none) (m_range : mg "range" = none) : FnOk P w K mg base CX0 2 f fd ["deck", "names"] spPrec := by
  refine D.F.ok sc_law_precedence (fun vs H Q E h => ?_) (fun cdv A outer s H vs Q E hr h => ?_)
  · obtain ⟨_, _, _, _, rfl, _⟩ := h; rfl
  obtain ⟨d, c, l, ws, rfl, hS, hl, nl, hm, q⟩ := h
  have nd := sc_law_precedence.nd
  have hr : Room 1 _ := hr.mono (by decide)
  refine ⟨_, (pss_cons (ps_set (i := 2) nd rfl (.inl rfl) (pe_callTy call_list_of (by rfl) m_list (by decide +kernel) (pa_cons (pv 1) pa_nil)))
    (pss_cons (ps_set (i := 3) nd rfl (.inl rfl) (pe_lst pa_nil))
    (pss_cons (ps_for PassesOwn.never rfl (pi_range1 (by rfl) m_range (pa_cons (pe_call GD hr (by rfl) DD.m DD.F.kp DD.b .nil pass0 (pa_cons (pv 0) (pa_cons (pe_op op_add (pe_callB call_len_seq (by rfl) m_len PySem.boot_len (pa_cons (pv 1) pa_nil)) pe_int) pa_nil))) pa_nil)) (pg_name (i := 4) nd rfl (.inl rfl))
      (pss_cons (ps_set (i := 5) nd rfl (.inl rfl) (pe_call GD hr (by rfl) DD.m DD.F.kp DD.b .nil pass0 (pa_cons (pv 0) (pa_cons (pe_callB call_len_seq (by rfl) m_len PySem.boot_len (pa_cons (pv 2) pa_nil)) pa_nil))))
    (pss_cons (ps_expr (pe_bm PySem.F.plainAttrs_list PySem.F.slot_list_append PySem.F.type_list_append mt_append (pv 3) (pa_cons (pe_ix ix_list (pv 2) (pv 5) (fun _ _ => rfl)) pa_nil)))
    (pss_one (ps_set (i := 2) nd rfl (.inl rfl) (pe_op op_cat (pe_slice sl_list (pv 2) po_none (po_some (pv 5))) (pe_slice sl_list (pv 2) (po_some (pe_op op_add (pv 5) pe_int)) po_none)))))))
    (pss_one (ps_ret (pv 3)))))), ?_⟩
  have lw := menu_len ws hm
  refine ⟨_, rfl, l, _, rfl, .inl (.inl (.inl hl)), fun ra nra => ?_⟩
  have s1 := same_new nra (.lst (ws.map V.str))
  refine ⟨Nat.zero_le _, fun ca nca => ?_⟩
  have s2 := same_new nca (.lst [])
  have s12 := s1.trans s2
  have nca0 : H ca = none := s1.free nca
  have cad : ca ≠ d := hS.ne nca0
  have cac : c ≠ ca := (hS.nec nca0).symm
  have hS2 := hS.same s12
  have nrc : ra ≠ ca := ne_of_none (show (upd H ra _) ra = some _ from upd_same) nca
  refine ⟨_, rfl, _, rfl, l, _, rfl, .inl (.inl (.inl (s12 _ _ hl))), _, _, rfl, rfl, d, 8, by rw [List.length_map, lw]; rfl, c, hS2, by decide, by decide, fun many H3 m0 m8 b3 hS3 => ?_⟩
  have bH3 : But d H H3 := s12.but.trans b3
  refine ⟨many, rfl, by omega, by omega, for_range (n := many.toNat) (fun i σ F => ∃ (ra : Addr) (rest chosen : List Str) (y4 y5 : Option V), σ = [some (.ref d), some (.ref l), some (.ref ra), some (.ref ca), y4, y5] ∧ But d H F ∧ Dek F d c ∧ ra ≠ ca ∧ ra ≠ d ∧ F ra = some (.lst (rest.map V.str)) ∧ F ca = some (.lst (chosen.map V.str)) ∧ rest.length + i = 7 ∧ chosen.length = i ∧ (chosen ++ rest).Perm ws) ⟨ra, ws, [], none, none, rfl, bH3, hS3, nrc, hS.ne nra, b3 _ _ (hS.ne nra) (s2 _ _ upd_same), b3 _ _ cad upd_same, lw, rfl, List.Perm.refl _⟩ (fun i σ F hi h => ?_) (fun σ F h => ?_)⟩
  · obtain ⟨ra, rest, chosen, y4, y5, rfl, bF, hF, nrc, nrd, er, ec, lr, lc, pm⟩ := h
    have hpos : 0 < rest.length := by omega
    refine ⟨_, rfl, _, rfl, ra, _, rfl, .inl (.inl (.inl er)), d, _, rfl, c, hF, by rw [List.length_map]; omega, by rw [List.length_map]; omega, fun at_ F2 a0 a1 b2 hF2 => ?_⟩
    rw [List.length_map] at a1
    have er2 := b2 _ _ nrd er
    have ec2 := b2 _ _ cad ec
    have ha : at_.toNat < rest.length := by omega
    have ex : rest[at_.toNat]? = some rest[at_.toNat] := List.getElem?_eq_getElem ha
    generalize rest[at_.toNat] = x at ex
    obtain ⟨j, rfl⟩ : ∃ j : Nat, at_ = (j : Int) := ⟨at_.toNat, by omega⟩
    have ex : rest[j]? = some x := ex
    refine ⟨_, rfl, tyl ec2, _, rfl, _, rfl, ra, _, (j : Int), .str x, rfl, rfl, .inl (.inl er2), atI_nat (j := j) (by rw [List.getElem?_map, ex]; rfl), ca, _, _, rfl, rfl, ec2, small6' (by rw [List.length_map]; omega), ?_⟩
    have b3 : But ca F2 (upd F2 ca (.lst (chosen.map V.str ++ [.str x]))) := But.upd
    have er3 := b3 _ _ nrc er2
    refine ⟨_, rfl, _, rfl, (j : Int), rfl, ra, _, rfl, .inl (.inl er3), fun p1 np1 => ?_⟩
    have s4 := same_new np1 (.lst (cutV (rest.map V.str) none (some (j : Int))))
    refine ⟨_, rfl, _, rfl, _, _, rfl, rfl, ((j : Int) + 1), rfl, ra, _, rfl, .inl (.inl (s4 _ _ er3)), fun p2 np2 => ?_⟩
    have s5 := same_new np2 (.lst (cutV (rest.map V.str) (some ((j : Int) + 1)) none))
    have e1 := s5 _ _ (show (upd _ p1 _) p1 = some _ from upd_same (H := upd F2 ca (.lst (chosen.map V.str ++ [.str x]))) (a := p1) (o := .lst (cutV (rest.map V.str) none (some (j : Int)))))
    have lc1 := cutV_length (rest.map V.str) none (some (j : Int))
    have lc2 := cutV_length (rest.map V.str) (some ((j : Int) + 1)) none
    rw [List.length_map] at lc1 lc2
    refine ⟨p1, p2, _, _, rfl, rfl, e1, upd_same, small6 (by omega), fun p3 np3 => ?_⟩
    have s6 := same_new np3 (.lst (cutV (rest.map V.str) none (some (j : Int)) ++ cutV (rest.map V.str) (some ((j : Int) + 1)) none))
    have s46 := s4.trans (s5.trans s6)
    have ec6 := s46 _ _ (show (upd F2 ca _) ca = some _ from upd_same)
    have np30 : (upd F2 ca (.lst (chosen.map V.str ++ [.str x]))) p3 = none := (s4.trans s5).free np3
    have n3c : p3 ≠ ca := fun z => by rw [z, upd_same] at np30; cases np30
    have hF3 := hF2.but b3 cad.symm cac
    have n3d : p3 ≠ d := hF3.ne np30
    have bb : But d H (upd F2 ca (.lst (chosen.map V.str ++ [.str x]))) := fun b' o n1 e => by
      rw [upd_ne (ne_of_none e nca0)]
      exact b2 b' o n1 (bF b' o n1 e)
    have er6 : cutV (rest.map V.str) none (some (j : Int)) ++ cutV (rest.map V.str) (some ((j : Int) + 1)) none = (rest.take j ++ rest.drop (j + 1)).map V.str := by
      rw [cut_take _ _ (by rw [List.length_map]; omega), show ((j : Int) + 1) = ((j + 1 : Nat) : Int) by omega, cut_drop _ _ (by rw [List.length_map]; omega), List.map_append, List.map_take, List.map_drop]
    refine ⟨p3, rest.take j ++ rest.drop (j + 1), chosen ++ [x], _, _, rfl, bb.trans s46.but, hF3.same s46, n3c, n3d, by rw [upd_same, er6], by rw [ec6, List.map_append]; rfl, by rw [List.length_append, List.length_take, List.length_drop]; omega, by rw [List.length_append, List.length_singleton, lc], ?_⟩
    have e7 : rest = rest.take j ++ (x :: rest.drop (j + 1)) := by
      have := List.take_append_drop j rest
      have hd : rest.drop j = x :: rest.drop (j + 1) := by rw [List.drop_eq_getElem_cons (by omega)]; rw [List.getElem?_eq_getElem (by omega)] at ex; cases ex; rfl
      rw [hd] at this
      exact this.symm
    refine List.Perm.trans ?_ pm
    conv => rhs; rw [e7]
    rw [List.append_assoc]
    refine List.Perm.append_left _ ?_
    show (x :: (rest.take j ++ rest.drop (j + 1))).Perm _
    exact (List.perm_middle).symm
  · obtain ⟨ra, rest, chosen, y4, y5, rfl, bF, hF, _, _, er, ec, lr, lc, pm⟩ := h
    have ndw := pm.nodup_iff.mpr (menu_nd ws hm)
    exact ⟨_, rfl, q ca chosen F bF nca0 hF ec ⟨(List.nodup_append.mp ndw).1, fun x hx => pm.subset (List.mem_append_left _ hx)⟩⟩
end

end K76
namespace K76
open PySem PySem.Spec PyProof.Rows L2 Own HT
section
variable {P : Program} {w : World} {K : PySem.W.Frag} {mg : Str → Option Value} {base : Heap}
/-! ### _law_leaves -/
/-- what a term is made from -/
def LeafOk (ws : List Str) (t : Ter) : Prop := t.wf (symW ws) natVar ∧ t.nest = 1 ∧ t.size = 1
def leafT (ws : List Str) (n : Nat) : List Ter := (List.range n).map (fun i => .var (.inl (i : Nat))) ++ [.ap (ws.getD 0 "") [], .ap (ws.getD 1 "") [], .ap (ws.getD 2 "") []]
theorem leafT_len (ws : List Str) (n : Nat) : (leafT ws n).length = n + 3 := by unfold leafT; rw [List.length_append, List.length_map, List.length_range]; rfl
theorem leaf_ok {ws : List Str} (hm : ws ∈ MENUS) {n : Nat} {t : Ter} (h : t ∈ leafT ws n) : LeafOk ws t := by
  have l7 := menu_len ws hm
  have hc : ∀ i : Nat, i < 3 → LeafOk ws (.ap (ws.getD i "") []) := fun i hi => by
    refine ⟨⟨.inl ⟨⟨i, hi, ?_⟩, rfl⟩, trivial⟩, rfl, rfl⟩
    rw [List.getD_eq_getElem?_getD, List.getElem?_eq_getElem (by omega)]; rfl
  unfold leafT at h
  rcases List.mem_append.mp h with h | h
  · obtain ⟨i, hi, rfl⟩ := List.mem_map.mp h
    exact ⟨⟨(i : Nat), rfl, Int.natCast_nonneg i⟩, rfl, rfl⟩
  · rcases List.mem_cons.mp h with rfl | h
    · exact hc 0 (by decide)
    rcases List.mem_cons.mp h with rfl | h
    · exact hc 1 (by decide)
    rcases List.mem_cons.mp h with rfl | h
    · exact hc 2 (by decide)
    · cases h
theorem tm_ints {H : Hp} : ∀ L : List Nat, TmAll H (L.map fun j => V.int (j : Nat)) (L.map fun i => Ter.var (.inl (i : Nat)))
  | [] => .nil
  | _ :: r => .cons (.int _) (tm_ints r)
def spLeaves : Sp := fun vs H Q _ => ∃ (l : Addr) (ws : List Str) (n : Nat), vs = [.ref l, .int n] ∧ H l = some (.lst (ws.map V.str)) ∧ ws ∈ MENUS ∧ n ≤ 100 ∧ ∀ (p : Addr) (xs : List V) (H' : Hp), Same H H' → H p = none → H' p = some (.lst xs) → TmAll H' xs (leafT ws n) → Q (.ref p) H'
theorem sc_law_leaves : FnScope ["names", "many", "k"] ["names", "many"] (defScope s__law_leaves) := ⟨rfl, rfl, rfl, by decide +kernel, rfl, by decide +kernel, by decide +kernel⟩
theorem ok_law_leaves {f : Addr} {fd : FuncData} (D : Df K mg "_law_leaves" s__law_leaves ["names", "many"] f fd) (m_range : mg "range" = none) : FnOk P w K mg base CX0 1 f fd ["names", "many"] spLeaves := by
  refine D.F.ok sc_law_leaves (fun vs H Q E h => ?_) (fun cdv A outer s H vs Q E hr h => ?_)
  · obtain ⟨l, ws, n, rfl, _⟩ := h; rfl
  obtain ⟨l, ws, n, rfl, hl, hm, hn, q⟩ := h
  have nd := sc_law_leaves.nd
  have l7 := menu_len ws hm
  refine ⟨_, (pss_one (ps_ret (pe_op op_cat (pe_lc (own := [("k", 2)]) (g := gName 2) (tt := tYes) (te := (tVar 2)) rfl nd (pi_range1 (by rfl) m_range (pa_cons (pv 1) pa_nil)) (blkOk_by (N := ["names", "many", "k"]) (sc := defScope s__law_leaves) (by decide +kernel)) (fun _ _ _ _ _ => (pg_name (i := 2) nd rfl (.inl rfl))) (fun _ _ _ _ _ => pts_nil) (fun _ _ _ _ _ => (pv 2))) (pe_lst (pa_cons (pe_tup (pa_cons (pe_ix ix_list (pv 0) pe_int (fun _ _ => rfl)) pa_nil)) (pa_cons (pe_tup (pa_cons (pe_ix ix_list (pv 0) pe_int (fun _ _ => rfl)) pa_nil)) (pa_cons (pe_tup (pa_cons (pe_ix ix_list (pv 0) pe_int (fun _ _ => rfl)) pa_nil)) pa_nil))))))), ?_⟩
  refine ⟨_, rfl, (n : Int), rfl, by omega, by omega, fun d nd' => ?_⟩
  have at_ : ∀ i : Nat, i < 7 → atI (ws.map V.str) (i : Nat) = some (.str (ws.getD i "")) := fun i hi => atI_nat (by rw [List.getElem?_map, List.getD_eq_getElem?_getD, List.getElem?_eq_getElem (by omega)]; rfl)
  refine lc_range (lo := 0) (n := n) (fun i F => Same H F ∧ F d = some (.lst ((List.range i).map fun j => V.int (j : Nat)))) ⟨same_new nd' _, upd_same⟩ (fun i F hi h => ?_) (fun F h => ?_)
  · obtain ⟨sm, ed⟩ := h
    refine ⟨rfl, ?_⟩
    refine ⟨_, rfl, _, ed, small6' (by rw [List.length_map, List.length_range]; omega), But.same nd' sm But.upd, ?_⟩
    rw [upd_same, List.range_succ, List.map_append]
    show some (HO.lst (_ ++ [V.int ((0 : Int) + (i : Nat))])) = some (HO.lst (_ ++ [V.int (i : Nat)]))
    rw [Int.zero_add]
  obtain ⟨sm, ed⟩ := h
  have e0 := sm _ _ hl
  refine ⟨_, rfl, l, _, 0, _, rfl, rfl, .inl (.inl e0), at_ 0 (by decide), (by show 1 ≤ sizeLine; decide), fun p0 n0 => ?_⟩
  have s0 := same_new n0 (.tup [.str (ws.getD 0 "")])
  refine ⟨_, rfl, l, _, 1, _, rfl, rfl, .inl (.inl (s0 _ _ e0)), at_ 1 (by decide), (by show 1 ≤ sizeLine; decide), fun p1 n1 => ?_⟩
  have s1 := same_new n1 (.tup [.str (ws.getD 1 "")])
  refine ⟨_, rfl, l, _, 2, _, rfl, rfl, .inl (.inl (s1 _ _ (s0 _ _ e0))), at_ 2 (by decide), (by show 1 ≤ sizeLine; decide), fun p2 n2 => ?_⟩
  have s2 := same_new n2 (.tup [.str (ws.getD 2 "")])
  refine ⟨by show 3 ≤ sizeLine; decide, fun p3 n3 => ?_⟩
  have s3 := same_new n3 (.lst [.ref p0, .ref p1, .ref p2])
  refine ⟨d, p3, _, _, rfl, rfl, (s0.trans (s1.trans (s2.trans s3))) _ _ ed, upd_same, small6 (by rw [List.length_map, List.length_range]; show n + 3 ≤ 1000000; omega), fun p np => ?_⟩
  have s4 := same_new np (.lst ((List.range n).map (fun j => V.int (j : Nat)) ++ [.ref p0, .ref p1, .ref p2]))
  have sA := s0.trans (s1.trans (s2.trans (s3.trans s4)))
  refine q p _ _ (sm.trans sA) (sm.free (s0.free (s1.free (s2.free (s3.free np))))) upd_same ?_
  refine TmAll.app (tm_ints _) (.cons (.ap ((s1.trans (s2.trans (s3.trans s4))) _ _ upd_same) .nil) (.cons (.ap ((s2.trans (s3.trans s4)) _ _ upd_same) .nil) (.cons (.ap ((s3.trans s4) _ _ upd_same) .nil) .nil)))
/-! ### _law_term -/
def spTermD (n : Nat) : Sp := fun vs H Q _ => ∃ (d c lv l : Addr) (ws : List Str) (xs : List V) (ts : List Ter) (k : Nat), vs = [.ref d, .int k, .ref lv, .ref l] ∧ Dek H d c ∧ H lv = some (.lst xs) ∧ TmAll H xs ts ∧ (∀ t ∈ ts, LeafOk ws t) ∧ 0 < ts.length ∧ ts.length ≤ 1000 ∧ H l = some (.lst (ws.map V.str)) ∧ ws ∈ MENUS ∧ lv ≠ d ∧ l ≠ d ∧ k < n ∧
  ∀ (v : V) (t : Ter) (H' : Hp), But d H H' → Dek H' d c → TmAt H' v t → t.wf (symW ws) natVar → t.nest ≤ k + 1 → t.size < 2 ^ (k + 1) → Q v H'
theorem sc_law_term : FnScope ["deck", "depth", "leaves", "names", "kind", "left"] ["deck", "depth", "leaves", "names"] (defScope s__law_term) := ⟨rfl, rfl, rfl, by decide +kernel, rfl, by decide +kernel, by decide +kernel⟩
theorem ok_law_term1 {f fD : Addr} {fd dD : FuncData} (D : Df K mg "_law_term" s__law_term ["deck", "depth", "leaves", "names"] f fd) (DD : Df K mg "_law_draw" s__law_draw ["deck", "most"] fD dD) (GD : FnOk P w K mg base CX0 1 fD dD ["deck", "most"] spDraw) (m_len : mg "len" = none) {n : Nat} (G : FnOk P w K mg base CX0 (n + 1) f fd ["deck", "depth", "leaves", "names"] (spTermD n)) : FnOk P w K mg base CX0 (n + 1 + 1) f fd ["deck", "depth", "leaves", "names"] (spTermD (n + 1)) := by
  refine D.F.ok sc_law_term (fun vs H Q E h => ?_) (fun cdv A outer s H vs Q E hr h => ?_)
  · obtain ⟨d, c, lv, l, ws, xs, ts, k, rfl, _⟩ := h; rfl
  obtain ⟨d, c, lv, l, ws, xs, ts, k, rfl, hS, hv, ht, hL, hp, hq, hl, hm, nv, nl, hk, q⟩ := h
  have nd := sc_law_term.nd
  have r1 : Room 1 _ := hr.mono (by omega)
  have l7 := menu_len ws hm
  have at_ : ∀ i : Nat, i < 7 → atI (ws.map V.str) (i : Nat) = some (.str (ws.getD i "")) ∧ ws[i]? = some (ws.getD i "") := fun i hi => by
    have e : ws[i]? = some (ws.getD i "") := by rw [List.getD_eq_getElem?_getD, List.getElem?_eq_getElem (by omega)]; rfl
    exact ⟨atI_nat (by rw [List.getElem?_map, e]; rfl), e⟩
  refine ⟨_, (pss_cons (ps_set (i := 4) nd rfl (.inl rfl) (pe_call GD r1 (by rfl) DD.m DD.F.kp DD.b .nil pass0 (pa_cons (pv 0) (pa_cons pe_int pa_nil))))
    (pss_cons (ps_if (PW.pt (pw_or (pt_cmpR op_le (pv 1) pe_int (nomark _)) (pw_or1 (pt_cmpR op_lt (pv 4) pe_int (nomark _)))))
      (pss_one (ps_ret (pe_ix ix_list (pv 2) (pe_call GD r1 (by rfl) DD.m DD.F.kp DD.b .nil pass0 (pa_cons (pv 0) (pa_cons (pe_callB call_len_seq (by rfl) m_len PySem.boot_len (pa_cons (pv 2) pa_nil)) pa_nil))) (fun _ _ => rfl))))
      pss_nil)
    (pss_cons (ps_if (pt_cmpR op_lt (pv 4) pe_int (nomark _))
      (pss_one (ps_ret (pe_tup (pa_cons (pe_ix ix_list (pv 3) pe_int (fun _ _ => rfl)) (pa_cons (pe_call G hr (by rfl) D.m D.F.kp D.b .nil pass0 (pa_cons (pv 0) (pa_cons (pe_op op_sub (pv 1) pe_int) (pa_cons (pv 2) (pa_cons (pv 3) pa_nil))))) pa_nil)))))
      pss_nil)
    (pss_cons (ps_set (i := 5) nd rfl (.inl rfl) (pe_call G hr (by rfl) D.m D.F.kp D.b .nil pass0 (pa_cons (pv 0) (pa_cons (pe_op op_sub (pv 1) pe_int) (pa_cons (pv 2) (pa_cons (pv 3) pa_nil))))))
    (pss_one (ps_ret (pe_tup (pa_cons (pe_ix ix_list (pv 3) pe_int (fun _ _ => rfl)) (pa_cons (pv 5) (pa_cons (pe_call G hr (by rfl) D.m D.F.kp D.b .nil pass0 (pa_cons (pv 0) (pa_cons (pe_op op_sub (pv 1) pe_int) (pa_cons (pv 2) (pa_cons (pv 3) pa_nil))))) pa_nil)))))))))), ?_⟩
  refine ⟨_, rfl, d, 6, rfl, c, hS, by decide, by decide, fun r H1 r0 r6 b1 hS1 => ?_⟩
  have hv1 := b1 _ _ nv hv
  have hl1 := b1 _ _ nl hl
  have ht1 := TmAll.mono (hS.tups b1) _ _ ht
  have lx := ht1.len
  refine ⟨_, rfl, (k : Int), 0, rfl, rfl, _, rfl, ?_⟩
  refine (fun (lf : _) (rest : ¬ ((k : Int) ≤ 0) → _) => ite2 (fun _ => lf) (fun c1 => ⟨_, rfl, r, 2, rfl, rfl, _, rfl, ite2 (fun _ => lf) (fun c2 => rest (fun z => c1 (decide_eq_true z)))⟩)) ?_ ?_
  · refine ⟨_, rfl, _, rfl, _, rfl, lv, xs, rfl, .inl (.inl (.inl hv1)), d, (xs.length : Nat), rfl, c, hS1, by omega, by omega, fun i H2 i0 i1 b2 hS2 => ?_⟩
    have hv2 := b2 _ _ nv hv1
    have ht2 := TmAll.mono (hS1.tups b2) _ _ ht1
    have hi : i.toNat < xs.length := by omega
    obtain ⟨t1, et, hx⟩ := ht2.get (List.getElem?_eq_getElem hi)
    obtain ⟨w1, w2, w3⟩ := hL t1 (List.mem_of_getElem? et)
    refine ⟨lv, xs, i, xs[i.toNat], rfl, rfl, .inl (.inl hv2), at_of (j := i.toNat) (by omega) (List.getElem?_eq_getElem hi), ?_⟩
    exact q _ t1 H2 (b1.trans b2) hS2 hx w1 (by omega) (by have := Nat.one_le_two_pow (n := k); rw [Nat.pow_succ]; omega)
  intro c1
  obtain ⟨j, rfl⟩ : ∃ j, k = j + 1 := ⟨k - 1, by omega⟩
  have ej : ((j + 1 : Nat) : Int) - 1 = (j : Nat) := by omega
  refine ⟨_, rfl, r, 4, rfl, rfl, _, rfl, ite2 (fun _ => ?_) (fun _ => ?_)⟩
  · refine ⟨_, rfl, l, _, 3, _, rfl, rfl, .inl (.inl hl1), (at_ 3 (by decide)).1, _, rfl, _, rfl, _, _, rfl, rfl, _, rfl, _, rfl, ?_⟩
    refine ⟨d, c, lv, l, ws, xs, ts, j, by rw [← ej]; rfl, hS1, hv1, ht1, hL, hp, hq, hl1, hm, nv, nl, by omega, fun v t H2 b2 hS2 h1 h2 h3 h4 => ?_⟩
    refine ⟨by show 2 ≤ sizeLine; decide, fun p np => ?_⟩
    have s2 := same_new np (.tup [.str (ws.getD 3 ""), v])
    refine q (.ref p) (.ap (ws.getD 3 "") [t]) _ (b1.trans (b2.trans s2.but)) (hS2.same s2) (.ap upd_same (.cons (TmAt.mono s2.tups _ _ h1) .nil)) ⟨.inr (.inl ⟨(at_ 3 (by decide)).2, rfl⟩), h2, trivial⟩ ?_ ?_
    · show max t.nest 0 + 1 ≤ _; omega
    · show (t.size + 0) + 1 < _; rw [Nat.pow_succ]; omega
  · refine ⟨_, rfl, _, rfl, _, _, rfl, rfl, _, rfl, _, rfl, ?_⟩
    refine ⟨d, c, lv, l, ws, xs, ts, j, by rw [← ej]; rfl, hS1, hv1, ht1, hL, hp, hq, hl1, hm, nv, nl, by omega, fun v t H2 b2 hS2 h1 h2 h3 h4 => ?_⟩
    have hv2 := b2 _ _ nv hv1
    have hl2 := b2 _ _ nl hl1
    have ht2 := TmAll.mono (hS1.tups b2) _ _ ht1
    refine ⟨_, rfl, l, _, 4, _, rfl, rfl, .inl (.inl hl2), (at_ 4 (by decide)).1, _, rfl, _, rfl, _, rfl, _, _, rfl, rfl, _, rfl, _, rfl, ?_⟩
    refine ⟨d, c, lv, l, ws, xs, ts, j, by rw [← ej]; rfl, hS2, hv2, ht2, hL, hp, hq, hl2, hm, nv, nl, by omega, fun v2 t2 H3 b3 hS3 g1 g2 g3 g4 => ?_⟩
    refine ⟨by show 3 ≤ sizeLine; decide, fun p np => ?_⟩
    have s2 := same_new np (.tup [.str (ws.getD 4 ""), v, v2])
    refine q (.ref p) (.ap (ws.getD 4 "") [t, t2]) _ (b1.trans (b2.trans (b3.trans s2.but))) (hS3.same s2) (.ap upd_same (.cons (TmAt.mono ((hS2.tups b3).trans s2.tups) _ _ h1) (.cons (TmAt.mono s2.tups _ _ g1) .nil))) ⟨.inr (.inr ⟨(at_ 4 (by decide)).2, rfl⟩), h2, g2, trivial⟩ ?_ ?_
    · show max t.nest (max t2.nest 0) + 1 ≤ _; omega
    · show (t.size + (t2.size + 0)) + 1 < _; rw [Nat.pow_succ]; omega
theorem ok_law_term {f fD : Addr} {fd dD : FuncData} (D : Df K mg "_law_term" s__law_term ["deck", "depth", "leaves", "names"] f fd) (DD : Df K mg "_law_draw" s__law_draw ["deck", "most"] fD dD) (GD : FnOk P w K mg base CX0 1 fD dD ["deck", "most"] spDraw) (m_len : mg "len" = none) : ∀ n : Nat, FnOk P w K mg base CX0 (n + 1) f fd ["deck", "depth", "leaves", "names"] (spTermD n)
  | 0 => by
    have no : ∀ vs H Q E, ¬ spTermD 0 vs H Q E := fun vs H Q E h => by
      obtain ⟨_, _, _, _, _, _, _, _, _, _, _, _, _, _, _, _, _, _, _, hk, _⟩ := h
      omega
    exact ⟨fun vs H Q E h => absurd h (no vs H Q E), fun A outer s H args us vs Q E _ _ _ _ h => absurd h (no vs H Q E)⟩
  | n + 1 => ok_law_term1 D DD GD m_len (ok_law_term D DD GD m_len n)
end

theorem room150 {k : Nat} {A : Around} (r : Room k A) : A.units + 150 < cLine := by have := r.un; omega

theorem fdiff_drop {as bs : List Ter} {i : Nat} {a b : Ter} (ha : as[i]? = some a) (hb : bs[i]? = some b) : fdiff (as.drop i) (bs.drop i) = if eT a b = true then fdiff (as.drop (i + 1)) (bs.drop (i + 1)) else some (a, b) := by
  obtain ⟨l1, e1⟩ := List.getElem?_eq_some_iff.mp ha
  obtain ⟨l2, e2⟩ := List.getElem?_eq_some_iff.mp hb
  rw [List.drop_eq_getElem_cons l1, List.drop_eq_getElem_cons l2, e1, e2]
  rfl

section
variable {P : Program} {w : World} {K : PySem.W.Frag} {mg : Str → Option Value} {base : Heap}
/-! ### _law_weight -/
def spLWt (n : Nat) : Sp := fun vs H Q _ => ∃ (v : V) (t : Ter) (a : Addr) (W : List (Str × Int)), vs = [v, .ref a] ∧ TmAt H v t ∧ H a = some (.dK (wkv W)) ∧ t.nest ≤ n ∧ t.size ≤ 100000 ∧ ∀ H', Same H H' → Q (.int (t.wt W)) H'
theorem sc_law_weight : FnScope ["term", "weights", "part"] ["term", "weights"] (defScope s__law_weight) := ⟨rfl, rfl, rfl, by decide +kernel, rfl, by decide +kernel, by decide +kernel⟩
theorem ok_law_weight1 {f : Addr} {fd : FuncData} (D : Df K mg "_law_weight" s__law_weight ["term", "weights"] f fd) (m_isinstance : mg "isinstance" = none) (m_tuple : mg "tuple" = none) (m_sum : mg "sum" = none) {n : Nat} (G : FnOk P w K mg base CX0 n f fd ["term", "weights"] (spLWt n)) : FnOk P w K mg base CX0 (n + 1) f fd ["term", "weights"] (spLWt (n + 1)) := by
  refine D.F.ok sc_law_weight (fun vs H Q E h => ?_) (fun cdv A outer s H vs Q E hr h => ?_)
  · obtain ⟨v, t, a, W, rfl, _⟩ := h; rfl
  obtain ⟨v, t, a, W, rfl, ht, ha, hn, hz, q⟩ := h
  have nd := sc_law_weight.nd
  refine ⟨_, (pss_cons (ps_if (pt_not (pt_val (pe_callB call_isiTer (by rfl) m_isinstance (by decide +kernel) (pa_cons (pv 0) (pa_cons (pe_bltn (v := .ty "tuple") (by rfl) m_tuple (by decide +kernel) rfl) pa_nil))))) (pss_one (ps_ret pe_int)) pss_nil) (pss_one (ps_ret (pe_op op_add (pe_dget2 (hu_of hr) (pv 1) (pe_ix ix_tup (pv 0) pe_int (fun _ _ => rfl)) pe_int ⟨rfl, rfl, rfl, rfl⟩) (pe_callB (cr_sum rfl) (by rfl) m_sum (by decide +kernel) (pa_cons (pe_lc (own := [("part", 2)]) (g := gName 2) (tt := tYes) (te := tCall (spLWt n) [] E0 (tCons (tVar 2) (tCons (tVar 1) tNil))) rfl nd (pi_tup (pe_slice sl_1 (pv 0) (po_some pe_int) po_none)) (blkOk_by (N := ["term", "weights", "part"]) (sc := defScope s__law_weight) (by decide +kernel)) (fun _ _ _ _ _ => pg_name (i := 2) nd rfl (Or.inl rfl)) (fun _ _ _ _ _ => pts_nil) (fun _ _ _ _ _ => pe_call G hr (by rfl) D.m D.F.kp D.b .nil pass0 (pa_cons (pv 2) (pa_cons (pv 1) pa_nil)))) pa_nil)))))), ?_⟩
  refine ⟨v, rfl, v, t, rfl, ht, _, rfl, ?_⟩
  cases ht with
  | int i => exact iteT (q H (Same.refl _))
  | str x => exact iteT (q H (Same.refl _))
  | @ap p g xs as e hs =>
    have hn : Ter.nests as + 1 ≤ n + 1 := hn
    have hz : Ter.sizes as + 1 ≤ 100000 := hz
    have la := Ter.sizes_len as
    have ls := hs.len
    refine iteF ?_
    refine ⟨_, rfl, a, rfl, .inl ⟨_, .inl ha⟩, .ref p, rfl, p, _, 0, .str g, rfl, rfl, .inl (.inl e), head_at, _, DGet.k (k := .inr g) ha, ?_⟩
    rw [wkv_val]
    refine ⟨.ref p, rfl, 1, rfl, p, .str g, xs, rfl, rfl, rfl, .inl (.inl e), fun p2 np2 => ?_⟩
    have s2 := same_new np2 (.tup xs)
    refine ⟨p2, rfl, ⟨xs, .inl (.inl upd_same)⟩, fun d nd' => ?_⟩
    refine walk_t (xs := xs) (fun i H2 => Same (upd H p2 (.tup xs)) H2 ∧ H2 d = some (.lst (((as.take i).map (Ter.wt W)).map V.int))) ⟨same_new nd' _, upd_same⟩ (fun i H2 _ h => .inl (.inl (h.1 _ _ upd_same))) (fun i x H2 hx h => ?_) (fun H2 h => ?_)
    · obtain ⟨sm, ed⟩ := h
      obtain ⟨t1, et, hx1⟩ := hs.get hx
      have sa := s2.trans sm
      refine ⟨rfl, ?_⟩
      refine ⟨_, rfl, _, rfl, x, t1, a, W, rfl, TmAt.mono sa.tups _ _ hx1, sa _ _ ha, by have := nest_le_of et; omega, by have := size_le_of et; omega, fun H3 s3 => ?_⟩
      have li : i < as.length := (List.getElem?_eq_some_iff.mp et).1
      refine ⟨_, s3 _ _ ed, small6' (by rw [List.length_map, List.length_map, List.length_take]; omega), But.same nd' (sm.trans s3) But.upd, ?_⟩
      rw [upd_same, List.take_add_one, et, List.map_append, List.map_append]; rfl
    obtain ⟨sm, ed⟩ := h
    rw [ls, List.take_length] at ed
    refine ⟨d, _, rfl, .inl (.inl ed), _, _, rfl, rfl, ?_⟩
    rw [wts_sum]
    exact q H2 (s2.trans sm)
theorem ok_law_weight {f : Addr} {fd : FuncData} (D : Df K mg "_law_weight" s__law_weight ["term", "weights"] f fd) (m_isinstance : mg "isinstance" = none) (m_tuple : mg "tuple" = none) (m_sum : mg "sum" = none) : ∀ n : Nat, FnOk P w K mg base CX0 n f fd ["term", "weights"] (spLWt n)
  | 0 => by
    have no : ∀ vs H Q E, ¬ spLWt 0 vs H Q E := fun vs H Q E h => by
      obtain ⟨_, t, _, _, _, _, _, hk, _⟩ := h
      cases t with
      | var k => exact absurd hk (by show ¬ (1 ≤ 0); omega)
      | ap f as => exact absurd hk (by show ¬ (_ + 1 ≤ 0); omega)
    exact ⟨fun vs H Q E h => absurd h (no vs H Q E), fun A outer s H args us vs Q E _ _ _ _ h => absurd h (no vs H Q E)⟩
  | n + 1 => ok_law_weight1 D m_isinstance m_tuple m_sum (ok_law_weight D m_isinstance m_tuple m_sum n)
/-! ### _law_same, of two strings, of two truth values -/
def spSameS : Sp := fun vs H Q _ => ((∃ x : Str, vs = [.str x, .str x]) ∨ (∃ x : Bool, vs = [.bl x, .bl x])) ∧ Q (.bl true) H
theorem sc_law_same : FnScope ["actual", "due", "k"] ["actual", "due"] (defScope s__law_same) := ⟨rfl, rfl, rfl, by decide +kernel, rfl, by decide +kernel, by decide +kernel⟩
theorem ok_law_same {f : Addr} {fd : FuncData} (D : Df K mg "_law_same" s__law_same ["actual", "due"] f fd) (m_isinstance : mg "isinstance" = none) (m_tuple : mg "tuple" = none) (m_bool : mg "bool" = none) (m_int : mg "int" = none) (m_str : mg "str" = none) : FnOk P w K mg base CX0 1 f fd ["actual", "due"] spSameS := by
  refine D.F.ok sc_law_same (fun vs H Q E h => ?_) (fun cdv A outer s H vs Q E hr h => ?_)
  · obtain ⟨⟨x, rfl⟩ | ⟨x, rfl⟩, _⟩ := h <;> rfl
  have nd := sc_law_same.nd
  refine ⟨_, (pss_cons (ps_if (pt_val (pe_callB call_isiDat (by rfl) m_isinstance (by decide +kernel) (pa_cons (pv 1) (pa_cons (pe_bltn (v := .ty "tuple") (by rfl) m_tuple (by decide +kernel) rfl) pa_nil)))) (pss_cons ps_no (pss_cons ps_no (pss_one ps_no))) pss_nil) (pss_cons (ps_if (PW.pt (pw_or (pt_val (pe_callB call_isiDat (by rfl) m_isinstance (by decide +kernel) (pa_cons (pv 1) (pa_cons (pe_bltn (v := .ty "bool") (by rfl) m_bool (by decide +kernel) rfl) pa_nil)))) (pw_or1 (pt_val (pe_callB call_isiDat (by rfl) m_isinstance (by decide +kernel) (pa_cons (pv 0) (pa_cons (pe_bltn (v := .ty "bool") (by rfl) m_bool (by decide +kernel) rfl) pa_nil))))))) (pss_one (ps_ret (pe_and (pe_callB call_isiDat (by rfl) m_isinstance (by decide +kernel) (pa_cons (pv 1) (pa_cons (pe_bltn (v := .ty "bool") (by rfl) m_bool (by decide +kernel) rfl) pa_nil))) (pe_and (pe_callB call_isiDat (by rfl) m_isinstance (by decide +kernel) (pa_cons (pv 0) (pa_cons (pe_bltn (v := .ty "bool") (by rfl) m_bool (by decide +kernel) rfl) pa_nil))) (pe_one (pe_cmpR op_eq (pv 1) (pv 0) (nomark _))))))) pss_nil) (pss_cons (ps_if (pt_val (pe_callB call_isiDat (by rfl) m_isinstance (by decide +kernel) (pa_cons (pv 1) (pa_cons (pe_bltn (v := .ty "int") (by rfl) m_int (by decide +kernel) rfl) pa_nil)))) (pss_one ps_no) pss_nil) (pss_cons (ps_if (pt_val (pe_callB call_isiDat (by rfl) m_isinstance (by decide +kernel) (pa_cons (pv 1) (pa_cons (pe_bltn (v := .ty "str") (by rfl) m_str (by decide +kernel) rfl) pa_nil)))) (pss_one (ps_ret (pe_and (pe_callB call_isiDat (by rfl) m_isinstance (by decide +kernel) (pa_cons (pv 0) (pa_cons (pe_bltn (v := .ty "str") (by rfl) m_str (by decide +kernel) rfl) pa_nil))) (pe_one (pe_cmpR op_eq (pv 0) (pv 1) (nomark _)))))) pss_nil) (pss_one ps_no))))), ?_⟩
  obtain ⟨⟨x, rfl⟩ | ⟨x, rfl⟩, q⟩ := h
  · refine ⟨_, rfl, _, .str x, "tuple", _, rfl, .str x, k_tup _, _, rfl, iteF ?_⟩
    refine ⟨_, rfl, _, .str x, "bool", _, rfl, .str x, k_bool _, _, rfl, iteF ⟨_, rfl, _, .str x, "bool", _, rfl, .str x, k_bool _, _, rfl, iteF ?_⟩⟩
    refine ⟨_, rfl, _, .str x, "int", _, rfl, .str x, k_int _, _, rfl, iteF ?_⟩
    refine ⟨_, rfl, _, .str x, "str", _, rfl, .str x, k_str _, _, rfl, iteT ?_⟩
    refine ⟨_, rfl, _, .str x, "str", _, rfl, .str x, k_str _, true, rfl, _, rfl, _, rfl, rfl, ?_⟩
    rw [decide_eq_true rfl]
    exact q
  · refine ⟨_, rfl, _, .bool x, "tuple", _, rfl, .bl x, k_tup _, _, rfl, iteF ?_⟩
    refine ⟨_, rfl, _, .bool x, "bool", _, rfl, .bl x, k_bool _, _, rfl, iteT ?_⟩
    refine ⟨_, rfl, _, .bool x, "bool", _, rfl, .bl x, k_bool _, true, rfl, _, rfl, _, .bool x, "bool", _, rfl, .bl x, k_bool _, true, rfl, _, rfl, _, rfl, rfl, ?_⟩
    rw [decide_eq_true rfl]
    exact q
/-! ### _law_count -/
theorem cnts_sum (k : Key) : ∀ as : List Ter, (as.map (Ter.cnt k)).sum = Ter.cnts k as
  | [] => rfl
  | a :: r => by
    show a.cnt k + (r.map (Ter.cnt k)).sum = a.cnt k + Ter.cnts k r
    rw [cnts_sum k r]
def spCnt (n : Nat) : Sp := fun vs H Q _ => ∃ (S : Str → Nat → Prop) (v : V) (t : Ter) (i : Int), vs = [v, .int i] ∧ TmAt H v t ∧ t.wf S natVar ∧ t.nest ≤ n ∧ t.size ≤ 100000 ∧ ∀ H', Same H H' → Q (.int (t.cnt (.inl i))) H'
theorem sc_law_count : FnScope ["term", "name", "part"] ["term", "name"] (defScope s__law_count) := ⟨rfl, rfl, rfl, by decide +kernel, rfl, by decide +kernel, by decide +kernel⟩
theorem ok_law_count1 {f : Addr} {fd : FuncData} (D : Df K mg "_law_count" s__law_count ["term", "name"] f fd) (m_isinstance : mg "isinstance" = none) (m_tuple : mg "tuple" = none) (m_sum : mg "sum" = none) (m_int : mg "int" = none) {n : Nat} (G : FnOk P w K mg base CX0 n f fd ["term", "name"] (spCnt n)) : FnOk P w K mg base CX0 (n + 1) f fd ["term", "name"] (spCnt (n + 1)) := by
  refine D.F.ok sc_law_count (fun vs H Q E h => ?_) (fun cdv A outer s H vs Q E hr h => ?_)
  · obtain ⟨S, v, t, i, rfl, _⟩ := h; rfl
  obtain ⟨S, v, t, k, rfl, ht, hw, hn, hz, q⟩ := h
  have nd := sc_law_count.nd
  refine ⟨_, (pss_cons (ps_if (pt_not (pt_val (pe_callB call_isiTer (by rfl) m_isinstance (by decide +kernel) (pa_cons (pv 0) (pa_cons (pe_bltn (v := .ty "tuple") (by rfl) m_tuple (by decide +kernel) rfl) pa_nil))))) (pss_one (ps_ret (pe_callTy call_int1 (by rfl) m_int (by decide +kernel) (pa_cons (pe_cmpR op_eq (pv 0) (pv 1) (nomark _)) pa_nil)))) pss_nil) (pss_one (ps_ret (pe_callB (cr_sum rfl) (by rfl) m_sum (by decide +kernel) (pa_cons (pe_lc (own := [("part", 2)]) (g := gName 2) (tt := tYes) (te := tCall (spCnt n) [] E0 (tCons (tVar 2) (tCons (tVar 1) tNil))) rfl nd (pi_tup (pe_slice sl_1 (pv 0) (po_some pe_int) po_none)) (blkOk_by (N := ["term", "name", "part"]) (sc := defScope s__law_count) (by decide +kernel)) (fun _ _ _ _ _ => pg_name (i := 2) nd rfl (Or.inl rfl)) (fun _ _ _ _ _ => pts_nil) (fun _ _ _ _ _ => pe_call G hr (by rfl) D.m D.F.kp D.b .nil pass0 (pa_cons (pv 2) (pa_cons (pv 1) pa_nil)))) pa_nil))))), ?_⟩
  refine ⟨v, rfl, v, t, rfl, ht, _, rfl, ?_⟩
  cases ht with
  | int i =>
    refine iteT ⟨_, rfl, _, rfl, rfl, .inr ⟨_, rfl, ?_⟩⟩
    have q := q H (Same.refl _)
    have e : (Ter.var (.inl i)).cnt (.inl k) = if decide (V.int i = V.int k) = true then 1 else 0 := by
      show (if (.inl i : Key) = .inl k then (1 : Int) else 0) = _
      by_cases c : i = k
      · rw [if_pos (congrArg Sum.inl c), if_pos (decide_eq_true (congrArg V.int c))]
      · rw [if_neg (fun z => c (Sum.inl.inj z)), if_neg (by rw [decide_eq_false fun z => c (V.int.inj z)]; exact Bool.false_ne_true)]
    rw [e] at q
    exact q
  | str x =>
    obtain ⟨r, e, _⟩ := hw
    cases e
  | @ap p g xs as e hs =>
    have hn : Ter.nests as + 1 ≤ n + 1 := hn
    have hz : Ter.sizes as + 1 ≤ 100000 := hz
    have la := Ter.sizes_len as
    have ls := hs.len
    refine iteF ?_
    refine ⟨.ref p, rfl, 1, rfl, p, .str g, xs, rfl, rfl, rfl, .inl (.inl e), fun p2 np2 => ?_⟩
    have s2 := same_new np2 (.tup xs)
    refine ⟨p2, rfl, ⟨xs, .inl (.inl upd_same)⟩, fun d nd' => ?_⟩
    refine walk_t (xs := xs) (fun i H2 => Same (upd H p2 (.tup xs)) H2 ∧ H2 d = some (.lst (((as.take i).map (Ter.cnt (.inl k))).map V.int))) ⟨same_new nd' _, upd_same⟩ (fun i H2 _ h => .inl (.inl (h.1 _ _ upd_same))) (fun i x H2 hx h => ?_) (fun H2 h => ?_)
    · obtain ⟨sm, ed⟩ := h
      obtain ⟨t1, et, hx1⟩ := hs.get hx
      have sa := s2.trans sm
      refine ⟨rfl, ?_⟩
      refine ⟨_, rfl, _, rfl, S, x, t1, k, rfl, TmAt.mono sa.tups _ _ hx1, wfs_get hw.2 et, by have := nest_le_of et; omega, by have := size_le_of et; omega, fun H3 s3 => ?_⟩
      have li : i < as.length := (List.getElem?_eq_some_iff.mp et).1
      refine ⟨_, s3 _ _ ed, small6' (by rw [List.length_map, List.length_map, List.length_take]; omega), But.same nd' (sm.trans s3) But.upd, ?_⟩
      rw [upd_same, List.take_add_one, et, List.map_append, List.map_append]; rfl
    obtain ⟨sm, ed⟩ := h
    rw [ls, List.take_length] at ed
    refine ⟨d, _, rfl, .inl (.inl ed), ?_⟩
    rw [cnts_sum]
    exact q H2 (s2.trans sm)
theorem ok_law_count {f : Addr} {fd : FuncData} (D : Df K mg "_law_count" s__law_count ["term", "name"] f fd) (m_isinstance : mg "isinstance" = none) (m_tuple : mg "tuple" = none) (m_sum : mg "sum" = none) (m_int : mg "int" = none) : ∀ n : Nat, FnOk P w K mg base CX0 n f fd ["term", "name"] (spCnt n)
  | 0 => by
    have no : ∀ vs H Q E, ¬ spCnt 0 vs H Q E := fun vs H Q E h => by
      obtain ⟨_, _, t, _, _, _, _, hk, _⟩ := h
      cases t with
      | var k => exact absurd hk (by show ¬ (1 ≤ 0); omega)
      | ap f as => exact absurd hk (by show ¬ (_ + 1 ≤ 0); omega)
    exact ⟨fun vs H Q E h => absurd h (no vs H Q E), fun A outer s H args us vs Q E _ _ _ _ h => absurd h (no vs H Q E)⟩
  | n + 1 => ok_law_count1 D m_isinstance m_tuple m_sum m_int (ok_law_count D m_isinstance m_tuple m_sum m_int n)
/-! ### _law_vars -/
def spVars (n : Nat) : Sp := fun vs H Q _ => ∃ (S : Str → Nat → Prop) (v : V) (t : Ter), vs = [v] ∧ TmAt H v t ∧ t.wf S natVar ∧ t.nest ≤ n ∧ t.size ≤ 100000 ∧ ∀ (p : Addr) (ks : List Int) (H' : Hp), Same H H' → H p = none → H' p = some (.lst (ks.map V.int)) → (∀ k, t.cnt k ≠ 0 → ∃ i ∈ ks, k = .inl i) → (∀ i ∈ ks, t.cnt (.inl i) ≠ 0) → ks.length ≤ t.size → Q (.ref p) H'
theorem inV_int (x : Int) (ks : List Int) : inV (.int x) (ks.map V.int) = true ↔ x ∈ ks := by
  unfold inV
  rw [List.any_map, List.any_eq_true]
  exact ⟨fun ⟨y, hy, e⟩ => by
    have e : (y == x) = true := e
    rw [← beq_iff_eq.mp e]; exact hy, fun h => ⟨x, h, by show (x == x) = true; exact beq_self_eq_true x⟩⟩
theorem flat_ints (ks : List Int) : (ks.map V.int).all flatV = true := by rw [List.all_map, List.all_eq_true]; exact fun _ _ => rfl
theorem sc_law_vars : FnScope ["term", "found", "part", "name"] ["term"] (defScope s__law_vars) := ⟨rfl, rfl, rfl, by decide +kernel, rfl, by decide +kernel, by decide +kernel⟩
theorem ok_law_vars1 {f : Addr} {fd : FuncData} (D : Df K mg "_law_vars" s__law_vars ["term"] f fd) (m_isinstance : mg "isinstance" = none) (m_tuple : mg "tuple" = none) {n : Nat} (G : FnOk P w K mg base CX0 n f fd ["term"] (spVars n)) : FnOk P w K mg base CX0 (n + 1) f fd ["term"] (spVars (n + 1)) := by
  refine D.F.ok sc_law_vars (fun vs H Q E h => ?_) (fun cdv A outer s H vs Q E hr h => ?_)
  · obtain ⟨S, v, t, rfl, _⟩ := h; rfl
  obtain ⟨S, v, t, rfl, ht, hw, hn, hz, q⟩ := h
  have nd := sc_law_vars.nd
  refine ⟨_, (pss_cons (ps_if (pt_not (pt_val (pe_callB call_isiTer (by rfl) m_isinstance (by decide +kernel) (pa_cons (pv 0) (pa_cons (pe_bltn (v := .ty "tuple") (by rfl) m_tuple (by decide +kernel) rfl) pa_nil))))) (pss_one (ps_ret (pe_lst (pa_cons (pv 0) pa_nil)))) pss_nil) (pss_cons (ps_set (i := 1) nd rfl (.inl rfl) (pe_lst pa_nil)) (pss_cons (ps_for PassesOwn.never rfl (pi_tup (pe_slice sl_1 (pv 0) (po_some pe_int) po_none)) (pg_name (i := 2) nd rfl (.inl rfl)) (pss_one (ps_for PassesOwn.never rfl (pi_list (pe_call G hr (by rfl) D.m D.F.kp D.b .nil pass0 (pa_cons (pv 2) pa_nil))) (pg_name (i := 3) nd rfl (.inl rfl)) (pss_one (ps_if (pt_cmpR op_notIn_seq (pv 3) (pv 1) (by rfl)) (pss_one (ps_expr (pe_bm PySem.F.plainAttrs_list PySem.F.slot_list_append PySem.F.type_list_append mt_append (pv 1) (pa_cons (pv 3) pa_nil)))) pss_nil))))) (pss_one (ps_ret (pv 1)))))), ?_⟩
  refine ⟨v, rfl, v, t, rfl, ht, _, rfl, ?_⟩
  cases ht with
  | int i =>
    refine iteT ⟨_, rfl, by show 1 ≤ sizeLine; decide, fun p np => ?_⟩
    refine q p [i] _ (same_new np _) np upd_same (fun k hk => ⟨i, List.mem_singleton.mpr rfl, ?_⟩) (fun k hk => by rw [List.mem_singleton.mp hk]; show (if (.inl i : Key) = .inl i then (1 : Int) else 0) ≠ 0; rw [if_pos rfl]; decide) (Nat.le_refl _)
    refine Classical.byContradiction fun z => hk ?_
    show (if (.inl i : Key) = k then (1 : Int) else 0) = 0
    rw [if_neg (fun y => z y.symm)]
  | str x =>
    obtain ⟨r, e, _⟩ := hw
    cases e
  | @ap p g xs as e hs =>
    have hn : Ter.nests as + 1 ≤ n + 1 := hn
    have hz : Ter.sizes as + 1 ≤ 100000 := hz
    have ls := hs.len
    refine iteF ?_
    refine ⟨Nat.zero_le _, fun d nd' => ?_⟩
    have s1 := same_new nd' (.lst [])
    refine ⟨.ref p, rfl, 1, rfl, p, .str g, xs, rfl, rfl, rfl, .inl (.inl (s1 _ _ e)), fun p2 np2 => ?_⟩
    have s2 := same_new np2 (.tup xs)
    have e2 : (upd (upd H d (.lst [])) p2 (.tup xs)) p2 = some (.tup xs) := upd_same
    have s12 := s1.trans s2
    refine ⟨p2, rfl, ⟨xs, .inl (.inl e2)⟩, for_tup (xs := xs) (fun i σ F => ∃ ks y2 y3, σ = [some (.ref p), some (.ref d), y2, y3] ∧ Same H F ∧ F p2 = some (.tup xs) ∧ F d = some (.lst (ks.map V.int)) ∧ (∀ k, Ter.cnts k (as.take i) ≠ 0 → ∃ j ∈ ks, k = .inl j) ∧ (∀ j ∈ ks, Ter.cnts (.inl j) (as.take i) ≠ 0) ∧ ks.length ≤ Ter.sizes (as.take i)) ⟨[], none, none, rfl, s12, e2, s2 _ _ upd_same, fun k hk => absurd rfl hk, (fun _ h => (nomatch h)), Nat.zero_le _⟩ (fun i σ F _ h => ?_) (fun i x σ F hx h => ?_) (fun σ F h => ?_)⟩
    · obtain ⟨ks, y2, y3, rfl, sm, ep, _⟩ := h
      exact .inl (.inl ep)
    · obtain ⟨ks, y2, y3, rfl, sm, ep, ed, hk, hk0, lk⟩ := h
      obtain ⟨t1, et, hx1⟩ := hs.get hx
      have k1 := nest_le_of et
      have k3 := size_le_of et
      have etk : as.take (i + 1) = as.take i ++ [t1] := by rw [List.take_add_one, et]; rfl
      have sz : Ter.sizes (as.take i) + t1.size ≤ Ter.sizes as := by
        have h1 : Ter.sizes as = Ter.sizes (as.take (i + 1)) + Ter.sizes (as.drop (i + 1)) := by rw [← Ter.sizes_app, List.take_append_drop]
        rw [etk, Ter.sizes_app] at h1
        have : Ter.sizes [t1] = t1.size := by show t1.size + 0 = _; omega
        omega
      refine ⟨_, rfl, S, x, t1, rfl, TmAt.mono sm.tups _ _ hx1, wfs_get hw.2 et, by omega, by omega, fun p5 k5 F5 s5 n5 e5 c5 c50 l5 => ?_⟩
      have npd : p5 ≠ d := fun z => by rw [z, ed] at n5; cases n5
      refine ⟨p5, rfl, ⟨_, .inl (.inl e5)⟩, for_list (xs := k5.map V.int) (fun j σ F6 => ∃ ks' y3, σ = [some (.ref p), some (.ref d), some x, y3] ∧ Same H F6 ∧ F6 p2 = some (.tup xs) ∧ F6 d = some (.lst (ks'.map V.int)) ∧ F6 p5 = some (.lst (k5.map V.int)) ∧ (∀ k ∈ ks, k ∈ ks') ∧ (∀ k ∈ k5.take j, k ∈ ks') ∧ (∀ k ∈ ks', k ∈ ks ∨ k ∈ k5) ∧ ks'.length ≤ ks.length + j) ⟨ks, y3, rfl, sm.trans s5, s5 _ _ ep, s5 _ _ ed, e5, fun _ h => h, (fun _ h => (nomatch h)), (fun _ h => .inl h), Nat.le_refl _⟩ (fun j σ F6 _ h => ?_) (fun j y σ F6 hy h => ?_) (fun σ F6 h => ?_)⟩
      · obtain ⟨ks', y3, rfl, sm6, ep6, ed6, e56, _⟩ := h
        exact .inl (.inl e56)
      · obtain ⟨ks', y3, rfl, sm6, ep6, ed6, e56, in1, in2, in3, l6⟩ := h
        obtain ⟨c, hc, rfl⟩ : ∃ k, k5[j]? = some k ∧ V.int k = y := by
          rw [List.getElem?_map] at hy
          exact Option.map_eq_some_iff.mp hy
        have lj : j < k5.length := (List.getElem?_eq_some_iff.mp hc).1
        have tk : ∀ k, k ∈ k5.take (j + 1) → k ∈ k5.take j ∨ k = c := fun k hk => by
          rw [List.take_add_one, hc] at hk
          rcases List.mem_append.mp hk with hk | hk
          · exact .inl hk
          · exact .inr (List.mem_singleton.mp hk)
        refine ⟨_, rfl, _, rfl, d, _, rfl, .inl (.inl (.inl ed6)), rfl, flat_ints ks', _, rfl, ?_⟩
        show if (!inV (.int c) (ks'.map V.int)) = true then _ else _
        cases ci : inV (.int c) (ks'.map V.int) with
        | true =>
          refine iteF ⟨ks', _, rfl, sm6, ep6, ed6, e56, in1, fun k hk => ?_, in3, by omega⟩
          rcases tk k hk with h | rfl
          · exact in2 k h
          · exact (inV_int k ks').mp ci
        | false =>
          refine iteT ⟨_, rfl, tyl ed6, _, rfl, d, _, _, rfl, rfl, ed6, small6' (by rw [List.length_map]; omega), ?_⟩
          have b7 : But d F6 (upd F6 d (.lst (ks'.map V.int ++ [.int c]))) := But.upd
          have npp : p2 ≠ d := fun z => by rw [z, ed6] at ep6; cases ep6
          refine ⟨ks' ++ [c], _, rfl, But.same nd' sm6 b7, b7 _ _ npp ep6, ?_, b7 _ _ npd e56, fun k hk => List.mem_append.mpr (.inl (in1 k hk)), fun k hk => ?_, fun k hk => ?_, by rw [List.length_append, List.length_singleton]; omega⟩
          · rw [upd_same, List.map_append]; rfl
          · rcases tk k hk with h | rfl
            · exact List.mem_append.mpr (.inl (in2 k h))
            · exact List.mem_append.mpr (.inr (List.mem_singleton.mpr rfl))
          · rcases List.mem_append.mp hk with hk | hk
            · exact in3 k hk
            · rw [List.mem_singleton.mp hk]; exact .inr (List.mem_of_getElem? hc)
      · obtain ⟨ks', y3, rfl, sm6, ep6, ed6, e56, in1, in2, in3, l6⟩ := h
        rw [List.length_map] at l6 in2
        rw [List.take_length] at in2
        refine ⟨ks', _, _, rfl, sm6, ep6, ed6, fun k hk2 => ?_, fun k hk2 => ?_, ?_⟩
        · rw [etk, cnts_app] at hk2
          have e9 : Ter.cnts k [t1] = t1.cnt k := by show t1.cnt k + 0 = _; omega
          rw [e9] at hk2
          by_cases z : Ter.cnts k (as.take i) = 0
          · obtain ⟨j, hj, rfl⟩ := c5 k (by omega)
            exact ⟨j, in2 j hj, rfl⟩
          · obtain ⟨j, hj, rfl⟩ := hk k z
            exact ⟨j, in1 j hj, rfl⟩
        · rw [etk, cnts_app]
          have e9 : Ter.cnts (.inl k) [t1] = t1.cnt (.inl k) := by show t1.cnt _ + 0 = _; omega
          rw [e9]
          have p1 : 0 ≤ Ter.cnts (.inl k) (as.take i) := cge_bind.cnt_pos0 (.inl k) (.ap "" (as.take i))
          have p2 := cge_bind.cnt_pos0 (.inl k) t1
          rcases in3 k hk2 with h | h
          · have := hk0 k h; omega
          · have := c50 k h; omega
        · rw [etk, Ter.sizes_app]
          have : Ter.sizes [t1] = t1.size := by show t1.size + 0 = _; omega
          omega
    · obtain ⟨ks, y2, y3, rfl, sm, ep, ed, hk, hk0, lk⟩ := h
      rw [ls, List.take_length] at hk lk hk0
      exact ⟨_, rfl, q d ks F sm nd' ed (fun k hk2 => hk k hk2) (fun k hk2 => hk0 k hk2) (by show _ ≤ Ter.sizes as + 1; omega)⟩
theorem ok_law_vars {f : Addr} {fd : FuncData} (D : Df K mg "_law_vars" s__law_vars ["term"] f fd) (m_isinstance : mg "isinstance" = none) (m_tuple : mg "tuple" = none) : ∀ n : Nat, FnOk P w K mg base CX0 n f fd ["term"] (spVars n)
  | 0 => by
    have no : ∀ vs H Q E, ¬ spVars 0 vs H Q E := fun vs H Q E h => by
      obtain ⟨_, _, t, _, _, _, hk, _⟩ := h
      cases t with
      | var k => exact absurd hk (by show ¬ (1 ≤ 0); omega)
      | ap f as => exact absurd hk (by show ¬ (_ + 1 ≤ 0); omega)
    exact ⟨fun vs H Q E h => absurd h (no vs H Q E), fun A outer s H args us vs Q E _ _ _ _ h => absurd h (no vs H Q E)⟩
  | n + 1 => ok_law_vars1 D m_isinstance m_tuple (ok_law_vars D m_isinstance m_tuple n)
end

section
variable {P : Program} {w : World} {K : PySem.W.Frag} {mg : Str → Option Value} {base : Heap}
/-! ### _law_higher -/
theorem inV_idx (x : Str) (ps : List Str) : inV (.str x) (ps.map V.str) = (idxP ps x).isSome := by
  rw [Bool.eq_iff_iff, inV_str, idxP_mem]
theorem flat_strs (ks : List Str) : (ks.map V.str).all flatV = true := by rw [List.all_map, List.all_eq_true]; exact fun _ _ => rfl
def spHi : Sp := fun vs H Q _ => ∃ (f g : Str) (pl : Addr) (ps : List Str), vs = [.str f, .str g, .ref pl] ∧ H pl = some (.lst (ps.map V.str)) ∧ Q (.bl (lhi ps f g)) H
theorem sc_law_higher : FnScope ["first", "second", "precedence"] ["first", "second", "precedence"] (defScope s__law_higher) := ⟨rfl, rfl, rfl, by decide +kernel, rfl, by decide +kernel, by decide +kernel⟩
theorem ok_law_higher {f : Addr} {fd : FuncData} (D : Df K mg "_law_higher" s__law_higher ["first", "second", "precedence"] f fd) : FnOk P w K mg base CX0 1 f fd ["first", "second", "precedence"] spHi := by
  refine D.F.ok sc_law_higher (fun vs H Q E h => ?_) (fun cdv A outer s H vs Q E hr h => ?_)
  · obtain ⟨f, g, pl, ps, rfl, _⟩ := h; rfl
  obtain ⟨f, g, pl, ps, rfl, hp, q⟩ := h
  refine ⟨_, (pss_cons (ps_if (pt_cmpR op_eq (pv 0) (pv 1) (nomark _)) (pss_one (ps_ret pe_bl)) pss_nil)
    (pss_cons (ps_if (PW.pt (pw_or (pt_cmpR op_eq (pv 0) pe_str (nomark _)) (pw_or1 (pt_cmpR op_eq (pv 1) pe_str (nomark _))))) (pss_one (ps_ret (pe_cmpR op_eq (pv 1) pe_str (nomark _)))) pss_nil)
    (pss_cons (ps_if (PW.pt (pw_and (pt_cmpR op_in_seq (pv 0) (pv 2) (by rfl)) (pw_and1 (pt_cmpR op_in_seq (pv 1) (pv 2) (by rfl))))) (pss_one (ps_ret (pe_cmpR op_gt (pe_bm PySem.F.plainAttrs_list PySem.F.slot_list_index PySem.F.type_list_index mt_index (pv 2) (pa_cons (pv 0) pa_nil)) (pe_bm PySem.F.plainAttrs_list PySem.F.slot_list_index PySem.F.type_list_index mt_index (pv 2) (pa_cons (pv 1) pa_nil)) (nomark _)))) pss_nil)
    (pss_cons (ps_if (PW.pt (pw_or (pt_cmpR op_in_seq (pv 0) (pv 2) (by rfl)) (pw_or1 (pt_cmpR op_in_seq (pv 1) (pv 2) (by rfl))))) (pss_one (ps_ret (pe_cmpR op_in_seq (pv 1) (pv 2) (by rfl)))) pss_nil)
    (pss_one (ps_ret (pe_cmpR op_gt_str (pv 0) (pv 1) (nomark _)))))))), ?_⟩
  have sq : SqL K H pl (ps.map V.str) := .inl (.inl hp)
  refine ⟨_, rfl, _, rfl, rfl, _, rfl, ?_⟩
  unfold lhi at q
  by_cases c : f = g
  · rw [if_pos c] at q
    exact iteYe (decide_eq_true (congrArg V.str c)) q
  rw [if_neg c] at q
  refine iteNo (decide_eq_false fun z => c (V.str.inj z)) ?_
  refine ⟨_, rfl, rfl, _, rfl, ?_⟩
  have dg : ∀ g : Str, decide (V.str g = V.str "true") = decide (g = "true") := fun g => decide_eq_decide.mpr ⟨fun z => V.str.inj z, fun z => congrArg V.str z⟩
  by_cases tf : f = "true"
  · rw [if_pos (.inl tf), ← dg] at q
    exact iteYe (decide_eq_true (congrArg V.str tf)) ⟨_, rfl, rfl, q⟩
  refine iteNo (decide_eq_false fun z => tf (V.str.inj z)) ?_
  refine ⟨_, rfl, rfl, _, rfl, ?_⟩
  by_cases tg : g = "true"
  · rw [if_pos (.inr tg), ← dg] at q
    exact iteYe (decide_eq_true (congrArg V.str tg)) ⟨_, rfl, rfl, q⟩
  refine iteNo (decide_eq_false fun z => tg (V.str.inj z)) ?_
  rw [if_neg (fun h => h.elim tf tg)] at q
  have ii : ∀ {x : Str} {i : Nat}, idxP ps x = some i → ∃ z, (ps.map V.str)[i]? = some z ∧ eqV z (.str x) = true ∧ ∀ (m : Nat) (z' : V), m < i → (ps.map V.str)[m]? = some z' → eqV z' (.str x) = false := fun {x i} h => by
    obtain ⟨h1, h2⟩ := idxP_some h
    refine ⟨.str x, by rw [List.getElem?_map, h1]; rfl, (show (x == x) = true from beq_self_eq_true x), fun m z' hm hz => ?_⟩
    rw [List.getElem?_map] at hz
    obtain ⟨y, hy, rfl⟩ := Option.map_eq_some_iff.mp hz
    show (y == x) = false
    exact Bool.eq_false_iff.mpr fun e => h2 m hm (by rw [hy, beq_iff_eq.mp e])
  refine ⟨_, rfl, _, rfl, pl, _, rfl, .inl sq, rfl, flat_strs ps, _, rfl, ?_⟩
  show if inV (.str f) (ps.map V.str) = true then _ else _
  rw [inV_idx]
  cases hf : idxP ps f with
  | some i =>
    rw [hf] at q
    refine iteT ⟨_, rfl, _, rfl, pl, _, rfl, .inl sq, rfl, flat_strs ps, _, rfl, ?_⟩
    show if inV (.str g) (ps.map V.str) = true then _ else _
    rw [inV_idx]
    cases hg : idxP ps g with
    | some j =>
      rw [hg] at q
      refine iteT ?_
      obtain ⟨z1, a1, a2, a3⟩ := ii hf
      obtain ⟨z2, b1, b2, b3⟩ := ii hg
      refine ⟨_, rfl, tyl hp, _, rfl, pl, _, _, i, z1, rfl, rfl, sq, rfl, flat_strs ps, a1, a2, a3, ?_⟩
      refine ⟨_, rfl, tyl hp, _, rfl, pl, _, _, j, z2, rfl, rfl, sq, rfl, flat_strs ps, b1, b2, b3, _, _, rfl, rfl, ?_⟩
      have q : Q (.bl (decide (j < i))) H := q
      show Q (.bl (decide ((j : Int) < (i : Nat)))) H
      rw [show decide ((j : Int) < (i : Nat)) = decide (j < i) from decide_eq_decide.mpr (by omega)]
      exact q
    | none =>
      rw [hg] at q
      refine iteF ⟨_, rfl, _, rfl, pl, _, rfl, .inl sq, rfl, flat_strs ps, _, rfl, ?_⟩
      show if inV (.str f) (ps.map V.str) = true then _ else _
      rw [inV_idx, hf]
      refine iteT ⟨_, rfl, _, rfl, pl, _, rfl, .inl sq, rfl, flat_strs ps, ?_⟩
      show Q (.bl (inV (.str g) (ps.map V.str))) H
      rw [inV_idx, hg]
      exact q
  | none =>
    rw [hf] at q
    refine iteF ⟨_, rfl, _, rfl, pl, _, rfl, .inl sq, rfl, flat_strs ps, _, rfl, ?_⟩
    show if inV (.str f) (ps.map V.str) = true then _ else _
    rw [inV_idx, hf]
    refine iteF ⟨_, rfl, _, rfl, pl, _, rfl, .inl sq, rfl, flat_strs ps, _, rfl, ?_⟩
    show if inV (.str g) (ps.map V.str) = true then _ else _
    rw [inV_idx]
    cases hg : idxP ps g with
    | some j =>
      rw [hg] at q
      refine iteT ⟨_, rfl, _, rfl, pl, _, rfl, .inl sq, rfl, flat_strs ps, ?_⟩
      show Q (.bl (inV (.str g) (ps.map V.str))) H
      rw [inV_idx, hg]
      exact q
    | none =>
      rw [hg] at q
      exact iteF ⟨_, rfl, _, rfl, _, _, rfl, rfl, q⟩
/-! ### _law_greater -/
mutual
theorem cnt_pos (k : Key) : ∀ t : Ter, 0 ≤ t.cnt k
  | .var x => by
    show (0 : Int) ≤ if x = k then 1 else 0
    split <;> decide
  | .ap _ as => cnts_pos k as
theorem cnts_pos (k : Key) : ∀ ts : List Ter, 0 ≤ Ter.cnts k ts
  | [] => Int.le_refl 0
  | a :: r => Int.add_nonneg (cnt_pos k a) (cnts_pos k r)
end
structure GreIn (S : Str → Nat → Prop) (H : Hp) (v1 v2 : V) (a b : Ter) (wd pl : Addr) (W : List (Str × Int)) (ps : List Str) (n : Nat) : Prop where
  f : SymF S
  h1 : TmAt H v1 a
  h2 : TmAt H v2 b
  w1 : a.wf S natVar
  w2 : b.wf S natVar
  n1 : a.nest ≤ n
  n2 : b.nest ≤ n
  z1 : a.size ≤ 100000
  z2 : b.size ≤ 100000
  hw : H wd = some (.dK (wkv W))
  hp : H pl = some (.lst (ps.map V.str))
def spGre (n : Nat) : Sp := fun vs H Q _ => ∃ (S : Str → Nat → Prop) (v1 v2 : V) (a b : Ter) (wd pl : Addr) (W : List (Str × Int)) (ps : List Str), vs = [v1, v2, .ref wd, .ref pl] ∧ n ≤ 8 ∧ GreIn S H v1 v2 a b wd pl W ps n ∧ ∀ (H' : Hp) (r : Bool), Same H H' → (r = true ↔ gre W ps n a b) → Q (.bl r) H'
theorem sc_law_greater : FnScope ["first", "second", "weights", "precedence", "name", "difference", "k"] ["first", "second", "weights", "precedence"] (defScope s__law_greater) := ⟨rfl, rfl, rfl, by decide +kernel, rfl, by decide +kernel, by decide +kernel⟩
theorem ok_law_greater1 {f fV fC fW fH : Addr} {fd dV dC dW dH : FuncData} (D : Df K mg "_law_greater" s__law_greater ["first", "second", "weights", "precedence"] f fd) (DV : Df K mg "_law_vars" s__law_vars ["term"] fV dV) (GV : FnOk P w K mg base CX0 8 fV dV ["term"] (spVars 8))
    (DC : Df K mg "_law_count" s__law_count ["term", "name"] fC dC) (GC : FnOk P w K mg base CX0 8 fC dC ["term", "name"] (spCnt 8)) (DW : Df K mg "_law_weight" s__law_weight ["term", "weights"] fW dW) (GW : FnOk P w K mg base CX0 8 fW dW ["term", "weights"] (spLWt 8))
    (DH : Df K mg "_law_higher" s__law_higher ["first", "second", "precedence"] fH dH) (GH0 : FnOk P w K mg base CX0 1 fH dH ["first", "second", "precedence"] spHi) (m_isinstance : mg "isinstance" = none) (m_tuple : mg "tuple" = none) (m_len : mg "len" = none) (m_range : mg "range" = none) {n : Nat}
    (G : FnOk P w K mg base CX0 (n + 9) f fd ["first", "second", "weights", "precedence"] (spGre n)) : FnOk P w K mg base CX0 (n + 9 + 1) f fd ["first", "second", "weights", "precedence"] (spGre (n + 1)) := by
  refine D.F.ok sc_law_greater (fun vs H Q E h => ?_) (fun cdv A outer s H vs Q E hr h => ?_)
  · obtain ⟨S, v1, v2, a, b, wd, pl, W, ps, rfl, _⟩ := h; rfl
  obtain ⟨S, v1, v2, a, b, wd, pl, W, ps, rfl, n8, J, q⟩ := h
  obtain ⟨SF, h1, h2, w1, w2, n1, n2, z1, z2, hw, hp⟩ := J
  have nd := sc_law_greater.nd
  have r8 : Room 8 _ := hr.mono (by omega)
  have r1 : Room 1 _ := hr.mono (by omega)
  refine ⟨_, (pss_cons (ps_for PassesOwn.never rfl (pi_list (pe_call GV r8 (by rfl) DV.m DV.F.kp DV.b .nil pass0 (pa_cons (pv 1) pa_nil))) (pg_name (i := 4) nd rfl (.inl rfl)) (pss_one (ps_if (pt_cmpR op_lt (pe_call GC r8 (by rfl) DC.m DC.F.kp DC.b .nil pass0 (pa_cons (pv 0) (pa_cons (pv 4) pa_nil))) (pe_call GC r8 (by rfl) DC.m DC.F.kp DC.b .nil pass0 (pa_cons (pv 1) (pa_cons (pv 4) pa_nil))) (nomark _)) (pss_one (ps_ret pe_bl)) pss_nil)))
    (pss_cons (ps_set (i := 5) nd rfl (.inl rfl) (pe_op op_sub (pe_call GW r8 (by rfl) DW.m DW.F.kp DW.b .nil pass0 (pa_cons (pv 0) (pa_cons (pv 2) pa_nil))) (pe_call GW r8 (by rfl) DW.m DW.F.kp DW.b .nil pass0 (pa_cons (pv 1) (pa_cons (pv 2) pa_nil)))))
    (pss_cons (ps_if (pt_cmpR op_ne (pv 5) pe_int (nomark _)) (pss_one (ps_ret (pe_cmpR op_gt (pv 5) pe_int (nomark _)))) pss_nil)
    (pss_cons (ps_if (PW.pt (pw_or (pt_not (pt_val (pe_callB call_isiTer (by rfl) m_isinstance (by decide +kernel) (pa_cons (pv 0) (pa_cons (pe_bltn (v := .ty "tuple") (by rfl) m_tuple (by decide +kernel) rfl) pa_nil))))) (pw_or1 (pt_not (pt_val (pe_callB call_isiTer (by rfl) m_isinstance (by decide +kernel) (pa_cons (pv 1) (pa_cons (pe_bltn (v := .ty "tuple") (by rfl) m_tuple (by decide +kernel) rfl) pa_nil)))))))) (pss_one (ps_ret pe_bl)) pss_nil)
    (pss_cons (ps_if (pt_cmpR op_ne (pe_ix ix_tup (pv 0) pe_int (fun _ _ => rfl)) (pe_ix ix_tup (pv 1) pe_int (fun _ _ => rfl)) (nomark _)) (pss_one (ps_ret (pe_call GH0 r1 (by rfl) DH.m DH.F.kp DH.b .nil pass0 (pa_cons (pe_ix ix_tup (pv 0) pe_int (fun _ _ => rfl)) (pa_cons (pe_ix ix_tup (pv 1) pe_int (fun _ _ => rfl)) (pa_cons (pv 3) pa_nil)))))) pss_nil)
    (pss_cons (ps_for PassesOwn.never rfl (pi_range2 (by rfl) m_range (pa_cons pe_int (pa_cons (pe_callB call_len_seq (by rfl) m_len PySem.boot_len (pa_cons (pv 0) pa_nil)) pa_nil))) (pg_name (i := 6) nd rfl (.inl rfl)) (pss_one (ps_if (pt_cmpR (op_neD hr.units) (pe_ix ix_tup (pv 0) (pv 6) (fun _ _ => rfl)) (pe_ix ix_tup (pv 1) (pv 6) (fun _ _ => rfl)) (nomark _)) (pss_one (ps_ret (pe_call G hr (by rfl) D.m D.F.kp D.b .nil pass0 (pa_cons (pe_ix ix_tup (pv 0) (pv 6) (fun _ _ => rfl)) (pa_cons (pe_ix ix_tup (pv 1) (pv 6) (fun _ _ => rfl)) (pa_cons (pv 2) (pa_cons (pv 3) pa_nil))))))) pss_nil)))
    (pss_one (ps_ret pe_bl)))))))), ?_⟩
  refine ⟨_, rfl, S, v2, b, rfl, h2, w2, by omega, z2, fun p ks H1 s1 np ep cov cov0 lk => ?_⟩
  refine ⟨p, rfl, ⟨_, .inl (.inl ep)⟩, for_list (xs := ks.map V.int) (fun j σ F => ∃ y4, σ = [some v1, some v2, some (.ref wd), some (.ref pl), y4, none, none] ∧ Same H F ∧ F p = some (.lst (ks.map V.int)) ∧ ∀ i ∈ ks.take j, b.cnt (.inl i) ≤ a.cnt (.inl i)) ⟨none, rfl, s1, ep, fun _ h => (nomatch h)⟩ (fun j σ F _ h => ?_) (fun j x σ F hx h => ?_) (fun σ F h => ?_)⟩
  · obtain ⟨y4, rfl, sm, e, _⟩ := h
    exact .inl (.inl e)
  · obtain ⟨y4, rfl, sm, e, hc⟩ := h
    obtain ⟨c, hc2, rfl⟩ : ∃ k, ks[j]? = some k ∧ V.int k = x := by
      rw [List.getElem?_map] at hx
      exact Option.map_eq_some_iff.mp hx
    refine ⟨_, rfl, _, rfl, S, v1, a, c, rfl, TmAt.mono sm.tups _ _ h1, w1, by omega, z1, fun F2 s2 => ?_⟩
    refine ⟨_, rfl, _, rfl, S, v2, b, c, rfl, TmAt.mono (sm.trans s2).tups _ _ h2, w2, by omega, z2, fun F3 s3 => ?_⟩
    refine ⟨_, _, rfl, rfl, _, rfl, ite2 (fun lt => ?_) (fun ge => ?_)⟩
    · have lt := of_decide_eq_true lt
      refine q F3 false (sm.trans (s2.trans s3)) ⟨fun z => (by cases z), fun z => ?_⟩
      have := z.1 (.inl c)
      omega
    · have ge : ¬ a.cnt (.inl c) < b.cnt (.inl c) := fun z => ge (decide_eq_true z)
      refine ⟨_, rfl, sm.trans (s2.trans s3), (s2.trans s3) _ _ e, fun i hi => ?_⟩
      rw [List.take_add_one, hc2] at hi
      rcases List.mem_append.mp hi with hi | hi
      · exact hc i hi
      · rw [List.mem_singleton.mp hi]; omega
  obtain ⟨y4, rfl, sm, _, hc⟩ := h
  rw [List.length_map, List.take_length] at hc
  have hge : cge a b := fun k => by
    by_cases z : b.cnt k = 0
    · rw [z]; exact cnt_pos k a
    · obtain ⟨i, hi, rfl⟩ := cov k z
      exact hc i hi
  have h1F := TmAt.mono sm.tups _ _ h1
  have h2F := TmAt.mono sm.tups _ _ h2
  refine ⟨_, rfl, _, rfl, v1, a, wd, W, rfl, h1F, sm _ _ hw, by omega, z1, fun F2 s2 => ?_⟩
  refine ⟨_, rfl, _, rfl, v2, b, wd, W, rfl, TmAt.mono s2.tups _ _ h2F, s2 _ _ (sm _ _ hw), by omega, z2, fun F3 s3 => ?_⟩
  have sA := sm.trans (s2.trans s3)
  have hge1 : gre W ps (n + 1) a b ↔ (if a.wt W = b.wt W then grs ps (gre W ps n) a b else b.wt W < a.wt W) := ⟨fun h => h.2, fun h => ⟨hge, h⟩⟩
  refine ⟨_, _, rfl, rfl, ?_⟩
  refine ⟨_, rfl, rfl, _, rfl, ?_⟩
  by_cases e : a.wt W = b.wt W
  · rw [if_pos e] at hge1
    refine iteNo (by rw [decide_eq_true (congrArg V.int (show a.wt W - b.wt W = 0 by omega))]; rfl) ?_
    have g1 := TmAt.mono sA.tups _ _ h1
    have g2 := TmAt.mono sA.tups _ _ h2
    refine ⟨_, rfl, v1, a, rfl, g1, _, rfl, ?_⟩
    have qn : grs ps (gre W ps n) a b = False → Q (.bl false) F3 := fun h => q F3 false sA ⟨fun z => (by cases z), fun z => by
      have z := hge1.mp z
      rw [h] at z
      exact z.elim⟩
    cases g1 with
    | int i => exact iteT (qn (grs_v ..))
    | str x => exact iteT (qn (grs_v ..))
    | @ap p1 f1 xs as e1 hs1 =>
      refine iteF ⟨_, rfl, v2, b, rfl, g2, _, rfl, ?_⟩
      cases g2 with
      | int i => exact iteT (qn (grs_w ..))
      | str x => exact iteT (qn (grs_w ..))
      | @ap p2 f2 ys bs e2 hs2 =>
        refine iteF ?_
        have hd : grs ps (gre W ps n) (.ap f1 as) (.ap f2 bs) = if f1 = f2 then (match fdiff as bs with
          | some p => gre W ps n p.1 p.2
          | none => False) else lhi ps f1 f2 = true := rfl
        refine ⟨_, rfl, p1, _, 0, .str f1, rfl, rfl, .inl (.inl e1), head_at, _, rfl, p2, _, 0, .str f2, rfl, rfl, .inl (.inl e2), head_at, rfl, _, rfl, ?_⟩
        by_cases cf : f1 = f2
        · rw [if_pos cf] at hd
          rw [hd] at hge1
          have l1 := hs1.len
          have l2 := hs2.len
          have lab : as.length = bs.length := SF.fn f2 _ _ (cf ▸ w1.1) w2.1
          have hx : Ter.nests as + 1 ≤ n + 1 := n1
          have hy : Ter.nests bs + 1 ≤ n + 1 := n2
          have hzx : Ter.sizes as + 1 ≤ 100000 := z1
          have hzy : Ter.sizes bs + 1 ≤ 100000 := z2
          have lsz := Ter.sizes_len as
          refine iteNo (by rw [decide_eq_true (congrArg V.str cf)]; rfl) ?_
          refine ⟨_, rfl, p1, _, rfl, .inr (.inl (.inl e1)), 1, ((V.str f1 :: xs).length : Nat), rfl, ⟨by decide, by decide, by show _ ≤ ((xs.length + 1 : Nat) : Int); omega, by show ((xs.length + 1 : Nat) : Int) < _; omega⟩, for_range (n := (((V.str f1 :: xs).length : Nat) - 1 : Int).toNat) (fun i σ F => ∃ y4 y6, σ = [some (.ref p1), some (.ref p2), some (.ref wd), some (.ref pl), y4, some (.int (Ter.wt W (.ap f1 as) - Ter.wt W (.ap f2 bs))), y6] ∧ F = F3 ∧ fdiff as bs = fdiff (as.drop i) (bs.drop i)) ⟨_, none, rfl, rfl, rfl⟩ (fun i σ F hi h => ?_) (fun σ F h => ?_)⟩
          · obtain ⟨y4, y6, rfl, rfl, ef⟩ := h
            have hi : i < xs.length := by
              have : (((V.str f1 :: xs).length : Nat) : Int) = ((xs.length + 1 : Nat) : Int) := rfl
              omega
            have ex : xs[i]? = some xs[i] := List.getElem?_eq_getElem hi
            have ey : ys[i]? = some (ys[i]'(by omega)) := List.getElem?_eq_getElem (by omega)
            obtain ⟨t1, et1, ht1⟩ := hs1.get ex
            obtain ⟨t2, et2, ht2⟩ := hs2.get ey
            rw [fdiff_drop et1 et2] at ef
            have v1' := wfs_get w1.2 et1
            have v2' := wfs_get w2.2 et2
            have k1 := nest_le_of et1
            have k2 := nest_le_of et2
            have k3 := size_le_of et1
            have k4 := size_le_of et2
            have e4 : (1 : Int) + (i : Nat) = ((i + 1 : Nat) : Int) := by omega
            have ax : atI (V.str f1 :: xs) (1 + (i : Nat)) = some xs[i] := at_of (j := i + 1) e4 (by rw [List.getElem?_cons_succ]; exact ex)
            have ay : atI (V.str f2 :: ys) (1 + (i : Nat)) = some (ys[i]'(by omega)) := at_of (j := i + 1) e4 (by rw [List.getElem?_cons_succ]; exact ey)
            refine ⟨_, rfl, _, rfl, p1, _, _, _, rfl, rfl, .inl (.inl e1), ax, _, rfl, _, rfl, p2, _, _, _, rfl, rfl, .inl (.inl e2), ay, t1.dat, t2.dat, dp_ter _ _ ht1, dp_ter _ _ ht2, shaped_ter (SF.fine v1') (by omega), shaped_ter (SF.fine v2') (by omega), _, rfl, ?_⟩
            show if (!eT t1 t2) = true then _ else _
            cases ce : eT t1 t2 with
            | true =>
              rw [ce, if_pos rfl] at ef
              exact iteF ⟨_, _, rfl, rfl, ef⟩
            | false =>
              rw [ce, if_neg Bool.false_ne_true] at ef
              refine iteT ?_
              refine ⟨_, rfl, _, rfl, p1, _, _, _, rfl, rfl, .inl (.inl e1), ax, _, rfl, _, rfl, p2, _, _, _, rfl, rfl, .inl (.inl e2), ay, _, rfl, _, rfl, S, _, _, t1, t2, wd, pl, W, ps, rfl, by omega, ⟨SF, ht1, ht2, v1', v2', by omega, by omega, by omega, by omega, sA _ _ hw, sA _ _ hp⟩, fun F4 r s4 hr4 => ?_⟩
              refine q F4 r (sA.trans s4) (hr4.trans ?_)
              rw [hge1, ef]
          · obtain ⟨y4, y6, rfl, rfl, ef⟩ := h
            have lx : ((((V.str f1 :: xs).length : Nat) : Int) - 1).toNat = xs.length := by
              have : (((V.str f1 :: xs).length : Nat) : Int) = ((xs.length + 1 : Nat) : Int) := rfl
              omega
            rw [lx, List.drop_of_length_le (show as.length ≤ xs.length by omega), List.drop_of_length_le (show bs.length ≤ xs.length by omega)] at ef
            refine q _ false sA ⟨fun z => (by cases z), fun z => ?_⟩
            have z := hge1.mp z
            rw [ef] at z
            exact z.elim
        · rw [if_neg cf] at hd
          rw [hd] at hge1
          refine iteYe (by rw [decide_eq_false fun z => cf (V.str.inj z)]; rfl) ?_
          refine ⟨_, rfl, p1, _, 0, .str f1, rfl, rfl, .inl (.inl e1), head_at, _, rfl, p2, _, 0, .str f2, rfl, rfl, .inl (.inl e2), head_at, _, rfl, f1, f2, pl, ps, rfl, sA _ _ hp, ?_⟩
          exact q F3 _ sA hge1.symm
  · rw [if_neg e] at hge1
    refine iteYe (by rw [decide_eq_false fun z => e (by have := V.int.inj z; omega)]; rfl) ?_
    refine ⟨_, rfl, _, _, rfl, rfl, ?_⟩
    exact q F3 _ sA ⟨fun z => hge1.mpr (by have := of_decide_eq_true z; omega), fun z => decide_eq_true (by have := hge1.mp z; omega)⟩
theorem ok_law_greater {f fV fC fW fH : Addr} {fd dV dC dW dH : FuncData} (D : Df K mg "_law_greater" s__law_greater ["first", "second", "weights", "precedence"] f fd) (DV : Df K mg "_law_vars" s__law_vars ["term"] fV dV) (GV : FnOk P w K mg base CX0 8 fV dV ["term"] (spVars 8))
    (DC : Df K mg "_law_count" s__law_count ["term", "name"] fC dC) (GC : FnOk P w K mg base CX0 8 fC dC ["term", "name"] (spCnt 8)) (DW : Df K mg "_law_weight" s__law_weight ["term", "weights"] fW dW) (GW : FnOk P w K mg base CX0 8 fW dW ["term", "weights"] (spLWt 8))
    (DH : Df K mg "_law_higher" s__law_higher ["first", "second", "precedence"] fH dH) (GH0 : FnOk P w K mg base CX0 1 fH dH ["first", "second", "precedence"] spHi) (m_isinstance : mg "isinstance" = none) (m_tuple : mg "tuple" = none) (m_len : mg "len" = none) (m_range : mg "range" = none) : ∀ n : Nat, FnOk P w K mg base CX0 (n + 9) f fd ["first", "second", "weights", "precedence"] (spGre n)
  | 0 => by
    have no : ∀ vs H Q E, ¬ spGre 0 vs H Q E := fun vs H Q E h => by
      obtain ⟨_, _, _, t, _, _, _, _, _, _, _, J, _⟩ := h
      have hk := J.n1
      cases t with
      | var k => exact absurd hk (by show ¬ (1 ≤ 0); omega)
      | ap f as => exact absurd hk (by show ¬ (_ + 1 ≤ 0); omega)
    exact ⟨fun vs H Q E h => absurd h (no vs H Q E), fun A outer s H args us vs Q E _ _ _ _ h => absurd h (no vs H Q E)⟩
  | n + 1 => ok_law_greater1 D DV GV DC GC DW GW DH GH0 m_isinstance m_tuple m_len m_range (ok_law_greater D DV GV DC GC DW GW DH GH0 m_isinstance m_tuple m_len m_range n)
/-! ### _law_compare -/
def spLCmp : Sp := fun vs H Q _ => ∃ (S : Str → Nat → Prop) (v1 v2 : V) (a b : Ter) (wd pl : Addr) (W : List (Str × Int)) (ps : List Str), vs = [v1, v2, .ref wd, .ref pl] ∧ GreIn S H v1 v2 a b wd pl W ps 8 ∧ ∀ (H' : Hp), Same H H' → Q (.str (cmpS W ps 8 a b)) H'
theorem sc_law_compare : FnScope ["first", "second", "weights", "precedence"] ["first", "second", "weights", "precedence"] (defScope s__law_compare) := ⟨rfl, rfl, rfl, by decide +kernel, rfl, by decide +kernel, by decide +kernel⟩
theorem ok_law_compare {f fG : Addr} {fd dG : FuncData} (D : Df K mg "_law_compare" s__law_compare ["first", "second", "weights", "precedence"] f fd) (DG : Df K mg "_law_greater" s__law_greater ["first", "second", "weights", "precedence"] fG dG) (GG : FnOk P w K mg base CX0 17 fG dG ["first", "second", "weights", "precedence"] (spGre 8)) : FnOk P w K mg base CX0 18 f fd ["first", "second", "weights", "precedence"] spLCmp := by
  refine D.F.ok sc_law_compare (fun vs H Q E h => ?_) (fun cdv A outer s H vs Q E hr h => ?_)
  · obtain ⟨S, v1, v2, a, b, wd, pl, W, ps, rfl, _⟩ := h; rfl
  obtain ⟨S, v1, v2, a, b, wd, pl, W, ps, rfl, J, q⟩ := h
  obtain ⟨SF, h1, h2, w1, w2, n1, n2, z1, z2, hw, hp⟩ := id J
  refine ⟨_, (pss_cons (ps_if (pt_cmpR (op_eqDeep (room150 hr)) (pv 0) (pv 1) (nomark _)) (pss_one (ps_ret pe_str)) pss_nil)
    (pss_cons (ps_if (pt_val (pe_call GG hr (by rfl) DG.m DG.F.kp DG.b .nil pass0 (pa_cons (pv 0) (pa_cons (pv 1) (pa_cons (pv 2) (pa_cons (pv 3) pa_nil)))))) (pss_one (ps_ret pe_str)) pss_nil)
    (pss_cons (ps_if (pt_val (pe_call GG hr (by rfl) DG.m DG.F.kp DG.b .nil pass0 (pa_cons (pv 1) (pa_cons (pv 0) (pa_cons (pv 2) (pa_cons (pv 3) pa_nil)))))) (pss_one (ps_ret pe_str)) pss_nil)
    (pss_one (ps_ret pe_str))))), ?_⟩
  obtain ⟨c1, d1⟩ := lay_ter a (SF.fine w1)
  obtain ⟨c2, d2⟩ := lay_ter b (SF.fine w2)
  refine ⟨_, rfl, _, rfl, a.dat, b.dat, dp_ter _ _ h1, dp_ter _ _ h2, c1, c2, by omega, _, rfl, ?_⟩
  show if eT a b = true then _ else _
  unfold cmpS at q
  cases ce : eT a b with
  | true =>
    have q := q H (Same.refl _)
    rw [if_pos ce] at q
    exact iteT q
  | false =>
    rw [if_neg (by rw [ce]; exact Bool.false_ne_true)] at q
    refine iteF ?_
    refine ⟨_, rfl, _, rfl, _, rfl, _, rfl, S, v1, v2, a, b, wd, pl, W, ps, rfl, by decide, J, fun H1 r1 s1 h1' => ⟨_, rfl, ?_⟩⟩
    cases r1 with
    | true =>
      have q := q H1 s1
      rw [if_pos (h1'.mp rfl)] at q
      exact iteT q
    | false =>
      rw [if_neg (fun z => Bool.false_ne_true (h1'.mpr z))] at q
      refine iteF ?_
      refine ⟨_, rfl, _, rfl, _, rfl, _, rfl, S, v2, v1, b, a, wd, pl, W, ps, rfl, by decide, ⟨SF, TmAt.mono s1.tups _ _ h2, TmAt.mono s1.tups _ _ h1, w2, w1, n2, n1, z2, z1, s1 _ _ hw, s1 _ _ hp⟩, fun H2 r2 s2 h2' => ⟨_, rfl, ?_⟩⟩
      have q := q H2 (s1.trans s2)
      cases r2 with
      | true =>
        rw [if_pos (h2'.mp rfl)] at q
        exact iteT q
      | false =>
        rw [if_neg (fun z => Bool.false_ne_true (h2'.mpr z))] at q
        exact iteF q
end

end K76
namespace K76
open PySem PySem.Spec PyProof.Rows L2 Own HT
section
variable {P : Program} {w : World} {K : PySem.W.Frag} {mg : Str → Option Value} {base : Heap}
/-! ### _law_apply -/
def SubF (H : Hp) (kvs : List (Key × V)) (s : Key → Ter) : Prop := ∀ k : Key, match valV kvs k with
  | some v => TmAt H v (s k)
  | none => s k = .var k
theorem SubF.mono {H H' : Hp} {kvs : List (Key × V)} {s : Key → Ter} (h : SubF H kvs s) (m : Tups H H') : SubF H' kvs s := fun k => by
  have h := h k
  cases z : valV kvs k with
  | none => rw [z] at h; exact h
  | some v => rw [z] at h; exact TmAt.mono m _ _ h
def spApp (n : Nat) : Sp := fun vs H Q _ => ∃ (a : Addr) (v : V) (t : Ter) (kvs : List (Key × V)) (s : Key → Ter), vs = [.ref a, v] ∧ H a = some (.dK kvs) ∧ SubF H kvs s ∧ TmAt H v t ∧ t.nest ≤ n ∧ t.size ≤ 100000 ∧ ∀ (v' : V) (H' : Hp), Same H H' → TmAt H' v' (t.bind s) → Q v' H'
theorem sc_law_apply : FnScope ["sub", "term", "part"] ["sub", "term"] (defScope s__law_apply) := ⟨rfl, rfl, rfl, by decide +kernel, rfl, by decide +kernel, by decide +kernel⟩
theorem binds_app (s : Key → Ter) : ∀ as bs : List Ter, Ter.binds s (as ++ bs) = Ter.binds s as ++ Ter.binds s bs
  | [], _ => rfl
  | a :: r, bs => congrArg (a.bind s :: ·) (binds_app s r bs)
theorem ok_law_apply1 {f : Addr} {fd : FuncData} (D : Df K mg "_law_apply" s__law_apply ["sub", "term"] f fd) (m_isinstance : mg "isinstance" = none) (m_tuple : mg "tuple" = none) {n : Nat} (G : FnOk P w K mg base CX0 n f fd ["sub", "term"] (spApp n)) : FnOk P w K mg base CX0 (n + 1) f fd ["sub", "term"] (spApp (n + 1)) := by
  refine D.F.ok sc_law_apply (fun vs H Q E h => ?_) (fun cdv A outer s H vs Q E hr h => ?_)
  · obtain ⟨a, v, t, kvs, s, rfl, _⟩ := h; rfl
  obtain ⟨a, v, t, kvs, s', rfl, ea, hS, ht, hn, hz, q⟩ := h
  have nd := sc_law_apply.nd
  refine ⟨_, (pss_cons (ps_if (pt_not (pt_val (pe_callB call_isiTer (by rfl) m_isinstance (by decide +kernel) (pa_cons (pv 1) (pa_cons (pe_bltn (v := .ty "tuple") (by rfl) m_tuple (by decide +kernel) rfl) pa_nil))))) (pss_cons (ps_if (pt_cmp (pc_din (hu_of hr) (pv 1) (pv 0))) (pss_one (ps_ret (pe_dget (hu_of hr) (pv 0) (pv 1) (fun _ _ => rfl)))) pss_nil) (pss_one (ps_ret (pv 1)))) pss_nil) (pss_one (ps_ret (pe_op op_catT (pe_tup (pa_cons (pe_ix ix_tup (pv 1) pe_int (fun _ _ => rfl)) pa_nil)) (pe_callTy call_tuple_of (by rfl) m_tuple (by decide +kernel) (pa_cons (pe_lc (own := [("part", 2)]) (g := gName 2) (tt := tYes) (te := tCall (spApp n) [] E0 (tCons (tVar 0) (tCons (tVar 2) tNil))) rfl nd (pi_tup (pe_slice sl_1 (pv 1) (po_some pe_int) po_none)) (blkOk_by (N := ["sub", "term", "part"]) (sc := defScope s__law_apply) (by decide +kernel)) (fun _ _ _ _ _ => pg_name (i := 2) nd rfl (Or.inl rfl)) (fun _ _ _ _ _ => pts_nil) (fun _ _ _ _ _ => pe_call G hr (by rfl) D.m D.F.kp D.b .nil pass0 (pa_cons (pv 0) (pa_cons (pv 2) pa_nil)))) pa_nil)))))), ?_⟩
  refine ⟨v, rfl, v, t, rfl, ht, _, rfl, ?_⟩
  cases ht with
  | int i =>
    refine iteT ⟨_, rfl, _, rfl, a, _, rfl, DGet.k (k := .inl i) ea, _, rfl, ?_⟩
    have h := hS (.inl i)
    cases z : valV kvs (.inl i) with
    | none =>
      rw [z] at h
      exact iteF ⟨_, rfl, q _ H (Same.refl _) (by show TmAt H (.int i) (s' (.inl i)); rw [h]; exact .int i)⟩
    | some u =>
      rw [z] at h
      exact iteT ⟨_, rfl, _, rfl, a, u, rfl, DGet.of ea z, q u H (Same.refl _) h⟩
  | str x =>
    refine iteT ⟨_, rfl, _, rfl, a, _, rfl, DGet.k (k := .inr x) ea, _, rfl, ?_⟩
    have h := hS (.inr x)
    cases z : valV kvs (.inr x) with
    | none =>
      rw [z] at h
      exact iteF ⟨_, rfl, q _ H (Same.refl _) (by show TmAt H (.str x) (s' (.inr x)); rw [h]; exact .str x)⟩
    | some u =>
      rw [z] at h
      exact iteT ⟨_, rfl, _, rfl, a, u, rfl, DGet.of ea z, q u H (Same.refl _) h⟩
  | @ap p g xs as e hs =>
    refine iteF ?_
    have ls := hs.len
    have hn : Ter.nests as + 1 ≤ n + 1 := hn
    have hz : Ter.sizes as + 1 ≤ 100000 := hz
    have la := Ter.sizes_len as
    refine ⟨_, rfl, p, _, 0, .str g, rfl, rfl, .inl (.inl e), head_at, by show 1 ≤ sizeLine; decide, fun p1 np1 => ?_⟩
    have s1 := same_new np1 (.tup [.str g])
    refine ⟨.ref p, rfl, 1, rfl, p, .str g, xs, rfl, rfl, rfl, .inl (.inl (s1 _ _ e)), fun p2 np2 => ?_⟩
    have s2 := same_new np2 (.tup xs)
    refine ⟨p2, rfl, ⟨xs, .inl (.inl upd_same)⟩, fun d nd' => ?_⟩
    have s12 := s1.trans s2
    refine walk_t (xs := xs) (fun i H2 => ∃ acc, Same (upd (upd H p1 (.tup [.str g])) p2 (.tup xs)) H2 ∧ H2 d = some (.lst acc) ∧ TmAll H2 acc (Ter.binds s' (as.take i)) ∧ acc.length ≤ i) ⟨[], same_new nd' _, upd_same, .nil, Nat.le_refl _⟩ (fun i H2 _ h => ?_) (fun i x H2 hx h => ?_) (fun H2 h => ?_)
    · obtain ⟨acc, sm, _⟩ := h
      exact .inl (.inl (sm _ _ upd_same))
    · obtain ⟨acc, sm, ed, ha, la2⟩ := h
      obtain ⟨t1, et, hx1⟩ := hs.get hx
      have sa := s12.trans sm
      have n1 := nest_le_of et
      have m1 := size_le_of et
      refine ⟨rfl, ?_⟩
      refine ⟨_, rfl, _, rfl, a, x, t1, kvs, s', rfl, sa _ _ ea, hS.mono sa.tups, TmAt.mono sa.tups _ _ hx1, by omega, by omega, fun v' H3 s3 hv' => ?_⟩
      have ed3 := s3 _ _ ed
      have b4 : But d H3 (upd H3 d (.lst (acc ++ [v']))) := But.upd
      have m4 := b4.tups ed3
      have li : i < as.length := (List.getElem?_eq_some_iff.mp et).1
      have etk : as.take (i + 1) = as.take i ++ [t1] := by rw [List.take_add_one, et]; rfl
      refine ⟨acc, ed3, small6' (by omega), acc ++ [v'], But.same nd' (sm.trans s3) b4, upd_same, ?_, by rw [List.length_append, List.length_singleton]; omega⟩
      rw [etk, binds_app]
      exact (TmAll.mono (s3.tups.trans m4) _ _ ha).app (.cons (TmAt.mono m4 _ _ hv') .nil)
    · obtain ⟨acc, sm, ed, ha, la2⟩ := h
      rw [ls, List.take_length] at ha
      have lx := ha.len
      rw [binds_len] at lx
      refine ⟨d, acc, rfl, .inl ⟨.inl (.inl ed), fun p3 np3 => ?_⟩⟩
      have s3 := same_new np3 (.tup acc)
      have sa := s12.trans (sm.trans s3)
      refine ⟨p1, p3, [.str g], acc, rfl, rfl, .inl (.inl (s3 _ _ (sm _ _ (s2 _ _ upd_same)))), .inl (.inl upd_same), by simp, small6 (by show 1 + acc.length ≤ _; omega), fun z => ?_, fun _ p4 np4 => ?_⟩
      · subst z
        have t0 : as = [] := List.length_eq_zero_iff.mp lx.symm
        subst t0
        exact q (.ref p1) _ sa (.ap (s3 _ _ (sm _ _ (s2 _ _ upd_same))) .nil)
      · have s4 := same_new np4 (.tup ([.str g] ++ acc))
        exact q (.ref p4) _ (sa.trans s4) (.ap upd_same (TmAll.mono (s3.trans s4).tups _ _ ha))
theorem ok_law_apply {f : Addr} {fd : FuncData} (D : Df K mg "_law_apply" s__law_apply ["sub", "term"] f fd) (m_isinstance : mg "isinstance" = none) (m_tuple : mg "tuple" = none) : ∀ n : Nat, FnOk P w K mg base CX0 n f fd ["sub", "term"] (spApp n)
  | 0 => by
    have no : ∀ vs H Q E, ¬ spApp 0 vs H Q E := fun vs H Q E h => by
      obtain ⟨_, _, t, _, _, _, _, _, _, hk, _⟩ := h
      cases t with
      | var k => exact absurd hk (by show ¬ (1 ≤ 0); omega)
      | ap f as => exact absurd hk (by show ¬ (_ + 1 ≤ 0); omega)
    exact ⟨fun vs H Q E h => absurd h (no vs H Q E), fun A outer s H args us vs Q E _ _ _ _ h => absurd h (no vs H Q E)⟩
  | n + 1 => ok_law_apply1 D m_isinstance m_tuple (ok_law_apply D m_isinstance m_tuple n)
end

section
variable {P : Program} {w : World} {K : PySem.W.Frag} {mg : Str → Option Value} {base : Heap}
/-! ### arguments_of -/
def spArgsOf : Sp := fun vs H Q _ => ∃ (a : Addr) (xs : List V) (ts : List Ter), vs = [.ref a] ∧ H a = some (.lst xs) ∧ TmAll H xs ts ∧ Ter.sizes ts ≤ 1000000 ∧
  ∀ (p : Addr) (ys : List V) (H' : Hp), Same H H' → H p = none → H' p = some (.lst ys) → TmAll H' ys (argsOf ts) → Q (.ref p) H'
theorem sc_arguments_of : FnScope ["terms", "term", "argument"] ["terms"] (defScope s_arguments_of) := ⟨rfl, rfl, rfl, by decide +kernel, rfl, by decide +kernel, by decide +kernel⟩
theorem ok_arguments_of {f fV : Addr} {fd fdV : FuncData} (D : Df K mg "arguments_of" s_arguments_of ["terms"] f fd) (DV : Df K mg "is_variable" s_is_variable ["term"] fV fdV) (G : FnOk P w K mg base CX0 1 fV fdV ["term"] spIsVar) : FnOk P w K mg base CX0 2 f fd ["terms"] spArgsOf := by
  refine D.F.ok sc_arguments_of (fun vs H Q E h => ?_) (fun cdv A outer s H vs Q E hr h => ?_)
  · obtain ⟨a, xs, ts, rfl, _⟩ := h; rfl
  obtain ⟨a, xs, ts, rfl, ha, ht, hz, q⟩ := h
  refine ⟨_, pss_one (ps_ret (pe_lc2 (own := [("term", 1), ("argument", 2)]) (vs1 := [2]) (g := gName 1) (tt := tNot (tB (tCall spIsVar [] E0 (tCons (tVar 1) tNil)))) (wi1 := iTup K (tSl (rSl1 K) (tVar 1) (tPart (tC (.int 1))) tNoPart)) (g1 := gName 2) (tt1 := tYes) (te := tVar 2) rfl sc_arguments_of.nd (pi_list (pv 0)) (blkOk_by (N := ["terms", "term", "argument"]) (sc := defScope s_arguments_of) (by decide +kernel)) (by decide)
    (fun _ _ _ _ _ => pg_name (i := 1) sc_arguments_of.nd rfl (Or.inl rfl))
    (fun _ _ _ _ _ => pts_one (pt_not (pt_val (pe_call G hr (by rfl) DV.m DV.F.kp DV.b .nil pass0 (pa_cons (pv 1) pa_nil)))))
    (fun _ _ _ _ _ => pi_tup (pe_slice sl_1 (pv 1) (po_some pe_int) po_none))
    (fun _ _ _ _ _ => pg_name (i := 2) sc_arguments_of.nd rfl (Or.inl rfl))
    (fun _ _ _ _ _ => pts_nil) (fun _ _ _ _ _ => pv 2))), ?_⟩
  have lt := ht.len
  have sz := sizes_argsOf ts
  refine ⟨.ref a, rfl, a, rfl, ⟨_, .inl (.inl ha)⟩, fun d nd => ?_⟩
  refine walk_l (xs := xs) (fun i H2 => ∃ ys, Same H H2 ∧ H2 d = some (.lst ys) ∧ TmAll H2 ys (argsOf (ts.take i))) ⟨[], same_new nd _, upd_same, .nil⟩ (fun i H2 _ h => ?_) (fun i x H2 hx h => ?_) (fun H2 h => ?_)
  · obtain ⟨ys, sm, _, _⟩ := h
    exact .inl (.inl (sm _ _ ha))
  · obtain ⟨ys, sm, ed, hy⟩ := h
    obtain ⟨t, et, htx⟩ := ht.get hx
    have hu := TmAt.mono sm.tups _ _ htx
    have ea := argsOf_take et
    have hcut : Ter.sizes (argsOf (ts.take (i + 1))) ≤ Ter.sizes (argsOf ts) := by
      have e : argsOf ts = argsOf (ts.take (i + 1)) ++ argsOf (ts.drop (i + 1)) := by rw [← argsOf_app, List.take_append_drop]
      rw [e, Ter.sizes_app]; omega
    refine ⟨rfl, ?_⟩
    refine ⟨x, rfl, x, t, rfl, hu, _, rfl, ?_⟩
    cases hu with
    | int k => exact iteF ⟨ys, sm, ed, by rw [ea]; exact List.append_nil _ ▸ hy⟩
    | str k => exact iteF ⟨ys, sm, ed, by rw [ea]; exact List.append_nil _ ▸ hy⟩
    | @ap p g zs as e hs =>
      refine iteT ?_
      refine ⟨.ref p, rfl, 1, rfl, p, .str g, zs, rfl, rfl, rfl, .inl (.inl e), fun r nr => ?_⟩
      have s2 := same_new nr (.tup zs)
      have e' : (Ter.ap g as).args = as := rfl
      rw [e'] at ea
      refine ⟨r, rfl, ⟨zs, .inl (.inl upd_same)⟩, walk_t (xs := zs) (fun j H3 => ∃ ws, Same H H3 ∧ Same (upd H2 r (.tup zs)) (upd H3 d (.lst ys)) ∧ H3 d = some (.lst ws) ∧ TmAll H3 ws (argsOf (ts.take i) ++ as.take j)) ⟨ys, sm.trans s2, ?_, s2 _ _ ed, ?_⟩ (fun j H3 _ h => ?_) (fun j y H3 hy3 h => ?_) (fun H3 h => ?_)⟩
      · exact fun b o q => by
          by_cases hb : b = d
          · subst hb; rw [s2 _ _ ed] at q; rw [upd_same]; exact q
          · rw [upd_ne hb]; exact q
      · rw [List.take_zero, List.append_nil]
        exact TmAll.mono s2.tups _ _ hy
      · obtain ⟨ws, _, k3, _, _⟩ := h
        have q := k3 r _ upd_same
        rw [upd_ne (ne_of_none ed nr).symm] at q
        exact .inl (.inl q)
      · obtain ⟨ws, sm3, k3, ed3, hw⟩ := h
        obtain ⟨t1, et1, hy1⟩ := hs.get hy3
        have m3 : Tups H2 H3 := fun b o q => by
          have q2 := k3 b _ (s2 b _ q)
          rw [upd_ne (ne_of q ed (by intro z; cases z))] at q2
          exact q2
        have hy2 := TmAt.mono m3 _ _ hy1
        have lw := hw.len
        have b4 : But d H3 (upd H3 d (.lst (ws ++ [y]))) := But.upd
        have t4 := b4.tups ed3
        have ll : ws.length < sizeLine := by
          have z1 := Ter.sizes_len (argsOf (ts.take i) ++ as.take j)
          have z2 : Ter.sizes (argsOf (ts.take i) ++ as.take j) ≤ Ter.sizes (argsOf (ts.take i) ++ as) := by
            rw [Ter.sizes_app, Ter.sizes_app]
            have z3 : Ter.sizes as = Ter.sizes (as.take j) + Ter.sizes (as.drop j) := by rw [← Ter.sizes_app, List.take_append_drop]
            omega
          rw [← ea] at z2
          exact small6' (by omega)
        refine ⟨rfl, ?_⟩
        refine ⟨y, rfl, ws, ed3, ll, ws ++ [y], But.same nd sm3 b4, fun b o q => ?_, upd_same, ?_⟩
        · have q2 := k3 b o q
          rw [upd_upd]
          exact q2
        · rw [List.take_add_one, et1, ← List.append_assoc]
          exact (TmAll.mono t4 _ _ hw).app (.cons (TmAt.mono t4 _ _ hy2) .nil)
      · obtain ⟨ws, sm3, k3, ed3, hw⟩ := h
        have lz := hs.len
        rw [lz, List.take_length, ← ea] at hw
        exact ⟨ws, sm3, ed3, hw⟩
  · obtain ⟨ys, sm, ed, hy⟩ := h
    rw [lt, List.take_length] at hy
    exact q d ys H2 sm nd ed hy
end

section
variable {P : Program} {w : World} {K : PySem.W.Frag} {mg : Str → Option Value} {base : Heap}
/-! ### fits -/
def spFits : Sp := fun vs H Q _ => ∃ (v : V) (t : Ter), vs = [v] ∧ TmAt H v t ∧ t.size ≤ 1000000 ∧ ∀ H', Same H H' → Q (.bl t.fits) H'
theorem sc_fits : FnScope ["term", "count", "depth", "level"] ["term"] (defScope s_fits) := ⟨rfl, rfl, rfl, by decide +kernel, rfl, by decide +kernel, by decide +kernel⟩
theorem ok_fits {f fA : Addr} {fd fdA : FuncData} {tL tD : Tok} (D : Df K mg "fits" s_fits ["term"] f fd) (DA : Df K mg "arguments_of" s_arguments_of ["terms"] fA fdA) (GA : FnOk P w K mg base CX0 2 fA fdA ["terms"] spArgsOf)
    (ml : mg "len" = none) (gL : mg "LARGEST_SIZE" = some (.int 1000 tL)) (gD : mg "DEEPEST_NESTING" = some (.int 100 tD)) : FnOk P w K mg base CX0 3 f fd ["term"] spFits := by
  refine D.F.ok sc_fits (fun vs H Q E h => ?_) (fun cdv A outer s H vs Q E hr h => ?_)
  · obtain ⟨v, t, rfl, _⟩ := h; rfl
  obtain ⟨v, t, rfl, ht, hz, q⟩ := h
  have nd := sc_fits.nd
  refine ⟨_, pss_cons (ps_set (i := 1) nd rfl (.inl rfl) pe_int) (pss_cons (ps_set (i := 2) nd rfl (.inl rfl) pe_int) (pss_cons (ps_set (i := 3) nd rfl (.inl rfl) (pe_lst (pa_cons (pv 0) pa_nil)))
    (pss_cons (ps_while PassesOwn.never (pt_truth (pv 3) (by intro _; rfl))
      (pss_cons (ps_aug (i := 1) nd rfl (.inl rfl) (pe_callB call_len_seq (by rfl) ml PySem.boot_len (pa_cons (pv 3) pa_nil)) ip_add)
      (pss_cons (ps_aug (i := 2) nd rfl (.inl rfl) pe_int ip_add)
      (pss_cons (ps_if (PW.pt (pw_or (pt_cmpR op_gt (pv 1) (pe_glob (v := .int 1000) (by rfl) gL ⟨_, rfl⟩) (nomark _)) (pw_or1 (pt_cmpR op_gt (pv 2) (pe_glob (v := .int 100) (by rfl) gD ⟨_, rfl⟩) (nomark _))))) (pss_one (ps_ret pe_bl)) pss_nil)
      (pss_one (ps_set (i := 3) nd rfl (.inl rfl) (pe_call GA hr (by rfl) DA.m DA.F.kp DA.b .nil pass0 (pa_cons (pv 3) pa_nil))))))))
    (pss_one (ps_ret pe_bl))))), ?_⟩
  refine ⟨v, rfl, by show 1 ≤ sizeLine; decide, fun l nl => ?_⟩
  have s1 := same_new nl (.lst [v])
  refine ⟨fun m σ H' => ∃ (c d : Int) (l : Addr) (vs : List V) (ts : List Ter), σ = [some v, some (.int c), some (.int d), some (.ref l)] ∧ Same H H' ∧ H' l = some (.lst vs) ∧ TmAll H' vs ts ∧ c + (Ter.sizes ts : Nat) = (t.size : Nat) ∧ d + (Ter.nests ts : Nat) = (t.nest : Nat) ∧ 0 ≤ c ∧ c ≤ 1000 ∧ d ≤ 100 ∧ m = Ter.nests ts,
    ⟨_, 0, 0, l, [v], [t], rfl, s1, upd_same, .cons (TmAt.mono s1.tups _ _ ht) .nil, ?_, ?_, by decide, by decide, by decide, rfl⟩, fun m σ H' hW => ?_⟩
  · show (0 : Int) + ((t.size + 0 : Nat) : Int) = (t.size : Nat)
    omega
  · show (0 : Int) + ((max t.nest 0 : Nat) : Int) = (t.nest : Nat)
    omega
  obtain ⟨c, d, l2, vs, ts, rfl, sm, el, ha, ec, ed, c0, c1, d1, rfl⟩ := hW
  have lv := ha.len
  refine ⟨.ref l2, rfl, _, tru_l el, ?_⟩
  refine ite2 (fun cc => ?_) (fun cc => ?_)
  · have hv : ts ≠ [] := fun z => by
      subst z
      cases ha
      exact absurd cc (by decide)
    have en2 := nests_argsOf ts hv
    have ez2 := sizes_argsOf ts
    refine ⟨fun σ' H2 => ∃ (c d : Int) (l : Addr) (vs : List V) (ts' : List Ter), σ' = [some v, some (.int c), some (.int d), some (.ref l)] ∧ Same H H2 ∧ H2 l = some (.lst vs) ∧ TmAll H2 vs ts' ∧ c + (Ter.sizes ts' : Nat) = (t.size : Nat) ∧ d + (Ter.nests ts' : Nat) = (t.nest : Nat) ∧ 0 ≤ c ∧ c ≤ 1000 ∧ d ≤ 100 ∧ Ter.nests ts' < Ter.nests ts,
      fun σ' H2 hN => ?_, ?_⟩
    · obtain ⟨a1, a2, a3, a4, a5, e1, e2, e3, e4, e5, e6, e7, e8, e9, e10⟩ := hN
      exact ⟨_, e10, a1, a2, a3, a4, a5, e1, e2, e3, e4, e5, e6, e7, e8, e9, rfl⟩
    refine ⟨.int c, rfl, _, rfl, l2, vs, rfl, .inl (.inl (.inl el)), c, _, rfl, rfl, ?_⟩
    refine ⟨.int d, rfl, d, 1, rfl, rfl, ?_⟩
    have bad : (1000 : Int) < c + (vs.length : Nat) ∨ (100 : Int) < d + 1 → Q (.bl false) H' := fun z => by
      have : t.fits = false := by
        unfold Ter.fits
        rcases z with z | z
        · have : ¬ t.size ≤ 1000 := by omega
          rw [decide_eq_false this]; rfl
        · have : ¬ t.nest ≤ 100 := by omega
          rw [decide_eq_false this, Bool.and_false]
      rw [← this]
      exact q H' sm
    refine ⟨_, rfl, _, _, rfl, rfl, _, rfl, ite2 (fun z => bad (.inl (of_decide_eq_true z))) (fun z1 => ?_)⟩
    refine ⟨_, rfl, _, _, rfl, rfl, _, rfl, ite2 (fun z => bad (.inr (of_decide_eq_true z))) (fun z2 => ?_)⟩
    have z1 : ¬ (1000 : Int) < c + (vs.length : Nat) := fun z => z1 (decide_eq_true z)
    have z2 : ¬ (100 : Int) < d + 1 := fun z => z2 (decide_eq_true z)
    refine ⟨.ref l2, rfl, l2, vs, ts, rfl, el, ha, by omega, fun p ys H2 sm2 np ep hy => ?_⟩
    exact ⟨c + (vs.length : Nat), d + 1, p, ys, argsOf ts, rfl, sm.trans sm2, ep, hy, by omega, by omega, by omega, by omega, by omega, by omega⟩
  · have hv : vs = [] := by
      cases vs with
      | nil => rfl
      | cons x r => exact absurd rfl cc
    subst hv
    cases ha
    have ec : c + (0 : Nat) = (t.size : Nat) := ec
    have ed : d + (0 : Nat) = (t.nest : Nat) := ed
    have e : t.fits = true := by
      unfold Ter.fits
      rw [decide_eq_true (show t.size ≤ 1000 by omega), decide_eq_true (show t.nest ≤ 100 by omega)]
      rfl
    show Q (.bl true) H'
    rw [← e]
    exact q H' sm
end

section
variable {P : Program} {w : World} {K : PySem.W.Frag} {mg : Str → Option Value} {base : Heap}
/-! ### replace_variables, apply, apply_clause -/
def spRVF (n : Nat) : Sp := fun vs H Q _ => ∃ (a : Addr) (v : V) (t : Ter) (kvs : List (Key × V)) (s : Key → Ter), vs = [v, .ref a] ∧ H a = some (.dK kvs) ∧ SubF H kvs s ∧ TmAt H v t ∧ t.nest ≤ n ∧ t.size ≤ 100000 ∧ ∀ (v' : V) (H' : Hp), Same H H' → TmAt H' v' (t.bind s) → Q v' H'
theorem sc_rv : FnScope ["term", "new", "argument"] ["term", "new"] (defScope s_replace_variables) := ⟨rfl, rfl, rfl, by decide +kernel, rfl, by decide +kernel, by decide +kernel⟩
theorem ok_rv1 {f fV : Addr} {fd dV : FuncData} (D : Df K mg "replace_variables" s_replace_variables ["term", "new"] f fd) (DV : Df K mg "is_variable" s_is_variable ["term"] fV dV) (GV : FnOk P w K mg base CX0 1 fV dV ["term"] spIsVar) (m_tuple : mg "tuple" = none) {n : Nat} (G : FnOk P w K mg base CX0 (n + 1) f fd ["term", "new"] (spRVF n)) : FnOk P w K mg base CX0 (n + 1 + 1) f fd ["term", "new"] (spRVF (n + 1)) := by
  refine D.F.ok sc_rv (fun vs H Q E h => ?_) (fun cdv A outer s H vs Q E hr h => ?_)
  · obtain ⟨a, v, t, kvs, s, rfl, _⟩ := h; rfl
  obtain ⟨a, v, t, kvs, s', rfl, ea, hS, ht, hn, hz, q⟩ := h
  have nd := sc_rv.nd
  have r1 : Room 1 _ := hr.mono (by omega)
  refine ⟨_, (pss_cons (ps_if (pt_val (pe_call GV r1 (by rfl) DV.m DV.F.kp DV.b .nil pass0 (pa_cons (pv 0) pa_nil))) (pss_one (ps_ret (pe_dget2 (hu_of hr) (pv 1) (pv 0) (pv 0) ⟨rfl, rfl, rfl, rfl⟩))) pss_nil) (pss_one (ps_ret (pe_op op_catT (pe_tup (pa_cons (pe_ix ix_tup (pv 0) pe_int (fun _ _ => rfl)) pa_nil)) (pe_callTy call_tuple_of (by rfl) m_tuple (by decide +kernel) (pa_cons (pe_lc (own := [("argument", 2)]) (g := gName 2) (tt := tYes) (te := tCall (spRVF n) [] E0 (tCons (tVar 2) (tCons (tVar 1) tNil))) rfl nd (pi_tup (pe_slice sl_1 (pv 0) (po_some pe_int) po_none)) (blkOk_by (N := ["term", "new", "argument"]) (sc := defScope s_replace_variables) (by decide +kernel)) (fun _ _ _ _ _ => pg_name (i := 2) nd rfl (Or.inl rfl)) (fun _ _ _ _ _ => pts_nil) (fun _ _ _ _ _ => pe_call G hr (by rfl) D.m D.F.kp D.b .nil pass0 (pa_cons (pv 2) (pa_cons (pv 1) pa_nil)))) pa_nil)))))), ?_⟩
  refine ⟨v, rfl, v, t, rfl, ht, _, rfl, ?_⟩
  cases ht with
  | int i =>
    refine iteT ⟨_, rfl, a, rfl, .inl ⟨_, .inl ea⟩, _, rfl, _, rfl, _, DGet.k (k := .inl i) ea, ?_⟩
    have h := hS (.inl i)
    cases z : valV kvs (.inl i) with
    | none =>
      rw [z] at h
      exact q _ H (Same.refl _) (by show TmAt H (.int i) (s' (.inl i)); rw [h]; exact .int i)
    | some u =>
      rw [z] at h
      exact q u H (Same.refl _) h
  | str x =>
    refine iteT ⟨_, rfl, a, rfl, .inl ⟨_, .inl ea⟩, _, rfl, _, rfl, _, DGet.k (k := .inr x) ea, ?_⟩
    have h := hS (.inr x)
    cases z : valV kvs (.inr x) with
    | none =>
      rw [z] at h
      exact q _ H (Same.refl _) (by show TmAt H (.str x) (s' (.inr x)); rw [h]; exact .str x)
    | some u =>
      rw [z] at h
      exact q u H (Same.refl _) h
  | @ap p g xs as e hs =>
    refine iteF ?_
    have ls := hs.len
    have hn : Ter.nests as + 1 ≤ n + 1 := hn
    have hz : Ter.sizes as + 1 ≤ 100000 := hz
    have la := Ter.sizes_len as
    refine ⟨_, rfl, p, _, 0, .str g, rfl, rfl, .inl (.inl e), head_at, by show 1 ≤ sizeLine; decide, fun p1 np1 => ?_⟩
    have s1 := same_new np1 (.tup [.str g])
    refine ⟨.ref p, rfl, 1, rfl, p, .str g, xs, rfl, rfl, rfl, .inl (.inl (s1 _ _ e)), fun p2 np2 => ?_⟩
    have s2 := same_new np2 (.tup xs)
    refine ⟨p2, rfl, ⟨xs, .inl (.inl upd_same)⟩, fun d nd' => ?_⟩
    have s12 := s1.trans s2
    refine walk_t (xs := xs) (fun i H2 => ∃ acc, Same (upd (upd H p1 (.tup [.str g])) p2 (.tup xs)) H2 ∧ H2 d = some (.lst acc) ∧ TmAll H2 acc (Ter.binds s' (as.take i)) ∧ acc.length ≤ i) ⟨[], same_new nd' _, upd_same, .nil, Nat.le_refl _⟩ (fun i H2 _ h => ?_) (fun i x H2 hx h => ?_) (fun H2 h => ?_)
    · obtain ⟨acc, sm, _⟩ := h
      exact .inl (.inl (sm _ _ upd_same))
    · obtain ⟨acc, sm, ed, ha, la2⟩ := h
      obtain ⟨t1, et, hx1⟩ := hs.get hx
      have sa := s12.trans sm
      have n1 := nest_le_of et
      have m1 := size_le_of et
      refine ⟨rfl, ?_⟩
      refine ⟨_, rfl, _, rfl, a, x, t1, kvs, s', rfl, sa _ _ ea, hS.mono sa.tups, TmAt.mono sa.tups _ _ hx1, by omega, by omega, fun v' H3 s3 hv' => ?_⟩
      have ed3 := s3 _ _ ed
      have b4 : But d H3 (upd H3 d (.lst (acc ++ [v']))) := But.upd
      have m4 := b4.tups ed3
      have li : i < as.length := (List.getElem?_eq_some_iff.mp et).1
      have etk : as.take (i + 1) = as.take i ++ [t1] := by rw [List.take_add_one, et]; rfl
      refine ⟨acc, ed3, small6' (by omega), acc ++ [v'], But.same nd' (sm.trans s3) b4, upd_same, ?_, by rw [List.length_append, List.length_singleton]; omega⟩
      rw [etk, binds_app]
      exact (TmAll.mono (s3.tups.trans m4) _ _ ha).app (.cons (TmAt.mono m4 _ _ hv') .nil)
    · obtain ⟨acc, sm, ed, ha, la2⟩ := h
      rw [ls, List.take_length] at ha
      have lx := ha.len
      rw [binds_len] at lx
      refine ⟨d, acc, rfl, .inl ⟨.inl (.inl ed), fun p3 np3 => ?_⟩⟩
      have s3 := same_new np3 (.tup acc)
      have sa := s12.trans (sm.trans s3)
      refine ⟨p1, p3, [.str g], acc, rfl, rfl, .inl (.inl (s3 _ _ (sm _ _ (s2 _ _ upd_same)))), .inl (.inl upd_same), by simp, small6 (by show 1 + acc.length ≤ _; omega), fun z => ?_, fun _ p4 np4 => ?_⟩
      · subst z
        have t0 : as = [] := List.length_eq_zero_iff.mp lx.symm
        subst t0
        exact q (.ref p1) _ sa (.ap (s3 _ _ (sm _ _ (s2 _ _ upd_same))) .nil)
      · have s4 := same_new np4 (.tup ([.str g] ++ acc))
        exact q (.ref p4) _ (sa.trans s4) (.ap upd_same (TmAll.mono (s3.trans s4).tups _ _ ha))
theorem ok_rv {f fV : Addr} {fd dV : FuncData} (D : Df K mg "replace_variables" s_replace_variables ["term", "new"] f fd) (DV : Df K mg "is_variable" s_is_variable ["term"] fV dV) (GV : FnOk P w K mg base CX0 1 fV dV ["term"] spIsVar) (m_tuple : mg "tuple" = none) : ∀ n : Nat, FnOk P w K mg base CX0 (n + 1) f fd ["term", "new"] (spRVF n)
  | 0 => by
    have no : ∀ vs H Q E, ¬ spRVF 0 vs H Q E := fun vs H Q E h => by
      obtain ⟨_, _, t, _, _, _, _, _, _, hk, _⟩ := h
      cases t with
      | var k => exact absurd hk (by show ¬ (1 ≤ 0); omega)
      | ap f as => exact absurd hk (by show ¬ (_ + 1 ≤ 0); omega)
    exact ⟨fun vs H Q E h => absurd h (no vs H Q E), fun A outer s H args us vs Q E _ _ _ _ h => absurd h (no vs H Q E)⟩
  | n + 1 => ok_rv1 D DV GV m_tuple (ok_rv D DV GV m_tuple n)
def spAply : Sp := fun vs H Q _ => ∃ (a : Addr) (v : V) (t : Ter) (kvs : List (Key × V)) (s : Key → Ter), vs = [.ref a, v] ∧ H a = some (.dK kvs) ∧ SubF H kvs s ∧ TmAt H v t ∧ t.nest ≤ 8 ∧ t.size ≤ 100000 ∧ (t.bind s).size ≤ 1000 ∧ (t.bind s).nest ≤ 100 ∧ ∀ (v' : V) (H' : Hp), Same H H' → TmAt H' v' (t.bind s) → Q v' H'
theorem sc_apply : FnScope ["substitution", "term", "result"] ["substitution", "term"] (defScope s_apply) := ⟨rfl, rfl, rfl, by decide +kernel, rfl, by decide +kernel, by decide +kernel⟩
theorem ok_apply {f fR fF : Addr} {fd dR dF : FuncData} (D : Df K mg "apply" s_apply ["substitution", "term"] f fd) (DR : Df K mg "replace_variables" s_replace_variables ["term", "new"] fR dR) (GR : FnOk P w K mg base CX0 9 fR dR ["term", "new"] (spRVF 8))
    (DF : Df K mg "fits" s_fits ["term"] fF dF) (GF : FnOk P w K mg base CX0 3 fF dF ["term"] spFits) : FnOk P w K mg base CX0 10 f fd ["substitution", "term"] spAply := by
  refine D.F.ok sc_apply (fun vs H Q E h => ?_) (fun cdv A outer s H vs Q E hr h => ?_)
  · obtain ⟨a, v, t, kvs, s, rfl, _⟩ := h; rfl
  obtain ⟨a, v, t, kvs, s', rfl, ea, hS, ht, hn, hz, bz, bn, q⟩ := h
  have nd := sc_apply.nd
  have r3 : Room 3 _ := hr.mono (by decide)
  refine ⟨_, (pss_cons (ps_set (i := 2) nd rfl (.inl rfl) (pe_call GR hr (by rfl) DR.m DR.F.kp DR.b .nil pass0 (pa_cons (pv 1) (pa_cons (pv 0) pa_nil))))
    (pss_cons (ps_if (pt_not (pt_val (pe_call GF r3 (by rfl) DF.m DF.F.kp DF.b .nil pass0 (pa_cons (pv 2) pa_nil))))
      (pss_one ps_no)
      pss_nil)
    (pss_one (ps_ret (pv 2))))), ?_⟩
  refine ⟨_, rfl, _, rfl, a, v, t, kvs, s', rfl, ea, hS, ht, hn, hz, fun v' H1 s1 hv' => ?_⟩
  refine ⟨v', rfl, v', _, rfl, hv', by omega, fun H2 s2 => ?_⟩
  have c : (t.bind s').fits = true := by
    unfold Ter.fits
    rw [decide_eq_true bz, decide_eq_true bn]; rfl
  rw [c]
  exact ⟨_, rfl, iteF ⟨_, rfl, q v' H2 (s1.trans s2) (TmAt.mono s2.tups _ _ hv')⟩⟩
end

end K76
namespace K76
open PySem PySem.Spec PyProof.Rows L2 Own HT
structure DkG (K : PySem.W.Frag) (mg : Str → Option Value) (x : Str) (st : Stmt) (ps : List Str) (n : Nat) (kn : Str) (dv : V) (f : Addr) (fd : FuncData) : Prop where
  F : Fun K x x st f fd
  b : ∃ ds, Vals [dv] ds ∧ Binds K fd ps ds
  kb : KBn K fd ps n [kn] (fun us ws => us ++ ws) (fun vs zs => vs ++ zs)
  m : mg x = some (.ref f)
section
variable {P : Program} {w : World} {K : PySem.W.Frag} {mg : Str → Option Value} {base : Heap}
/-! ### positions -/
def spPoss : Sp := fun vs H Q _ => ∃ (v : V) (t : Ter) (wv : Bool), vs = [v, .bl wv] ∧ TmAt H v t ∧ t.size ≤ 100000 ∧ t.nest ≤ 400 ∧ ∀ (p : Addr) (H' : Hp) (ws : List V), Same H H' → H p = none → H' p = some (.lst ws) → PosAll H' ws (posOf wv (t.walk [])) → Q (.ref p) H'
theorem sc_positions : FnScope ["term", "with_variables", "found", "waiting", "position", "part", "index"] ["term", "with_variables"] (defScope s_positions) := ⟨rfl, rfl, rfl, by decide +kernel, rfl, by decide +kernel, by decide +kernel⟩
/-- rows of a stack: short positions, and no more than the whole -/
def stkOk (t : Ter) (rs : List Own.Row) : Prop := ∀ x ∈ rs, x.1.length + x.2.nest ≤ t.nest
theorem kids_ok {t u : Ter} {p : List Int} {f : Str} {as : List Ter} (h : p.length + (Ter.ap f as).nest ≤ t.nest) : ∀ (i : Int) (bs : List Ter), (∀ b ∈ bs, b.nest ≤ Ter.nests as) → stkOk t (kids p i bs)
  | _, [], _, x, hx => by cases hx
  | i, b :: r, hb, x, hx => by
    have h : p.length + (Ter.nests as + 1) ≤ t.nest := h
    rcases List.mem_cons.mp hx with rfl | hx
    · have := hb b List.mem_cons_self
      show (p ++ [i]).length + b.nest ≤ t.nest
      rw [List.length_append, List.length_singleton]
      omega
    · exact kids_ok (u := u) (f := f) h (i + 1) r (fun c hc => hb c (List.mem_cons_of_mem _ hc)) x hx
theorem ok_positions {f fV : Addr} {fd fdV : FuncData} (D : DkG K mg "positions" s_positions ["term", "with_variables"] 1 "with_variables" (.bl true) f fd) (DV : Df K mg "is_variable" s_is_variable ["term"] fV fdV) (G : FnOk P w K mg base CX0 1 fV fdV ["term"] spIsVar) (ml : mg "len" = none) (mr : mg "range" = none) : FnOk P w K mg base CX0 2 f fd ["term", "with_variables"] spPoss := by
  refine D.F.ok sc_positions (fun vs H Q E h => ?_) (fun cdv A outer s H vs Q E hr h => ?_)
  · obtain ⟨v, t, wv, rfl, _⟩ := h; rfl
  obtain ⟨v, t, wv, rfl, ht, hz, hne, q⟩ := h
  have nd := sc_positions.nd
  refine ⟨_, pss_cons (ps_set (i := 2) nd rfl (.inl rfl) (pe_lst pa_nil)) (pss_cons (ps_set (i := 3) nd rfl (.inl rfl) (pe_lst (pa_cons (pe_tup (pa_cons (pe_tup pa_nil) (pa_cons (pv 0) pa_nil))) pa_nil)))
    (pss_cons (ps_while PassesOwn.never (pt_truth (pv 3) (by intro _; rfl))
      (pss_cons (ps_asg (pe_bm0 PySem.F.plainAttrs_list PySem.F.slot_list_pop PySem.F.type_list_pop mt_popL (pv 3)) (pg_tup rfl (pgs_cons (pg_name (i := 4) nd rfl (.inl rfl)) (pgs_cons (pg_name (i := 5) nd rfl (.inl rfl)) pgs_nil))))
      (pss_one (ps_if (pt_not (pt_val (pe_call G hr (by rfl) DV.m DV.F.kp DV.b .nil pass0 (pa_cons (pv 5) pa_nil))))
        (pss_cons (ps_expr (pe_bm PySem.F.plainAttrs_list PySem.F.slot_list_append PySem.F.type_list_append mt_append (pv 2) (pa_cons (pv 4) pa_nil)))
        (pss_one (ps_for PassesOwn.never rfl (pi_range3 (by rfl) mr (pa_cons (pe_op op_sub (pe_callB call_len_seq (by rfl) ml PySem.boot_len (pa_cons (pv 5) pa_nil)) pe_int) (pa_cons pe_int (pa_cons (pe_un un_neg pe_int) pa_nil)))) (pg_name (i := 6) nd rfl (.inl rfl))
          (pss_one (ps_expr (pe_bm PySem.F.plainAttrs_list PySem.F.slot_list_append PySem.F.type_list_append mt_append (pv 3) (pa_cons (pe_tup (pa_cons (pe_op op_catA (pv 4) (pe_tup (pa_cons (pv 6) pa_nil))) (pa_cons (pe_ix ix_tup (pv 5) (pv 6) (fun _ _ => rfl)) pa_nil))) pa_nil)))))))
        (pss_one (ps_if (pt_val (pv 1)) (pss_one (ps_expr (pe_bm PySem.F.plainAttrs_list PySem.F.slot_list_append PySem.F.type_list_append mt_append (pv 2) (pa_cons (pv 4) pa_nil)))) pss_nil))))))
    (pss_one (ps_ret (pv 2))))), ?_⟩
  refine ⟨Nat.zero_le _, fun d nd' => ?_⟩
  have s0 := same_new nd' (.lst [])
  refine ⟨Nat.zero_le _, fun b0 nb0 => ?_⟩
  have s1 := s0.trans (same_new nb0 (.tup []))
  refine ⟨v, rfl, by show 2 ≤ sizeLine; decide, fun r0 nr0 => ?_⟩
  have s2 := s1.trans (same_new nr0 (.tup [.ref b0, v]))
  refine ⟨by show 1 ≤ sizeLine; decide, fun l nl => ?_⟩
  have s3 := s2.trans (same_new nl (.lst [.ref r0]))
  have ed0 : upd (upd (upd (upd H d (.lst [])) b0 (.tup [])) r0 (.tup [.ref b0, v])) l (.lst [.ref r0]) d = some (.lst []) := (same_new nl _) _ _ ((same_new nr0 _) _ _ ((same_new nb0 _) _ _ upd_same))
  have eb0 : upd (upd (upd (upd H d (.lst [])) b0 (.tup [])) r0 (.tup [.ref b0, v])) l (.lst [.ref r0]) b0 = some (.tup []) := (same_new nl _) _ _ ((same_new nr0 _) _ _ upd_same)
  have er0 : upd (upd (upd (upd H d (.lst [])) b0 (.tup [])) r0 (.tup [.ref b0, v])) l (.lst [.ref r0]) r0 = some (.tup [.ref b0, v]) := (same_new nl _) _ _ upd_same
  have nld : l ≠ d := (ne_of_none ((same_new nr0 _) _ _ ((same_new nb0 _) _ _ (show upd H d (.lst []) d = some _ from upd_same))) nl).symm
  have nlH : H l = none := s2.free nl
  refine ⟨fun m σ H' => ∃ (done : List (List Int)) (fs vs : List V) (rs : List Own.Row) (y4 y5 y6 : Option V), σ = [some v, some (.bl wv), some (.ref d), some (.ref l), y4, y5, y6] ∧ Same H H' ∧ H' d = some (.lst fs) ∧ PosAll H' fs done ∧ H' l = some (.lst vs) ∧ RowAll H' vs rs ∧ done ++ posOf wv (allWalk rs.reverse) = posOf wv (t.walk []) ∧ done.length + rsize rs ≤ t.size ∧ stkOk t rs ∧ m = rsize rs,
    ⟨_, [], [], [.ref r0], [([], t)], none, none, none, rfl, s3, ed0, .nil, upd_same, .cons (.mk (p := []) er0 eb0 (TmAt.mono s3.tups _ _ ht)) .nil, ?_, ?_, ?_, rfl⟩, fun m σ H' hW => ?_⟩
  · show posOf wv (t.walk [] ++ []) = _
    rw [List.append_nil]
  · show 0 + (t.size + 0) ≤ t.size
    omega
  · intro x hx
    rw [List.mem_singleton.mp hx]
    show 0 + t.nest ≤ t.nest
    omega
  obtain ⟨done, fs, vs, rs, y4, y5, y6, rfl, sm, ed, hF, el, hR, et, hl, hk, rfl⟩ := hW
  refine ⟨.ref l, rfl, _, tru_l el, ?_⟩
  refine ite2 (fun c => ?_) (fun c => ?_)
  · have hv : vs ≠ [] := fun z => by subst z; exact absurd c (by decide)
    obtain ⟨vs', u, rs', x, rfl, rfl, hR', hx⟩ := hR.last hv
    have lF := hF.len
    rw [rsize_app] at hl
    have ez : rsize [x] = x.2.size := by show x.2.size + 0 = x.2.size; omega
    rw [ez] at hl
    have su := x.2.size_pos
    rw [List.reverse_append] at et
    have et : done ++ posOf wv (x.2.walk x.1 ++ allWalk rs'.reverse) = posOf wv (t.walk []) := et
    have hkx := hk x (List.mem_append_right _ (List.mem_singleton.mpr rfl))
    have hk' : stkOk t rs' := fun y hy => hk y (List.mem_append_left _ hy)
    refine ⟨fun σ' H2 => ∃ (done : List (List Int)) (fs vs : List V) (rs : List Own.Row) (y4 y5 y6 : Option V), σ' = [some v, some (.bl wv), some (.ref d), some (.ref l), y4, y5, y6] ∧ Same H H2 ∧ H2 d = some (.lst fs) ∧ PosAll H2 fs done ∧ H2 l = some (.lst vs) ∧ RowAll H2 vs rs ∧ done ++ posOf wv (allWalk rs.reverse) = posOf wv (t.walk []) ∧ done.length + rsize rs ≤ t.size ∧ stkOk t rs ∧ rsize rs < rsize (rs' ++ [x]),
      fun σ' H2 hN => ?_, ?_⟩
    · obtain ⟨a1, a2, a3, a4, a5, a6, a7, e1, e2, e3, e4, e5, e6, e7, e8, e9, e10⟩ := hN
      exact ⟨_, e10, a1, a2, a3, a4, a5, a6, a7, e1, e2, e3, e4, e5, e6, e7, e8, e9, rfl⟩
    have b1 : But l H' (upd H' l (.lst vs')) := But.upd
    have t1 := b1.tups el
    have sm1 := But.same nlH sm b1
    have ed1 := b1 d _ nld.symm ed
    have hF1 := hF.mono t1
    have hR1 := hR'.mono t1
    have lR := hR1.len
    refine ⟨.ref l, rfl, tyl el, l, vs', u, rfl, rfl, el, ?_⟩
    cases hx with
    | @mk rr bb xv p w1 e1 e2 e3 =>
    refine ⟨rr, _, rfl, .inl (.inl (t1 _ _ e1)), rfl, _, _, rfl, _, _, rfl, rfl, ?_⟩
    have hw1 := TmAt.mono t1 _ _ e3
    have eb := t1 _ _ e2
    have lt : rsize rs' < rsize (rs' ++ [(p, w1)]) := by rw [rsize_app, ez]; omega
    refine ⟨xv, rfl, xv, w1, rfl, hw1, _, rfl, ?_⟩
    have b9 := But.upd (d := d) (H := upd H' l (.lst vs')) (o := .lst (fs ++ [.ref bb]))
    have t9 := b9.tups ed1
    have eb9 : PosAt (upd (upd H' l (.lst vs')) d (.lst (fs ++ [.ref bb]))) (.ref bb) p := .mk (t9 _ _ eb)
    have ndl : l ≠ d := nld
    have leaf : ∀ k : Key, w1 = .var k → (if wv = true then (∃ x, some (V.ref d) = some x ∧ True) else True) → posOf wv (w1.walk p) = if wv = true then [p] else [] := fun k e _ => by
      subst e
      cases wv <;> rfl
    cases hw1 with
    | int i =>
      refine iteF ⟨.bl wv, rfl, wv, rfl, ?_⟩
      cases wv with
      | true =>
        refine iteT ⟨.ref d, rfl, tyl ed1, .ref bb, rfl, d, fs, .ref bb, rfl, rfl, ed1, small6' (by omega), ?_⟩
        refine ⟨done ++ [p], _, vs', rs', _, _, y6, rfl, But.same nd' sm1 b9, upd_same, (hF1.mono t9).app (.cons eb9 .nil), b9 l _ ndl upd_same, hR1.mono t9, ?_, by rw [List.length_append, List.length_singleton]; omega, hk', lt⟩
        rw [← et, posOf_app, List.append_assoc]
        rfl
      | false =>
        refine iteF ⟨done, fs, vs', rs', _, _, y6, rfl, sm1, ed1, hF1, upd_same, hR1, ?_, by omega, hk', lt⟩
        rw [← et, posOf_app]
        rfl
    | str i =>
      refine iteF ⟨.bl wv, rfl, wv, rfl, ?_⟩
      cases wv with
      | true =>
        refine iteT ⟨.ref d, rfl, tyl ed1, .ref bb, rfl, d, fs, .ref bb, rfl, rfl, ed1, small6' (by omega), ?_⟩
        refine ⟨done ++ [p], _, vs', rs', _, _, y6, rfl, But.same nd' sm1 b9, upd_same, (hF1.mono t9).app (.cons eb9 .nil), b9 l _ ndl upd_same, hR1.mono t9, ?_, by rw [List.length_append, List.length_singleton]; omega, hk', lt⟩
        rw [← et, posOf_app, List.append_assoc]
        rfl
      | false =>
        refine iteF ⟨done, fs, vs', rs', _, _, y6, rfl, sm1, ed1, hF1, upd_same, hR1, ?_, by omega, hk', lt⟩
        rw [← et, posOf_app]
        rfl
    | @ap a g xs as e hs =>
      have ls := hs.len
      have la := Ter.sizes_len as
      have es : (Ter.ap g as).size = Ter.sizes as + 1 := rfl
      have len0 : ((V.str g :: xs).length : Int) = (as.length : Int) + 1 := by rw [List.length_cons, ls]; omega
      have hk0 : p.length + (Ter.nests as + 1) ≤ t.nest := hkx
      have hl : done.length + (rsize rs' + (Ter.sizes as + 1)) ≤ t.size := hl
      refine iteT ⟨.ref d, rfl, tyl ed1, .ref bb, rfl, d, fs, .ref bb, rfl, rfl, ed1, small6' (by omega), ?_⟩
      have el9 := b9 l _ ndl upd_same
      have sm9 := But.same nd' sm1 b9
      have hR9 := hR1.mono t9
      have hF9 := (hF1.mono t9).app (.cons eb9 .nil)
      have e9 := t9 _ _ e
      have hs9 := TmAll.mono t9 _ _ hs
      have eb99 := t9 _ _ eb
      have ed9 : upd (upd H' l (.lst vs')) d (.lst (fs ++ [.ref bb])) d = some (.lst (fs ++ [.ref bb])) := upd_same
      generalize upd (upd H' l (.lst vs')) d (.lst (fs ++ [.ref bb])) = H9 at *
      refine ⟨.ref a, rfl, a, _, rfl, .inr (.inl (.inl e9)), _, _, rfl, rfl, 1, rfl, _, _, _, as.length, rfl, ?_, ?_⟩
      · have := RgC.neg (i := (((V.str g :: xs).length : Nat) : Int) - 1) (j := 0) (by omega) (by omega) (by omega) (by omega)
        rw [show ((((V.str g :: xs).length : Nat) : Int) - 1 - 0).toNat = as.length by omega] at this
        exact this
      refine for_rangeC (fun j σ H2 => ∃ vs2 y6, σ = [some v, some (.bl wv), some (.ref d), some (.ref l), some (.ref bb), some (.ref a), y6] ∧ Same H H2 ∧ Tups H9 H2 ∧ H2 d = some (.lst (fs ++ [.ref bb])) ∧ H2 l = some (.lst vs2) ∧ RowAll H2 vs2 (rs' ++ ((kids p 1 as).drop (as.length - j)).reverse))
        ⟨vs', y6, rfl, sm9, Tups.refl _, ed9, el9, ?_⟩ (fun j σ H2 hj h => ?_) (fun σ H2 h => ?_)
      · rw [Nat.sub_zero, List.drop_eq_nil_of_le (by rw [kids_len]; exact Nat.le_refl _)]
        show RowAll H9 vs' (rs' ++ [])
        rw [List.append_nil]
        exact hR9
      · obtain ⟨vs2, y6', rfl, sm2, t92, ed2, el2, hR2⟩ := h
        obtain ⟨m, em⟩ : ∃ m, as.length - j = m + 1 := ⟨as.length - j - 1, by omega⟩
        have em2 : as.length - (j + 1) = m := by omega
        have ei : ((V.str g :: xs).length : Int) - 1 + (j : Int) * (-1) = ((m + 1 : Nat) : Int) := by omega
        have ex : xs[m]? = some (xs[m]'(by omega)) := List.getElem?_eq_getElem (by omega)
        obtain ⟨t3, et3, hx3⟩ := hs9.get ex
        have hi1 : (V.str g :: xs)[m + 1]? = some (xs[m]'(by omega)) := by rw [List.getElem?_cons_succ]; exact ex
        generalize xs[m]'(by omega) = x3 at ex hx3 hi1
        have l2 := hR2.len
        have l3 : (rs' ++ ((kids p 1 as).drop (as.length - j)).reverse).length ≤ 300000 := by
          have h1 : rs'.length ≤ rsize rs' := by
            have := Ter.sizes_len (rs'.map (·.2))
            rw [List.length_map] at this
            exact this
          rw [List.length_append, List.length_reverse, List.length_drop, kids_len]
          omega
        refine ⟨.ref l, rfl, tyl el2, .ref bb, rfl, _, rfl, by show 1 ≤ sizeLine; decide, fun q1 nq1 => ?_⟩
        have s4 := same_new nq1 (.tup [V.int (((V.str g :: xs).length : Int) - 1 + (j : Int) * (-1))])
        refine catA_ints (ns := p) (ms := [((V.str g :: xs).length : Int) - 1 + (j : Int) * (-1)]) (s4 _ _ (t92 _ _ eb99)) upd_same (by simp) (by simp only [List.length_singleton]; omega) fun q2 H4 s5 eq2 => ?_
        have s45 := s4.trans s5
        refine ⟨.ref a, rfl, _, rfl, a, _, _, x3, rfl, rfl, .inl (.inl (s45 _ _ (t92 _ _ e9))), at_of (j := m + 1) ei hi1, by show 2 ≤ sizeLine; decide, fun q3 nq3 => ?_⟩
        have s6 := same_new nq3 (.tup [.ref q2, x3])
        have s456 := s45.trans s6
        have el4 := s456 _ _ el2
        refine ⟨l, _, _, rfl, rfl, el4, small6' (by omega), ?_⟩
        have b7 := But.upd (d := l) (H := upd H4 q3 (.tup [.ref q2, x3])) (o := .lst (vs2 ++ [.ref q3]))
        have t7 := b7.tups el4
        refine ⟨_, _, rfl, But.same nlH (sm2.trans s456) b7, t92.trans (s456.tups.trans t7), b7 d _ nld.symm (s456 _ _ ed2), upd_same, ?_⟩
        have ek : (kids p 1 as)[m]? = some (p ++ [((V.str g :: xs).length : Int) - 1 + (j : Int) * (-1)], t3) := by
          rw [kids_get p as 1 m t3 et3, ei, show (1 : Int) + (m : Int) = ((m + 1 : Nat) : Int) by omega]
        have edr : (kids p 1 as).drop m = (p ++ [((V.str g :: xs).length : Int) - 1 + (j : Int) * (-1)], t3) :: (kids p 1 as).drop (m + 1) := by
          obtain ⟨h1, h2⟩ := List.getElem?_eq_some_iff.mp ek
          rw [List.drop_eq_getElem_cons h1, h2]
        rw [em2, edr, List.reverse_cons, ← List.append_assoc, ← em]
        refine (hR2.mono (s456.tups.trans t7)).app (.cons (.mk (t7 _ _ upd_same) (t7 _ _ (s6 _ _ eq2)) ?_) .nil)
        exact TmAt.mono ((t92.trans s456.tups).trans t7) _ _ hx3
      · obtain ⟨vs2, y6', rfl, sm2, t92, ed2, el2, hR2⟩ := h
        rw [Nat.sub_self, List.drop_zero] at hR2
        have nb : ∀ b ∈ as, b.nest ≤ Ter.nests as := fun b hb => by
          obtain ⟨i, hi⟩ := List.getElem?_of_mem hb
          exact nest_le_of hi
        refine ⟨done ++ [p], _, vs2, _, _, _, _, rfl, sm2, ed2, hF9.mono t92, el2, hR2, ?_, ?_, ?_, ?_⟩
        · rw [← et, List.reverse_append, List.reverse_reverse, walk_ap, List.append_assoc]
          have e1 : allWalk (kids p 1 as ++ rs'.reverse) = allWalk (kids p 1 as) ++ allWalk rs'.reverse := List.flatMap_append
          rw [e1]
          have e2 : posOf wv ((p, Ter.ap g as) :: allWalk (kids p 1 as) ++ allWalk rs'.reverse) = [p] ++ posOf wv (allWalk (kids p 1 as) ++ allWalk rs'.reverse) := by
            show posOf wv ([(p, Ter.ap g as)] ++ (allWalk (kids p 1 as) ++ allWalk rs'.reverse)) = _
            rw [posOf_app]
            have : posOf wv [(p, Ter.ap g as)] = [p] := by cases wv <;> rfl
            rw [this]
          rw [e2]
        · rw [rsize_app, rsize_rev, kids_size, List.length_append, List.length_singleton]
          omega
        · intro x hx
          rcases List.mem_append.mp hx with hx | hx
          · exact hk' x hx
          · exact kids_ok (u := t) (f := g) hkx 1 as nb x (List.mem_reverse.mp hx)
        · rw [rsize_app, rsize_rev, kids_size, rsize_app, ez]
          show _ < rsize rs' + (Ter.sizes as + 1)
          omega
  · have hv : vs = [] := by
      cases vs with
      | nil => rfl
      | cons x r => exact absurd rfl c
    subst hv
    cases hR
    have et : done ++ [] = posOf wv (t.walk []) := et
    rw [List.append_nil] at et
    exact ⟨.ref d, rfl, q d H' fs sm nd' ed (by rw [← et]; exact hF)⟩
end

section
variable {P : Program} {w : World} {K : PySem.W.Frag} {mg : Str → Option Value} {base : Heap}
/-! ### path_to, subterm_at, replace_at, where the position is there -/
def PathAt (H : Hp) (ws : List V) (t : Ter) (ns : List Int) : Prop := ws.length = ns.length + 1 ∧ ∀ i : Nat, i ≤ ns.length → ∃ x u, ws[i]? = some x ∧ TmAt H x u ∧ t.at (ns.take i) = some u
theorem PathAt.mono {H H' : Hp} (m : Tups H H') {ws : List V} {t : Ter} {ns : List Int} (h : PathAt H ws t ns) : PathAt H' ws t ns := ⟨h.1, fun i hi => by
  obtain ⟨x, u, e1, e2, e3⟩ := h.2 i hi
  exact ⟨x, u, e1, TmAt.mono m _ _ e2, e3⟩⟩
def spPath : Sp := fun vs H Q _ => ∃ (v : V) (b : Addr) (t : Ter) (ns : List Int), vs = [v, .ref b] ∧ TmAt H v t ∧ H b = some (.tup (ns.map V.int)) ∧ ns.length ≤ 1000 ∧ t.size ≤ 100000 ∧
  ∃ u, t.at ns = some u ∧ ∀ (p : Addr) (H' : Hp) (ws : List V), Same H H' → H p = none → H' p = some (.lst ws) → PathAt H' ws t ns → Q (.ref p) H'
theorem sc_path_to : FnScope ["term", "position", "path", "index", "part"] ["term", "position"] (defScope s_path_to) := ⟨rfl, rfl, rfl, by decide +kernel, rfl, by decide +kernel, by decide +kernel⟩
theorem ok_path_to {f fV : Addr} {fd fdV : FuncData} (D : Df K mg "path_to" s_path_to ["term", "position"] f fd) (DV : Df K mg "is_variable" s_is_variable ["term"] fV fdV) (GV : FnOk P w K mg base CX0 1 fV fdV ["term"] spIsVar) (ml : mg "len" = none) :
    FnOk P w K mg base CX0 2 f fd ["term", "position"] spPath := by
  refine D.F.ok sc_path_to (fun vs H Q E h => ?_) (fun cdv A outer s H vs Q E hr h => ?_)
  · obtain ⟨v, b, t, ns, rfl, _⟩ := h; rfl
  obtain ⟨v, b, t, ns, rfl, ht, hb, hp, hz, U, eU, q⟩ := h
  have nd := sc_path_to.nd
  have hr1 : Room 1 _ := hr.mono (by decide)
  refine ⟨_, pss_cons (ps_set (i := 2) nd rfl (.inl rfl) (pe_lst (pa_cons (pv 0) pa_nil)))
    (pss_cons (ps_for PassesOwn.never rfl (pi_tup (pv 1)) (pg_name (i := 3) nd rfl (.inl rfl))
      (pss_cons (ps_set (i := 4) nd rfl (.inl rfl) (pe_ix ix_list (pv 2) (pe_un un_neg pe_int) (fun _ _ => rfl)))
      (pss_cons (ps_if (PW.pt (pw_or (pt_val (pe_call GV hr1 (by rfl) DV.m DV.F.kp DV.b .nil pass0 (pa_cons (pv 4) pa_nil))) (pw_or1 (pt_not (pt_chain op_le op_lt pe_int (pv 3) (pe_callB call_len_seq (by rfl) ml PySem.boot_len (pa_cons (pv 4) pa_nil)))))))
          (pss_one ps_no) pss_nil)
      (pss_one (ps_expr (pe_bm PySem.F.plainAttrs_list PySem.F.slot_list_append PySem.F.type_list_append mt_append (pv 2) (pa_cons (pe_ix ix_tup (pv 4) (pv 3) (fun _ _ => rfl)) pa_nil)))))))
    (pss_one (ps_ret (pv 2)))), ?_⟩
  refine ⟨v, rfl, by show 1 ≤ sizeLine; decide, fun p np => ?_⟩
  have s1 := same_new np (.lst [v])
  refine ⟨_, rfl, b, rfl, ⟨_, .inl (.inl (s1 _ _ hb))⟩, for_tup (xs := ns.map V.int) (fun i σ H2 => ∃ ws x u y3 y4, σ = [some v, some (.ref b), some (.ref p), y3, y4] ∧ Same H H2 ∧ H2 p = some (.lst (ws ++ [x])) ∧ TmAt H2 x u ∧ t.at (ns.take i) = some u ∧ PathAt H2 (ws ++ [x]) t (ns.take i))
    ⟨[], v, t, none, none, rfl, s1, upd_same, TmAt.mono s1.tups _ _ ht, rfl, rfl, fun i hi => ?_⟩ (fun i σ H2 _ h => ?_) (fun i y σ H2 hy h => ?_) (fun σ H2 h => ?_)⟩
  · obtain rfl : i = 0 := Nat.le_zero.mp hi
    exact ⟨v, t, rfl, TmAt.mono s1.tups _ _ ht, rfl⟩
  · obtain ⟨_, _, _, _, _, _, sm, _⟩ := h
    exact .inl (.inl (sm _ _ hb))
  · obtain ⟨ws, x, u, y3, y4, rfl, sm, ep, hx, eu, hP⟩ := h
    rw [List.getElem?_map] at hy
    obtain ⟨n, en, rfl⟩ : ∃ n, ns[i]? = some n ∧ y = V.int n := by
      cases z : ns[i]? with
      | none => rw [z] at hy; cases hy
      | some n => rw [z] at hy; exact ⟨n, rfl, (Option.some.inj hy).symm⟩
    have li : i < ns.length := (List.getElem?_eq_some_iff.mp en).1
    have etk : ns.take (i + 1) = ns.take i ++ [n] := by rw [List.take_add_one, en]; rfl
    have bad : u.step n = none → t.at ns = none := fun z => by
      rw [← List.take_append_drop (i + 1) ns]
      exact at_none _ (by rw [etk, at_snoc eu, z])
    have no : u.step n = none → ∀ {X : Prop}, X := fun z => absurd (bad z) (by rw [eU]; intro z; cases z)
    refine ⟨_, rfl, _, rfl, p, _, _, x, rfl, rfl, .inl (.inl ep), atI_last ws x, ?_⟩
    refine ⟨_, rfl, x, u, rfl, hx, _, rfl, ?_⟩
    cases hx with
    | int k => exact no rfl
    | str k => exact no rfl
    | @ap a g xs as e hs =>
      refine iteF ?_
      have ls := hs.len
      refine ⟨_, rfl, 1, n, rfl, rfl, _, rfl, ?_⟩
      have len0 : ((V.str g :: xs).length : Int) = (as.length : Int) + 1 := by rw [List.length_cons, ls]; omega
      by_cases c1 : 1 ≤ n
      · rw [decide_eq_true c1]
        refine iteT ⟨.ref a, rfl, a, _, rfl, .inr (.inl (.inl e)), n, _, rfl, rfl, _, rfl, ?_⟩
        rw [len0]
        by_cases c2 : n < (as.length : Int) + 1
        · rw [decide_eq_true c2]
          refine iteF ?_
          have lt : (n - 1).toNat < as.length := by omega
          have ex : xs[(n - 1).toNat]? = some (xs[(n - 1).toNat]'(by omega)) := List.getElem?_eq_getElem (by omega)
          obtain ⟨t1, et, hx1⟩ := hs.get ex
          have hn1 : (V.str g :: xs)[n.toNat]? = some (xs[(n - 1).toNat]'(by omega)) := by
            rw [show n.toNat = (n - 1).toNat + 1 by omega, List.getElem?_cons_succ]
            exact ex
          generalize xs[(n - 1).toNat]'(by omega) = x1 at ex hx1 hn1
          refine ⟨.ref p, rfl, tyl ep, .ref a, rfl, .int n, rfl, a, _, n, x1, rfl, rfl, .inl (.inl e), at_of (j := n.toNat) (by omega) hn1, ?_⟩
          have l1 := hP.1
          have l2 := hp
          have l3 : (ns.take i).length = i := by rw [List.length_take]; omega
          refine ⟨p, _, _, rfl, rfl, ep, small6' (by omega), ?_⟩
          have b4 := But.upd (d := p) (H := H2) (o := .lst (ws ++ [V.ref a] ++ [x1]))
          have m4 := b4.tups ep
          have eu2 : t.at (ns.take (i + 1)) = some t1 := by
            rw [etk, at_snoc eu, step_eq, if_pos c1]
            exact et
          refine ⟨ws ++ [V.ref a], x1, t1, _, _, rfl, But.same np sm b4, upd_same, TmAt.mono m4 _ _ hx1, eu2, ?_, fun j hj => ?_⟩
          · rw [List.length_append, l1, l3, List.length_take]
            show i + 1 + 1 = _
            omega
          · have l4 : (ns.take (i + 1)).length = i + 1 := by rw [List.length_take]; omega
            rw [l4] at hj
            rcases Nat.lt_succ_iff_lt_or_eq.mp (Nat.lt_succ_of_le hj) with hj | rfl
            · obtain ⟨x2, u2, e1, e2, e3⟩ := hP.2 j (by omega)
              refine ⟨x2, u2, ?_, TmAt.mono m4 _ _ e2, ?_⟩
              · rw [List.getElem?_append_left (by omega)]
                exact e1
              · rw [List.take_take] at e3 ⊢
                rw [show min j (i + 1) = min j i by omega]
                exact e3
            · refine ⟨x1, t1, ?_, TmAt.mono m4 _ _ hx1, ?_⟩
              · rw [List.getElem?_append_right (by omega), show i + 1 - (ws ++ [V.ref a]).length = 0 by omega]
                rfl
              · rw [List.take_take, Nat.min_self]
                exact eu2
        · rw [decide_eq_false c2]
          refine no ?_
          rw [step_eq, if_pos c1]
          exact List.getElem?_eq_none (by omega)
      · rw [decide_eq_false c1]
        refine iteF ⟨_, rfl, ?_⟩
        refine no ?_
        rw [step_eq, if_neg c1]
  · obtain ⟨ws, x, u, y3, y4, rfl, sm, ep, hx, eu, hP⟩ := h
    rw [List.length_map, List.take_length] at eu hP
    exact ⟨.ref p, rfl, q p H2 _ sm np ep hP⟩
def spSubT : Sp := fun vs H Q _ => ∃ (v : V) (b : Addr) (t : Ter) (ns : List Int), vs = [v, .ref b] ∧ TmAt H v t ∧ H b = some (.tup (ns.map V.int)) ∧ ns.length ≤ 1000 ∧ t.size ≤ 100000 ∧
  ∃ u, t.at ns = some u ∧ ∀ (v' : V) (H' : Hp), Same H H' → TmAt H' v' u → Q v' H'
theorem sc_subterm_at : FnScope ["term", "position"] ["term", "position"] (defScope s_subterm_at) := ⟨rfl, rfl, rfl, by decide +kernel, rfl, by decide +kernel, by decide +kernel⟩
theorem ok_subterm_at {f fP : Addr} {fd fdP : FuncData} (D : Df K mg "subterm_at" s_subterm_at ["term", "position"] f fd) (DP : Df K mg "path_to" s_path_to ["term", "position"] fP fdP) (GP : FnOk P w K mg base CX0 2 fP fdP ["term", "position"] spPath) :
    FnOk P w K mg base CX0 3 f fd ["term", "position"] spSubT := by
  refine D.F.ok sc_subterm_at (fun vs H Q E h => ?_) (fun cdv A outer s H vs Q E hr h => ?_)
  · obtain ⟨v, b, t, ns, rfl, _⟩ := h; rfl
  obtain ⟨v, b, t, ns, rfl, ht, hb, hp, hz, u, eu, q⟩ := h
  refine ⟨_, pss_one (ps_ret (pe_ix ix_list (pe_call GP hr (by rfl) DP.m DP.F.kp DP.b .nil pass0 (pa_cons (pv 0) (pa_cons (pv 1) pa_nil))) (pe_un un_neg pe_int) (fun _ _ => rfl))), ?_⟩
  refine ⟨v, rfl, .ref b, rfl, v, b, t, ns, rfl, ht, hb, hp, hz, u, eu, fun p H1 ws s1 np ep hP => ?_⟩
  obtain ⟨x, u', ex, hx, eu'⟩ := hP.2 ns.length (Nat.le_refl _)
  rw [List.take_length, eu] at eu'
  cases eu'
  have l1 := hP.1
  obtain ⟨ws', e⟩ : ∃ ws', ws = ws' ++ [x] := by
    rcases List.eq_nil_or_concat ws with h | ⟨ws', y, h⟩
    · rw [h] at l1
      cases l1
    · rw [List.concat_eq_append] at h
      subst h
      rw [List.length_append, List.length_singleton] at l1
      rw [List.getElem?_append_right (by omega), show ns.length - ws'.length = 0 by omega] at ex
      cases (show some y = some x from ex)
      exact ⟨ws', rfl⟩
  subst e
  exact ⟨1, rfl, p, _, _, x, rfl, rfl, .inl (.inl ep), atI_last ws' x, q x H1 s1 hx⟩
def spReplAt : Sp := fun vs H Q _ => ∃ (v vn : V) (b : Addr) (t s : Ter) (ns : List Int), vs = [v, .ref b, vn] ∧ TmAt H v t ∧ TmAt H vn s ∧ H b = some (.tup (ns.map V.int)) ∧ ns.length ≤ 1000 ∧ t.size ≤ 100000 ∧
  ∃ u, t.at ns = some u ∧ ∀ (v' : V) (H' : Hp), Same H H' → TmAt H' v' (t.put s ns) → Q v' H'
theorem sc_replace_at : FnScope ["term", "position", "new", "path", "result", "depth", "outer", "index"] ["term", "position", "new"] (defScope s_replace_at) := ⟨rfl, rfl, rfl, by decide +kernel, rfl, by decide +kernel, by decide +kernel⟩
theorem ok_replace_at {f fP : Addr} {fd fdP : FuncData} (D : Df K mg "replace_at" s_replace_at ["term", "position", "new"] f fd) (DP : Df K mg "path_to" s_path_to ["term", "position"] fP fdP) (GP : FnOk P w K mg base CX0 2 fP fdP ["term", "position"] spPath) (ml : mg "len" = none) (mr : mg "range" = none) :
    FnOk P w K mg base CX0 3 f fd ["term", "position", "new"] spReplAt := by
  refine D.F.ok sc_replace_at (fun vs H Q E h => ?_) (fun cdv A outer s H vs Q E hr h => ?_)
  · obtain ⟨v, vn, b, t, s, ns, rfl, _⟩ := h; rfl
  obtain ⟨v, vn, b, t, sn, ns, rfl, ht, hsn, hb, hp, hz, u, eu, q⟩ := h
  have nd := sc_replace_at.nd
  refine ⟨_, pss_cons (ps_set (i := 3) nd rfl (.inl rfl) (pe_call GP hr (by rfl) DP.m DP.F.kp DP.b .nil pass0 (pa_cons (pv 0) (pa_cons (pv 1) pa_nil))))
    (pss_cons (ps_set (i := 4) nd rfl (.inl rfl) (pv 2))
    (pss_cons (ps_for PassesOwn.never rfl (pi_range3 (by rfl) mr (pa_cons (pe_op op_sub (pe_callB call_len_seq (by rfl) ml PySem.boot_len (pa_cons (pv 1) pa_nil)) pe_int) (pa_cons (pe_un un_neg pe_int) (pa_cons (pe_un un_neg pe_int) pa_nil)))) (pg_name (i := 5) nd rfl (.inl rfl))
      (pss_cons (ps_set (i := 6) nd rfl (.inl rfl) (pe_ix ix_list (pv 3) (pv 5) (fun _ _ => rfl)))
      (pss_cons (ps_set (i := 7) nd rfl (.inl rfl) (pe_ix ix_tup (pv 1) (pv 5) (fun _ _ => rfl)))
      (pss_one (ps_set (i := 4) nd rfl (.inl rfl) (pe_op op_catA (pe_op op_catA (pe_slice sl_tupA (pv 6) po_none (po_some (pv 7))) (pe_tup (pa_cons (pv 4) pa_nil))) (pe_slice sl_tupA (pv 6) (po_some (pe_op op_add (pv 7) pe_int)) po_none)))))))
    (pss_one (ps_ret (pv 4))))), ?_⟩
  refine ⟨v, rfl, .ref b, rfl, v, b, t, ns, rfl, ht, hb, hp, hz, u, eu, fun p H1 ws s1 np ep hP => ?_⟩
  refine ⟨vn, rfl, ?_⟩
  have hb1 := s1 _ _ hb
  have l1 := hP.1
  have l2 := hp
  refine ⟨.ref b, rfl, b, _, rfl, .inr (.inl (.inl hb1)), _, _, rfl, rfl, 1, rfl, 1, rfl, _, _, _, ns.length, rfl, ?_, ?_⟩
  · rw [List.length_map]
    have := RgC.neg (i := (ns.length : Int) - 1) (j := -1) (by omega) (by omega) (by omega) (by omega)
    rw [show ((ns.length : Int) - 1 - -1).toNat = ns.length by omega] at this
    exact this
  rw [List.length_map]
  refine for_rangeC (fun k σ H2 => ∃ r w y5 y6 y7, σ = [some v, some (.ref b), some vn, some (.ref p), some r, y5, y6, y7] ∧ Same H1 H2 ∧ t.at (ns.take (ns.length - k)) = some w ∧ TmAt H2 r (w.put sn (ns.drop (ns.length - k))))
    ⟨vn, u, none, none, none, rfl, Same.refl _, by rw [Nat.sub_zero, List.take_length]; exact eu, ?_⟩ (fun k σ H2 hk h => ?_) (fun σ H2 h => ?_)
  · rw [Nat.sub_zero, List.drop_length]
    have e : u.put sn [] = sn := by cases u <;> rfl
    rw [e]
    exact TmAt.mono s1.tups _ _ hsn
  · obtain ⟨r, w1, y5, y6, y7, rfl, sm, ew, hr1⟩ := h
    obtain ⟨d, ed⟩ : ∃ d, ns.length - k = d + 1 := ⟨ns.length - k - 1, by omega⟩
    have ed2 : ns.length - (k + 1) = d := by omega
    rw [ed] at ew hr1
    have hd : d < ns.length := by omega
    have en : ns[d]? = some ns[d] := List.getElem?_eq_getElem hd
    generalize ns[d] = n at en
    have etk : ns.take (d + 1) = ns.take d ++ [n] := by rw [List.take_add_one, en]; rfl
    have edr : ns.drop d = n :: ns.drop (d + 1) := by
      obtain ⟨h1, h2⟩ := List.getElem?_eq_some_iff.mp en
      rw [List.drop_eq_getElem_cons h1, h2]
    obtain ⟨x, u', ex, hx, eu'⟩ := hP.2 d (by omega)
    rw [etk, at_snoc eu'] at ew
    have ei : (ns.length : Int) - 1 + (k : Int) * (-1) = (d : Nat) := by omega
    refine ⟨_, rfl, _, rfl, p, _, _, x, rfl, rfl, .inl (.inl (sm _ _ ep)), at_of ei ex, ?_⟩
    refine ⟨_, rfl, _, rfl, b, _, _, .int n, rfl, rfl, .inl (.inl (sm _ _ hb1)), at_of ei (by rw [List.getElem?_map, en]; rfl), ?_⟩
    have hx2 := TmAt.mono sm.tups _ _ hx
    cases hx2 with
    | int i => cases ew
    | str i => cases ew
    | @ap a g xs as e hs =>
      obtain ⟨c1, c2⟩ := step_ap ew
      have ls := hs.len
      have lt := (List.getElem?_eq_some_iff.mp c2).1
      obtain ⟨m, em⟩ : ∃ m : Nat, n = (m : Int) + 1 := ⟨(n - 1).toNat, by omega⟩
      have em1 : (n - 1).toNat = m := by omega
      rw [em1] at c2 lt
      have eN : n = ((m + 1 : Nat) : Int) := by omega
      have eN2 : n + 1 = ((m + 2 : Nat) : Int) := by omega
      have lL : (V.str g :: xs).length = as.length + 1 := by rw [List.length_cons, ls]
      refine ⟨.ref a, rfl, .int n, rfl, n, rfl, a, _, rfl, .inl (.inl e), fun z => ?_, fun _ p1 np1 => ?_⟩
      · rw [eN, HT.sIx_nat, lL] at z
        omega
      rw [show cutV (V.str g :: xs) none (some n) = .str g :: xs.take m by rw [eN, cut_take _ _ (by rw [lL]; omega)]; rfl]
      have s2 := same_new np1 (.tup (.str g :: xs.take m))
      refine ⟨r, rfl, by show 1 ≤ sizeLine; decide, fun p2 np2 => ?_⟩
      have s3 := same_new np2 (.tup [r])
      have zl : (xs.take m).length ≤ 100000 := by
        have h1 := (at_wf (W := fun _ _ => True) (U := fun _ => True) (ns.take d) t (.ap g as) (wf_true t) eu').2.1
        have h2 : (Ter.ap g as).size = Ter.sizes as + 1 := rfl
        have h3 := Ter.sizes_len as
        rw [List.length_take]
        omega
      have za : as.length ≤ 100000 := by
        have h1 := (at_wf (W := fun _ _ => True) (U := fun _ => True) (ns.take d) t (.ap g as) (wf_true t) eu').2.1
        have h2 : (Ter.ap g as).size = Ter.sizes as + 1 := rfl
        have h3 := Ter.sizes_len as
        omega
      refine ⟨p1, p2, _, _, rfl, rfl, .inl (.inl (s3 _ _ upd_same)), .inl (.inl upd_same), small6 (by show (xs.take m).length + 1 + 1 ≤ 1000000; omega), (fun z => by cases z), (fun _ z => by cases z), fun _ _ p3 np3 => ?_⟩
      have s4 := same_new np3 (.tup (V.str g :: xs.take m ++ [r]))
      have s234 := (s2.trans s3).trans s4
      refine ⟨.ref a, rfl, .int n, rfl, n, 1, rfl, rfl, n + 1, rfl, a, _, rfl, .inl (.inl (s234 _ _ e)), fun z => ?_, fun _ p4 np4 => ?_⟩
      · rw [eN2, HT.sIx_nat, lL] at z
        omega
      rw [show cutV (V.str g :: xs) (some (n + 1)) none = xs.drop (m + 1) by rw [eN2, cut_drop _ _ (by rw [lL]; omega)]; rfl]
      have s5 := same_new np4 (.tup (xs.drop (m + 1)))
      have sA := s234.trans s5
      have e3 := s5 _ _ (show upd _ p3 (.tup (V.str g :: xs.take m ++ [r])) p3 = some _ from upd_same)
      have hr2 := TmAt.mono sA.tups _ _ hr1
      -- the put term, one level up
      have eput : (Ter.ap g as).put sn (ns.drop d) = .ap g (as.take m ++ w1.put sn (ns.drop (d + 1)) :: as.drop (m + 1)) := by
        rw [edr, put_up (t := t) (ns := ns.take d) eu' c1 (by rw [em1]; exact c2), em1]
      have hs2 := TmAll.mono sA.tups _ _ hs
      refine ⟨p3, p4, _, _, rfl, rfl, .inl (.inl e3), .inl (.inl upd_same), small6 (by rw [List.length_append, List.length_cons, List.length_drop, ls]; show (xs.take m).length + 1 + 1 + _ ≤ 1000000; omega), (fun z => by cases z), fun _ z => ?_, fun _ _ p5 np5 => ?_⟩
      · refine ⟨_, Ter.ap g as, _, _, _, rfl, sm.trans sA, by rw [ed2]; exact eu', ?_⟩
        rw [ed2, eput]
        have z2 : as.drop (m + 1) = [] := by
          have h1 : (xs.drop (m + 1)).length = 0 := by rw [z]; rfl
          rw [List.length_drop, ls] at h1
          exact List.drop_eq_nil_of_le (by omega)
        rw [z2]
        exact .ap (xs := xs.take m ++ [r]) e3 ((hs2.take m).app (.cons hr2 .nil))
      · have s6 := same_new np5 (.tup (V.str g :: xs.take m ++ [r] ++ xs.drop (m + 1)))
        refine ⟨_, Ter.ap g as, _, _, _, rfl, sm.trans (sA.trans s6), by rw [ed2]; exact eu', ?_⟩
        rw [ed2, eput]
        refine .ap (xs := xs.take m ++ r :: xs.drop (m + 1)) ?_ (TmAll.mono s6.tups _ _ ((hs2.take m).app (.cons hr2 (hs2.drop (m + 1)))))
        rw [upd_same, List.cons_append, List.cons_append, List.append_assoc]
        rfl
  · obtain ⟨r, w1, y5, y6, y7, rfl, sm, ew, hr1⟩ := h
    rw [Nat.sub_self] at ew hr1
    cases (show some t = some w1 from ew)
    exact ⟨r, rfl, q r H2 (s1.trans sm) hr1⟩
end

end K76
namespace K76
open PySem PySem.Spec PyProof.Rows L2 Own HT
section
variable {P : Program} {w : World} {K : PySem.W.Frag} {mg : Str → Option Value} {base : Heap}
/-! ### _law_places -/
def apAt (t : Ter) (q : List Int) : Prop := ∃ f as, t.at q = some (.ap f as)
def spPlaces (n : Nat) : Sp := fun vs H Q _ => ∃ (v : V) (t : Ter), vs = [v] ∧ TmAt H v t ∧ t.nest ≤ n ∧ t.nest ≤ 100 ∧ t.size ≤ 100000 ∧ ∀ (p : Addr) (xs : List V) (qs : List (List Int)) (H' : Hp), Same H H' → H p = none → H' p = some (.lst xs) → PosAll H' xs qs → qs = t.pls → Q (.ref p) H'
theorem sc_law_places : FnScope ["term", "found", "k", "place"] ["term"] (defScope s__law_places) := ⟨rfl, rfl, rfl, by decide +kernel, rfl, by decide +kernel, by decide +kernel⟩
theorem ok_law_places1 {f : Addr} {fd : FuncData} (D : Df K mg "_law_places" s__law_places ["term"] f fd) (m_isinstance : mg "isinstance" = none) (m_tuple : mg "tuple" = none) (m_len : mg "len" = none) (m_range : mg "range" = none) {n : Nat} (G : FnOk P w K mg base CX0 n f fd ["term"] (spPlaces n)) : FnOk P w K mg base CX0 (n + 1) f fd ["term"] (spPlaces (n + 1)) := by
  refine D.F.ok sc_law_places (fun vs H Q E h => ?_) (fun cdv A outer s H vs Q E hr h => ?_)
  · obtain ⟨v, t, rfl, _⟩ := h; rfl
  obtain ⟨v, t, rfl, ht, hn, h60, hz, q⟩ := h
  have nd := sc_law_places.nd
  refine ⟨_, (pss_cons (ps_if (pt_not (pt_val (pe_callB call_isiTer (by rfl) m_isinstance (by decide +kernel) (pa_cons (pv 0) (pa_cons (pe_bltn (v := .ty "tuple") (by rfl) m_tuple (by decide +kernel) rfl) pa_nil))))) (pss_one (ps_ret (pe_lst pa_nil))) pss_nil)
    (pss_cons (ps_set (i := 1) nd rfl (.inl rfl) (pe_lst (pa_cons (pe_tup pa_nil) pa_nil)))
    (pss_cons (ps_for PassesOwn.never rfl (pi_range2 (by rfl) m_range (pa_cons pe_int (pa_cons (pe_callB call_len_seq (by rfl) m_len PySem.boot_len (pa_cons (pv 0) pa_nil)) pa_nil))) (pg_name (i := 2) nd rfl (.inl rfl))
      (pss_one (ps_for PassesOwn.never rfl (pi_list (pe_call G hr (by rfl) D.m D.F.kp D.b .nil pass0 (pa_cons (pe_ix ix_tup (pv 0) (pv 2) (fun _ _ => rfl)) pa_nil))) (pg_name (i := 3) nd rfl (.inl rfl)) (pss_one (ps_expr (pe_bm PySem.F.plainAttrs_list PySem.F.slot_list_append PySem.F.type_list_append mt_append (pv 1) (pa_cons (pe_op op_catA (pe_tup (pa_cons (pv 2) pa_nil)) (pv 3)) pa_nil)))))))
    (pss_one (ps_ret (pv 1)))))), ?_⟩
  refine ⟨v, rfl, v, t, rfl, ht, _, rfl, ?_⟩
  cases ht with
  | int i => exact iteT ⟨Nat.zero_le _, fun p np => q p [] [] _ (same_new np _) np upd_same .nil rfl⟩
  | str x => exact iteT ⟨Nat.zero_le _, fun p np => q p [] [] _ (same_new np _) np upd_same .nil rfl⟩
  | @ap p g xs as e hs =>
    have hn : Ter.nests as + 1 ≤ n + 1 := hn
    have h60 : Ter.nests as + 1 ≤ 100 := h60
    have hz : Ter.sizes as + 1 ≤ 100000 := hz
    have ls := hs.len
    have la := Ter.sizes_len as
    refine iteF ?_
    refine ⟨Nat.zero_le _, fun p0 np0 => ⟨by show 1 ≤ sizeLine; decide, fun d nd' => ?_⟩⟩
    have s0 := same_new np0 (.tup [])
    have s1 := same_new nd' (.lst [.ref p0])
    have s01 := s0.trans s1
    have nd0 : H d = none := s0.free nd'
    have ep0 : (upd (upd H p0 (.tup [])) d (.lst [.ref p0])) p0 = some (.tup (([] : List Int).map V.int)) := s1 _ _ upd_same
    refine ⟨_, rfl, p, _, rfl, .inr (.inl (.inl (s01 _ _ e))), 1, ((V.str g :: xs).length : Nat), rfl, ⟨by decide, by decide, by show _ ≤ ((xs.length + 1 : Nat) : Int); omega, by show ((xs.length + 1 : Nat) : Int) < _; omega⟩, for_range (n := (((V.str g :: xs).length : Nat) - 1 : Int).toNat) (fun i σ F => ∃ ys qs y2 y3, σ = [some (.ref p), some (.ref d), y2, y3] ∧ Same H F ∧ F d = some (.lst ys) ∧ PosAll F ys qs ∧ qs = [] :: Ter.plss 1 (as.take i)) ⟨[.ref p0], [[]], none, none, rfl, s01, upd_same, .cons (.mk ep0) .nil, rfl⟩ (fun i σ F hi h => ?_) (fun σ F h => ?_)⟩
    · obtain ⟨ys, qs, y2, y3, rfl, sm, ed, hP, ok⟩ := h
      have hi : i < xs.length := by
        have : (((V.str g :: xs).length : Nat) : Int) = ((xs.length + 1 : Nat) : Int) := rfl
        omega
      have ex : xs[i]? = some xs[i] := List.getElem?_eq_getElem hi
      obtain ⟨t1, et, ht1⟩ := hs.get ex
      have k1 := nest_le_of et
      have k3 := size_le_of et
      have etk : as.take (i + 1) = as.take i ++ [t1] := by rw [List.take_add_one, et]; rfl
      have sz : Ter.sizes (as.take i) + t1.size ≤ Ter.sizes as := by
        have h1 : Ter.sizes as = Ter.sizes (as.take (i + 1)) + Ter.sizes (as.drop (i + 1)) := by rw [← Ter.sizes_app, List.take_append_drop]
        rw [etk, Ter.sizes_app] at h1
        have : Ter.sizes [t1] = t1.size := by show t1.size + 0 = _; omega
        omega
      have e4 : (1 : Int) + (i : Nat) = ((i + 1 : Nat) : Int) := by omega
      have ax : atI (V.str g :: xs) (1 + (i : Nat)) = some xs[i] := at_of (j := i + 1) e4 (by rw [List.getElem?_cons_succ]; exact ex)
      refine ⟨_, rfl, _, rfl, p, _, _, _, rfl, rfl, .inl (.inl (sm _ _ e)), ax, xs[i], t1, rfl, TmAt.mono sm.tups _ _ ht1, by omega, by omega, by omega, fun p5 ys5 qs5 F5 s5 n5 e5 hP5 ok5 => ?_⟩
      have npd : p5 ≠ d := fun z => by rw [z, ed] at n5; cases n5
      have ly := hP.len
      have l55 := hP5.len
      refine ⟨p5, rfl, ⟨_, .inl (.inl e5)⟩, for_list (xs := ys5) (fun j σ F6 => ∃ ys' qs' y3, σ = [some (.ref p), some (.ref d), some (.int (1 + (i : Nat))), y3] ∧ Same H F6 ∧ Tups F5 F6 ∧ F6 d = some (.lst ys') ∧ F6 p5 = some (.lst ys5) ∧ PosAll F6 ys' qs' ∧ qs' = qs ++ (qs5.take j).map ((1 + (i : Nat) : Int) :: ·)) ⟨ys, qs, y3, rfl, sm.trans s5, (Same.refl _).tups, s5 _ _ ed, e5, hP.mono s5.tups, by rw [List.take_zero, List.map_nil, List.append_nil]⟩ (fun j σ F6 _ h => ?_) (fun j y σ F6 hy h => ?_) (fun σ F6 h => ?_)⟩
      · obtain ⟨ys', qs', y3, rfl, _, _, _, e56, _⟩ := h
        exact .inl (.inl e56)
      · obtain ⟨ys', qs', y3, rfl, sm6, tp6, ed6, e56, hP6, ok6⟩ := h
        have lj : j < ys5.length := (List.getElem?_eq_some_iff.mp hy).1
        obtain ⟨r, hr5, hyr⟩ := hP5.get hy
        have hr5' : r ∈ t1.pls := ok5 ▸ List.mem_of_getElem? hr5
        obtain ⟨⟨f2, as2, ha2⟩, _, _⟩ := pls_at t1 r hr5'
        have l6' := hP6.len
        have l7' : qs'.length ≤ 300000 := by
          have h1 := plss_len 1 (as.take i)
          have h2 : (qs5.take j).length ≤ j := by rw [List.length_take]; omega
          have h3 := pls_len t1
          have h4 : ys5.length = t1.pls.length := by rw [l55, ok5]
          rw [ok6, List.length_append, List.length_map, ok, List.length_cons]
          omega
        cases hyr.mono tp6 with
        | @mk b _ eb =>
        refine ⟨_, rfl, tyl ed6, _, rfl, by show 1 ≤ sizeLine; decide, fun p7 np7 => ?_⟩
        have s7 := same_new np7 (.tup [V.int (1 + (i : Nat))])
        have lr : r.length ≤ 100000 := by
          have := (at_wf r t1 _ (wf_true t1) ha2).2.2
          omega
        refine ⟨_, rfl, catA upd_same (s7 _ _ eb) (by rw [List.length_map]; show 1 + r.length ≤ _; omega) fun p8 F8 s8 e8 => ?_⟩
        have ed8 := s8 _ _ (s7 _ _ ed6)
        refine ⟨d, _, _, rfl, rfl, ed8, small6' (by omega), ?_⟩
        have b9 : But d F8 (upd F8 d (.lst (ys' ++ [.ref p8]))) := But.upd
        have t9 := b9.tups ed8
        have s68 := s7.trans s8
        refine ⟨ys' ++ [.ref p8], qs' ++ [((1 + (i : Nat) : Int)) :: r], _, rfl, But.same nd0 (sm6.trans s68) b9, (tp6.trans s68.tups).trans t9, upd_same, b9 _ _ npd (s68 _ _ e56), (hP6.mono (s68.tups.trans t9)).app (.cons (.mk (t9 _ _ e8)) .nil), ?_⟩
        rw [ok6, List.append_assoc, List.take_add_one, hr5, List.map_append]
        rfl
      · obtain ⟨ys', qs', y3, rfl, sm6, tp6, ed6, e56, hP6, ok6⟩ := h
        refine ⟨ys', qs', _, _, rfl, sm6, ed6, hP6, ?_⟩
        have hl5 : ys5.length = t1.pls.length := by rw [l55, ok5]
        rw [ok6, hl5, ok5, List.take_length, etk, plss_app, ok]
        show _ = [] :: (Ter.plss 1 (as.take i) ++ Ter.plss (1 + ((as.take i).length : Int)) [t1])
        rw [show ((as.take i).length : Int) = (i : Int) by rw [List.length_take]; omega]
        show _ = [] :: (_ ++ (t1.pls.map _ ++ []))
        rw [List.append_nil]
        rfl
    · obtain ⟨ys, qs, y2, y3, rfl, sm, ed, hP, ok⟩ := h
      have lx : ((((V.str g :: xs).length : Nat) : Int) - 1).toNat = as.length := by
        have : (((V.str g :: xs).length : Nat) : Int) = ((xs.length + 1 : Nat) : Int) := rfl
        omega
      rw [lx, List.take_length] at ok
      exact ⟨_, rfl, q d ys qs F sm nd0 ed hP ok⟩
theorem ok_law_places {f : Addr} {fd : FuncData} (D : Df K mg "_law_places" s__law_places ["term"] f fd) (m_isinstance : mg "isinstance" = none) (m_tuple : mg "tuple" = none) (m_len : mg "len" = none) (m_range : mg "range" = none) : ∀ n : Nat, FnOk P w K mg base CX0 n f fd ["term"] (spPlaces n)
  | 0 => by
    have no : ∀ vs H Q E, ¬ spPlaces 0 vs H Q E := fun vs H Q E h => by
      obtain ⟨_, t, _, _, hk, _⟩ := h
      cases t with
      | var k => exact absurd hk (by show ¬ (1 ≤ 0); omega)
      | ap f as => exact absurd hk (by show ¬ (_ + 1 ≤ 0); omega)
    exact ⟨fun vs H Q E h => absurd h (no vs H Q E), fun A outer s H args us vs Q E _ _ _ _ h => absurd h (no vs H Q E)⟩
  | n + 1 => ok_law_places1 D m_isinstance m_tuple m_len m_range (ok_law_places D m_isinstance m_tuple m_len m_range n)
/-! ### _law_at -/
def spAt : Sp := fun vs H Q _ => ∃ (v : V) (t u : Ter) (p : Addr) (r : List Int), vs = [v, .ref p] ∧ TmAt H v t ∧ H p = some (.tup (r.map V.int)) ∧ t.at r = some u ∧ ∀ v', TmAt H v' u → Q v' H
theorem sc_law_at : FnScope ["term", "place", "k"] ["term", "place"] (defScope s__law_at) := ⟨rfl, rfl, rfl, by decide +kernel, rfl, by decide +kernel, by decide +kernel⟩
theorem ok_law_at {f : Addr} {fd : FuncData} (D : Df K mg "_law_at" s__law_at ["term", "place"] f fd) : FnOk P w K mg base CX0 1 f fd ["term", "place"] spAt := by
  refine D.F.ok sc_law_at (fun vs H Q E h => ?_) (fun cdv A outer s H vs Q E hr h => ?_)
  · obtain ⟨v, t, u, p, r, rfl, _⟩ := h; rfl
  obtain ⟨v, t, u, p, r, rfl, ht, hp, ha, q⟩ := h
  have nd := sc_law_at.nd
  refine ⟨_, (pss_cons (ps_for PassesOwn.never rfl (pi_tup (pv 1)) (pg_name (i := 2) nd rfl (.inl rfl)) (pss_one (ps_set (i := 0) nd rfl (.inl rfl) (pe_ix ix_tup (pv 0) (pv 2) (fun _ _ => rfl))))) (pss_one (ps_ret (pv 0)))), ?_⟩
  refine ⟨.ref p, rfl, p, rfl, ⟨_, .inl (.inl hp)⟩, for_tup (xs := r.map V.int) (fun i σ F => ∃ v' t' y, σ = [some v', some (.ref p), y] ∧ F = H ∧ TmAt H v' t' ∧ t'.at (r.drop i) = some u) ⟨v, t, none, rfl, rfl, ht, ha⟩ (fun i σ F _ h => ?_) (fun i x σ F hx h => ?_) (fun σ F h => ?_)⟩
  · obtain ⟨_, _, _, rfl, rfl, _⟩ := h
    exact .inl (.inl hp)
  · obtain ⟨v', t', y, rfl, rfl, ht', ha'⟩ := h
    obtain ⟨c, hc, rfl⟩ : ∃ k, r[i]? = some k ∧ V.int k = x := by
      rw [List.getElem?_map] at hx
      exact Option.map_eq_some_iff.mp hx
    obtain ⟨l1, e1⟩ := List.getElem?_eq_some_iff.mp hc
    rw [List.drop_eq_getElem_cons l1, e1] at ha'
    have ha' : (t'.step c).bind (fun u' => u'.at (r.drop (i + 1))) = some u := ha'
    cases ht' with
    | int i => cases ha'
    | str x => cases ha'
    | @ap p1 g xs as e hs =>
      cases es : (Ter.ap g as).step c with
      | none => rw [es] at ha'; cases ha'
      | some a =>
        rw [es] at ha'
        obtain ⟨h1, h2⟩ := step_ap es
        have la : (c - 1).toNat < as.length := (List.getElem?_eq_some_iff.mp h2).1
        have ls := hs.len
        have ex : xs[(c - 1).toNat]? = some (xs[(c - 1).toNat]'(by omega)) := List.getElem?_eq_getElem (by omega)
        obtain ⟨t1, et, ht1⟩ := hs.get ex
        have et : t1 = a := Option.some.inj (et.symm.trans h2)
        subst et
        refine ⟨_, rfl, _, rfl, p1, _, c, _, rfl, rfl, .inl (.inl e), at_of (j := (c - 1).toNat + 1) (by omega) (by rw [List.getElem?_cons_succ]; exact ex), ?_⟩
        exact ⟨_, t1, _, rfl, rfl, ht1, ha'⟩
  · obtain ⟨v', t', y, rfl, rfl, ht', ha'⟩ := h
    rw [List.length_map, List.drop_length] at ha'
    have ha' : some t' = some u := by cases t' <;> exact ha'
    cases ha'
    exact ⟨_, rfl, q v' ht'⟩
end

section
variable {P : Program} {w : World} {K : PySem.W.Frag} {mg : Str → Option Value} {base : Heap}
theorem nests_modify (f : Ter → Ter) (n : Nat) (h : ∀ a, (f a).nest ≤ a.nest + n) : ∀ (as : List Ter) (i : Nat), Ter.nests (as.modify i f) ≤ Ter.nests as + n
  | [], i => by rw [List.modify_nil]; exact Nat.zero_le _
  | a :: r, 0 => by
    rw [List.modify_zero_cons]
    have := h a
    show max (f a).nest (Ter.nests r) ≤ max a.nest (Ter.nests r) + n
    omega
  | a :: r, i + 1 => by
    rw [List.modify_succ_cons]
    have := nests_modify f n h r i
    show max a.nest (Ter.nests (r.modify i f)) ≤ max a.nest (Ter.nests r) + n
    omega
theorem put_nest (s : Ter) : ∀ (ns : List Int) (t : Ter), (t.put s ns).nest ≤ t.nest + s.nest
  | [], t => by cases t <;> exact Nat.le_add_left _ _
  | n :: r, .var k => Nat.le_add_right _ _
  | n :: r, .ap f as => by
    have := nests_modify (fun a => a.put s r) s.nest (fun a => put_nest s r a) as (n - 1).toNat
    show Ter.nests (as.modify (n - 1).toNat fun a => a.put s r) + 1 ≤ Ter.nests as + 1 + s.nest
    omega
theorem wfs_modify {S : Str → Nat → Prop} {U : Key → Prop} (f : Ter → Ter) (h : ∀ a, a.wf S U → (f a).wf S U) : ∀ (as : List Ter) (i : Nat), Ter.wfs S U as → Ter.wfs S U (as.modify i f)
  | [], i, _ => by rw [List.modify_nil]; trivial
  | a :: r, 0, g => by
    rw [List.modify_zero_cons]
    exact ⟨h a g.1, g.2⟩
  | a :: r, i + 1, g => by
    rw [List.modify_succ_cons]
    exact ⟨g.1, wfs_modify f h r i g.2⟩
theorem put_wf {S : Str → Nat → Prop} {U : Key → Prop} {s : Ter} (hs : s.wf S U) : ∀ (ns : List Int) (t : Ter), t.wf S U → (t.put s ns).wf S U
  | [], t, _ => by cases t <;> exact hs
  | n :: r, .var k, h => h
  | n :: r, .ap f as, h => ⟨by rw [List.length_modify]; exact h.1, wfs_modify _ (fun a ha => put_wf hs r a ha) as _ h.2⟩
/-! ### _law_put -/
def spPut (m : Nat) : Sp := fun vs H Q _ => ∃ (v u : V) (t s x : Ter) (p : Addr) (r : List Int), vs = [v, .ref p, u] ∧ TmAt H v t ∧ H p = some (.tup (r.map V.int)) ∧ t.at r = some x ∧ TmAt H u s ∧ r.length < m ∧ r.length ≤ 1000 ∧ t.size ≤ 100000 ∧ ∀ v' H', Same H H' → TmAt H' v' (t.put s r) → Q v' H'
theorem sc_law_put : FnScope ["term", "place", "new", "k"] ["term", "place", "new"] (defScope s__law_put) := ⟨rfl, rfl, rfl, by decide +kernel, rfl, by decide +kernel, by decide +kernel⟩
theorem ok_law_put1 {f : Addr} {fd : FuncData} (D : Df K mg "_law_put" s__law_put ["term", "place", "new"] f fd) {n : Nat} (G : FnOk P w K mg base CX0 n f fd ["term", "place", "new"] (spPut n)) : FnOk P w K mg base CX0 (n + 1) f fd ["term", "place", "new"] (spPut (n + 1)) := by
  refine D.F.ok sc_law_put (fun vs H Q E h => ?_) (fun cdv A outer s H vs Q E hr h => ?_)
  · obtain ⟨v, u, t, s, x, p, r, rfl, _⟩ := h; rfl
  obtain ⟨v, u, t, s', x, p, r, rfl, ht, hp, ha, hu, lm, l1000, hz, q⟩ := h
  have nd := sc_law_put.nd
  refine ⟨_, (pss_cons (ps_if (pt_cmpR (op_eqD hr.units) (pv 1) (pe_tup pa_nil) (nomark _)) (pss_one (ps_ret (pv 2))) pss_nil)
    (pss_cons (ps_set (i := 3) nd rfl (.inl rfl) (pe_ix ix_tup (pv 1) pe_int (fun _ _ => rfl)))
    (pss_one (ps_ret (pe_op op_catA (pe_op op_catA (pe_slice sl_tupA (pv 0) po_none (po_some (pv 3))) (pe_tup (pa_cons (pe_call G hr (by rfl) D.m D.F.kp D.b .nil pass0 (pa_cons (pe_ix ix_tup (pv 0) (pv 3) (fun _ _ => rfl)) (pa_cons (pe_slice sl_tupA (pv 1) (po_some pe_int) po_none) (pa_cons (pv 2) pa_nil)))) pa_nil))) (pe_slice sl_tupA (pv 0) (po_some (pe_op op_add (pv 3) pe_int)) po_none)))))), ?_⟩
  refine ⟨_, rfl, Nat.zero_le _, fun p0 np0 => ?_⟩
  have s0 := same_new np0 (.tup [])
  refine ⟨.tuple (r.map PyData.int), .tuple (([] : List Int).map PyData.int), .tup (.inl (.inl (s0 _ _ hp))) (dp_ints r), .tup (.inl (.inl upd_same)) (dp_ints []), shaped_tints r, shaped_tints [], _, rfl, ?_⟩
  rw [eqv_tints]
  cases r with
  | nil =>
    refine iteYe (decide_eq_true rfl) ⟨_, rfl, ?_⟩
    have e : t.put s' [] = s' := by cases t <;> rfl
    rw [e] at q
    exact q u _ s0 (TmAt.mono s0.tups _ _ hu)
  | cons k r =>
    refine iteNo (decide_eq_false fun z => by cases z) ?_
    have lr : r.length + 1 < n + 1 := lm
    have l1 : r.length + 1 ≤ 1000 := l1000
    have ha : (t.step k).bind (fun u' => u'.at r) = some x := ha
    have hp0 := s0 _ _ hp
    refine ⟨_, rfl, p, _, 0, .int k, rfl, rfl, .inl (.inl hp0), head_at, ?_⟩
    have ht0 := TmAt.mono s0.tups _ _ ht
    cases ht0 with
    | int i => cases ha
    | str y => cases ha
    | @ap p1 g xs as e hs =>
      have hz : Ter.sizes as + 1 ≤ 100000 := hz
      have la := Ter.sizes_len as
      have ls := hs.len
      cases es : (Ter.ap g as).step k with
      | none => rw [es] at ha; cases ha
      | some a =>
        rw [es] at ha
        have ha : a.at r = some x := ha
        obtain ⟨h1, h2⟩ := step_ap es
        have lk : (k - 1).toNat < as.length := (List.getElem?_eq_some_iff.mp h2).1
        obtain ⟨j, rfl⟩ : ∃ j : Nat, k = ((j + 1 : Nat) : Int) := ⟨(k - 1).toNat, by omega⟩
        have ej : (((j + 1 : Nat) : Int) - 1).toNat = j := by omega
        rw [ej] at h2 lk
        have ex : xs[j]? = some (xs[j]'(by omega)) := List.getElem?_eq_getElem (by omega)
        obtain ⟨t1, et, ht1⟩ := hs.get ex
        have et2 : t1 = a := Option.some.inj (et.symm.trans h2)
        subst et2
        have k3 := size_le_of et
        refine ⟨_, rfl, _, rfl, _, rfl, slA e fun p2 F2 s2 e2 => ?_⟩
        have e1F := s2 _ _ e
        refine ⟨_, rfl, _, rfl, p1, _, ((j + 1 : Nat) : Int), _, rfl, rfl, .inl (.inl e1F), at_of (j := j + 1) rfl (by rw [List.getElem?_cons_succ]; exact ex), ?_⟩
        refine ⟨_, rfl, _, rfl, slLo (s2 _ _ hp0) fun p3 F3 s3 e3 => ?_⟩
        have e3' : F3 p3 = some (.tup (r.map V.int)) := e3.trans (congrArg (fun z => some (HO.tup z)) (cut_drop (List.map V.int (((j + 1 : Nat) : Int) :: r)) 1 (Nat.le_add_left 1 _)))
        have s03 := s0.trans (s2.trans s3)
        refine ⟨_, rfl, _, u, t1, s', x, p3, r, rfl, TmAt.mono (s2.trans s3).tups _ _ ht1, e3', ha, TmAt.mono s03.tups _ _ hu, by omega, by omega, by omega, fun v' F4 s4 hv' => ?_⟩
        refine ⟨by show 1 ≤ sizeLine; decide, fun p5 np5 => ?_⟩
        have s5 := same_new np5 (.tup [v'])
        have s25 := s3.trans (s4.trans s5)
        refine catA (s25 _ _ e2) upd_same (by have := cutV_length (V.str g :: xs) none (some ((j + 1 : Nat) : Int)); rw [List.length_cons] at this; show _ + 1 ≤ _; omega) fun p6 F6 s6 e6 => ?_
        refine ⟨_, rfl, _, rfl, _, _, rfl, rfl, ((j + 1 : Nat) : Int) + 1, rfl, slLo (s6 _ _ (s25 _ _ e1F)) fun p7 F7 s7 e7 => ?_⟩
        refine catA (s7 _ _ e6) e7 (by have := cutV_length (V.str g :: xs) none (some ((j + 1 : Nat) : Int)); have := cutV_length (V.str g :: xs) (some (((j + 1 : Nat) : Int) + 1)) none; rw [List.length_cons] at *; rw [List.length_append, List.length_singleton]; omega) fun p8 F8 s8 e8 => ?_
        have sA := s03.trans (s4.trans (s5.trans (s6.trans (s7.trans s8))))
        rw [cut_take _ _ (by show j + 1 ≤ xs.length + 1; omega), show ((j + 1 : Nat) : Int) + 1 = ((j + 2 : Nat) : Int) by omega, cut_drop _ _ (by show j + 2 ≤ xs.length + 1; omega)] at e8
        refine q (.ref p8) F8 sA ?_
        have em : (Ter.ap g as).put s' (((j + 1 : Nat) : Int) :: r) = .ap g (as.take j ++ [t1.put s' r] ++ as.drop (j + 1)) := by
          show Ter.ap g (as.modify (((j + 1 : Nat) : Int) - 1).toNat fun a => a.put s' r) = _
          rw [ej, List.modify_eq_take_cons_drop lk, (List.getElem?_eq_some_iff.mp h2).2, List.append_assoc]; rfl
        rw [em]
        have tm : Tups F2 F8 := (s25.trans (s6.trans (s7.trans s8))).tups
        have t2 : Tups (upd H p0 (.tup [])) F8 := s2.tups.trans tm
        have e8 : F8 p8 = some (.tup (V.str g :: (xs.take j ++ [v'] ++ xs.drop (j + 1)))) := e8
        exact .ap e8 (((TmAll.mono t2 _ _ hs).take j |>.app (.cons (TmAt.mono (s5.trans (s6.trans (s7.trans s8))).tups _ _ hv') .nil)).app ((TmAll.mono t2 _ _ hs).drop (j + 1)))
theorem ok_law_put {f : Addr} {fd : FuncData} (D : Df K mg "_law_put" s__law_put ["term", "place", "new"] f fd) : ∀ n : Nat, FnOk P w K mg base CX0 n f fd ["term", "place", "new"] (spPut n)
  | 0 => by
    have no : ∀ vs H Q E, ¬ spPut 0 vs H Q E := fun vs H Q E h => by
      obtain ⟨_, _, _, _, _, _, _, _, _, _, _, _, hk, _⟩ := h
      exact absurd hk (Nat.not_lt_zero _)
    exact ⟨fun vs H Q E h => absurd h (no vs H Q E), fun A outer s H args us vs Q E _ _ _ _ h => absurd h (no vs H Q E)⟩
  | n + 1 => ok_law_put1 D (ok_law_put D n)
end

end K76
namespace K76
open PySem PySem.Spec PyProof.Rows L2 Own HT
/-! ### things in lists -/
inductive ZA {α : Type} (A : V → α → Prop) : List V → List α → Prop
  | nil : ZA A [] []
  | cons {v : V} {vs : List V} {x : α} {xs : List α} : A v x → ZA A vs xs → ZA A (v :: vs) (x :: xs)
theorem ZA.mono {α : Type} {A B : V → α → Prop} (m : ∀ v x, A v x → B v x) : ∀ {vs : List V} {xs : List α}, ZA A vs xs → ZA B vs xs
  | _, _, .nil => .nil
  | _, _, .cons a r => .cons (m _ _ a) (r.mono m)
theorem ZA.len {α : Type} {A : V → α → Prop} : ∀ {vs : List V} {xs : List α}, ZA A vs xs → vs.length = xs.length
  | _, _, .nil => rfl
  | _, _, .cons _ r => congrArg (· + 1) r.len
theorem ZA.get {α : Type} {A : V → α → Prop} : ∀ {vs : List V} {xs : List α} {i : Nat} {v : V}, ZA A vs xs → vs[i]? = some v → ∃ x, xs[i]? = some x ∧ A v x
  | _, _, _, _, .nil, h => by cases h
  | _, _, 0, _, .cons a r, h => by cases h; exact ⟨_, rfl, a⟩
  | _, _, i + 1, _, .cons a r, h => r.get (i := i) h
theorem ZA.get' {α : Type} {A : V → α → Prop} : ∀ {vs : List V} {xs : List α} {i : Nat} {x : α}, ZA A vs xs → xs[i]? = some x → ∃ v, vs[i]? = some v ∧ A v x
  | _, _, _, _, .nil, h => by cases h
  | _, _, 0, _, .cons a r, h => by cases h; exact ⟨_, rfl, a⟩
  | _, _, i + 1, _, .cons a r, h => r.get' (i := i) h
theorem ZA.erase {α : Type} {A : V → α → Prop} : ∀ {vs : List V} {xs : List α} (i : Nat), ZA A vs xs → ZA A (vs.eraseIdx i) (xs.eraseIdx i)
  | _, _, _, .nil => .nil
  | _, _, 0, .cons a r => r
  | _, _, i + 1, .cons a r => .cons a (r.erase i)
theorem ZA.app {α : Type} {A : V → α → Prop} : ∀ {vs ws : List V} {xs ys : List α}, ZA A vs xs → ZA A ws ys → ZA A (vs ++ ws) (xs ++ ys)
  | _, _, _, _, .nil, h => h
  | _, _, _, _, .cons a r, h => .cons a (r.app h)
theorem ZA.dp {α : Type} {K : PySem.W.Frag} {H : Hp} {dat : α → PyData} {A : V → α → Prop} (d : ∀ v x, A v x → Dp K H v (dat x)) : ∀ {vs : List V} {xs : List α}, ZA A vs xs → DpAll K H vs (xs.map dat)
  | _, _, .nil => .nil
  | _, _, .cons a r => .cons (d _ _ a) (r.dp d)
theorem lay_things {α : Type} {dat : α → PyData} {A : V → α → Prop} (d : ∀ v x, A v x → (dat x).canLay0 = true ∧ (dat x).depth ≤ 60) : ∀ {vs : List V} {xs : List α}, ZA A vs xs → PyData.canLayAll0 (xs.map dat) = true ∧ PyData.depthAll (xs.map dat) ≤ 60
  | _, _, .nil => ⟨rfl, Nat.zero_le _⟩
  | _, _, .cons (x := x) (xs := xs) a r => by
    obtain ⟨h1, h2⟩ := lay_things d r
    obtain ⟨g1, g2⟩ := d _ _ a
    refine ⟨?_, ?_⟩
    · show ((dat x).canLay0 && PyData.canLayAll0 (xs.map dat)) = true
      rw [g1, h1]; rfl
    · show max (dat x).depth (PyData.depthAll (xs.map dat)) ≤ 60
      omega
theorem shaped_things {α : Type} {dat : α → PyData} {A : V → α → Prop} (d : ∀ v x, A v x → (dat x).canLay0 = true ∧ (dat x).depth ≤ 60) {vs : List V} {xs : List α} (h : ZA A vs xs) : SeqAt.shaped (.list (xs.map dat)) = true := by
  obtain ⟨h1, h2⟩ := lay_things d h
  show (PyData.canLayAll0 (xs.map dat) && decide (PyData.depthAll (xs.map dat) + 1 ≤ 64)) = true
  rw [h1, decide_eq_true (by omega)]; rfl
/-- what is known of a kind of things -/
structure Kind (K : PySem.W.Frag) {α : Type} (A : Hp → V → α → Prop) (dat : α → PyData) : Prop where
  same : ∀ {H H' : Hp} {v : V} {x : α}, Tups H H' → A H v x → A H' v x
  dp : ∀ {H : Hp} {v : V} {x : α}, A H v x → Dp K H v (dat x)
  lay : ∀ {H : Hp} {v : V} {x : α}, A H v x → (dat x).canLay0 = true ∧ (dat x).depth ≤ 60
section
variable {P : Program} {w : World} {K : PySem.W.Frag} {mg : Str → Option Value} {base : Heap}
/-! ### terms and literals as things -/
def okT (S : Str → Nat → Prop) (t : Ter) : Prop := t.wf S natVar ∧ t.nest ≤ 8 ∧ t.size ≤ 100000
def AT (S : Str → Nat → Prop) (H : Hp) (v : V) (t : Ter) : Prop := TmAt H v t ∧ okT S t
def okLt (S : Str → Nat → Prop) (x : Lit) : Prop := okT S x.2.1 ∧ okT S x.2.2
def AL (S : Str → Nat → Prop) (H : Hp) (v : V) (x : Lit) : Prop := LitAt H v x ∧ okLt S x
theorem okT_shp {S : Str → Nat → Prop} (SF : SymF S) {t : Ter} (h : okT S t) : SeqAt.shaped t.dat = true := shaped_ter (SF.fine h.1) (by have := h.2.1; omega)
theorem okT_lay {S : Str → Nat → Prop} (SF : SymF S) {t : Ter} (h : okT S t) : t.dat.canLay0 = true ∧ t.dat.depth ≤ 8 := by
  obtain ⟨h1, h2⟩ := lay_ter t (SF.fine h.1)
  exact ⟨h1, by have := h.2.1; omega⟩
theorem kindT {S : Str → Nat → Prop} (SF : SymF S) : Kind K (AT S) Ter.dat :=
  ⟨fun m h => ⟨TmAt.mono m _ _ h.1, h.2⟩, fun h => dp_ter _ _ h.1, fun h => by obtain ⟨h1, h2⟩ := okT_lay SF h.2; exact ⟨h1, by omega⟩⟩
theorem okL_lay {S : Str → Nat → Prop} (SF : SymF S) {x : Lit} (h : okLt S x) : (litD x).canLay0 = true ∧ (litD x).depth ≤ 60 := by
  obtain ⟨a1, a2⟩ := okT_lay SF h.1
  obtain ⟨b1, b2⟩ := okT_lay SF h.2
  refine ⟨?_, ?_⟩
  · show (true && (x.2.1.dat.canLay0 && (x.2.2.dat.canLay0 && true))) = true
    rw [a1, b1]; rfl
  · show max 0 (max x.2.1.dat.depth (max x.2.2.dat.depth 0)) + 1 ≤ 60
    omega
theorem kindL {S : Str → Nat → Prop} (SF : SymF S) : Kind K (AL S) litD :=
  ⟨fun m h => ⟨h.1.mono m, h.2⟩, fun h => dp_lit h.1, fun h => okL_lay SF h.2⟩
theorem AT.mono {S : Str → Nat → Prop} {H H' : Hp} {v : V} {t : Ter} (h : AT S H v t) (m : Same H H') : AT S H' v t := ⟨TmAt.mono m.tups _ _ h.1, h.2⟩
theorem AL.mono {S : Str → Nat → Prop} {H H' : Hp} {v : V} {x : Lit} (h : AL S H v x) (m : Same H H') : AL S H' v x := ⟨h.1.mono m.tups, h.2⟩
def CA (S : Str → Nat → Prop) (H : Hp) (p : Addr) (c : List Lit) : Prop := ∃ xs, H p = some (.tup xs) ∧ ZA (AL S H) xs c
theorem CA.mono {S : Str → Nat → Prop} {H H' : Hp} {p : Addr} {c : List Lit} (h : CA S H p c) (m : Same H H') : CA S H' p c := by
  obtain ⟨xs, e, z⟩ := h
  exact ⟨xs, m _ _ e, z.mono fun v x h => AL.mono h m⟩
theorem CA.tups {S : Str → Nat → Prop} {H H' : Hp} {p : Addr} {c : List Lit} (h : CA S H p c) (m : Tups H H') : CA S H' p c := by
  obtain ⟨xs, e, z⟩ := h
  exact ⟨xs, m _ _ e, z.mono fun v x h => ⟨h.1.mono m, h.2⟩⟩
end

section
variable {P : Program} {w : World} {K : PySem.W.Frag} {mg : Str → Option Value} {base : Heap}
/-! ### matches -/
/-- a term that may be matched against -/
structure UAt (S : Str → Nat → Prop) (H : Hp) (x : V) (u : Ter) : Prop where
  at_ : TmAt H x u
  wf : u.wf S natVar
  ne : u.nest ≤ 100
theorem UAt.mono {S : Str → Nat → Prop} {H H' : Hp} {x : V} {u : Ter} (h : UAt S H x u) (m : Tups H H') : UAt S H' x u := ⟨TmAt.mono m _ _ h.at_, h.wf, h.ne⟩
theorem tupsK {d : Addr} {H H' : Hp} {kvs : List (Key × V)} (a : But d H H') (h : H d = some (.dK kvs)) : Tups H H' := fun b xs e => a b _ (ne_of e h (by intro z; cases z)) e
def spM (S : Str → Nat → Prop) (n : Nat) : Sp := fun vs H Q _ => ∃ (v : V) (p : Ter) (x : V) (u : Ter) (d : Addr) (kvs : List (Key × V)) (B : Sb), vs = [v, x, .ref d] ∧ TmAt H v p ∧ p.wf S natVar ∧ p.nest < n ∧ UAt S H x u ∧ H d = some (.dK kvs) ∧ SB S H kvs B ∧ B.length + p.size ≤ 400000 ∧
  ∀ H' kvs', But d H H' → H' d = some (.dK kvs') → SB S H' kvs' (mt p u B).2 → Q (.bl (mt p u B).1) H'
theorem sc_matches : FnScope ["pattern", "term", "bound", "inner", "other"] ["pattern", "term", "bound"] (defScope s_matches) := ⟨rfl, rfl, rfl, by decide +kernel, rfl, by decide +kernel, by decide +kernel⟩
theorem ok_matches1 {S : Str → Nat → Prop} (SF : SymF S) {f fV : Addr} {fd dV : FuncData} (D : Df K mg "matches" s_matches ["pattern", "term", "bound"] f fd) (DV : Df K mg "is_variable" s_is_variable ["term"] fV dV) (GV : FnOk P w K mg base CX0 1 fV dV ["term"] spIsVar) (ml : mg "len" = none) (mz : mg "zip" = none)
    {n : Nat} (G : FnOk P w K mg base CX0 (n + 1) f fd ["pattern", "term", "bound"] (spM S n)) : FnOk P w K mg base CX0 (n + 1 + 1) f fd ["pattern", "term", "bound"] (spM S (n + 1)) := by
  refine D.F.ok sc_matches (fun vs H Q E h => ?_) (fun cdv A outer s H vs Q E hr h => ?_)
  · obtain ⟨v, p, x, u, d, kvs, B, rfl, _⟩ := h; rfl
  obtain ⟨v, p, x, u, d, kvs, B, rfl, ht, hw, hn, hu, ed, hB, hl, q⟩ := h
  have nd := sc_matches.nd
  have r1 : Room 1 _ := hr.mono (by omega)
  refine ⟨_, pss_cons (ps_if (pt_val (pe_call GV r1 (by rfl) DV.m DV.F.kp DV.b .nil pass0 (pa_cons (pv 0) pa_nil)))
      (C8.pss_cut (ps_if (pt_cmp (pc_dnotin (hu_of hr) (pv 0) (pv 2))) (pss_one (ps_dput (hu_of hr) (pv 2) (pv 0) (pv 1) rfl)) pss_nil)
      (pss_one (ps_ret (pe_cmpR (op_eqDeep (room150 hr)) (pe_dget (hu_of hr) (pv 2) (pv 0) (fun _ _ => rfl)) (pv 1) (nomark _))))) pss_nil)
    (pss_cons (ps_if (PW.pt (pw_or (pt_val (pe_call GV r1 (by rfl) DV.m DV.F.kp DV.b .nil pass0 (pa_cons (pv 1) pa_nil)))
        (pw_or (pt_cmpR op_ne (pe_ix ix_tup (pv 0) pe_int (fun _ _ => rfl)) (pe_ix ix_tup (pv 1) pe_int (fun _ _ => rfl)) (nomark _))
          (pw_or1 (pt_cmpR op_ne (pe_callB call_len_seq (by rfl) ml PySem.boot_len (pa_cons (pv 0) pa_nil)) (pe_callB call_len_seq (by rfl) ml PySem.boot_len (pa_cons (pv 1) pa_nil)) (nomark _)))))) (pss_one (ps_ret pe_bl)) pss_nil)
    (pss_cons (ps_for PassesOwn.never rfl (RZ.pi_zipA (by rfl) mz (pa_cons (pe_slice sl_1 (pv 0) (po_some pe_int) po_none) (pa_cons (pe_slice sl_1 (pv 1) (po_some pe_int) po_none) pa_nil))) (pg_tup rfl (pgs_cons (pg_name (i := 3) nd rfl (.inl rfl)) (pgs_cons (pg_name (i := 4) nd rfl (.inl rfl)) pgs_nil)))
      (pss_one (ps_if (pt_not (pt_val (pe_call G hr (by rfl) D.m D.F.kp D.b .nil pass0 (pa_cons (pv 3) (pa_cons (pv 4) (pa_cons (pv 2) pa_nil)))))) (pss_one (ps_ret pe_bl)) pss_nil)))
    (pss_one (ps_ret pe_bl)))), ?_⟩
  refine ⟨v, rfl, v, p, rfl, ht, _, rfl, ?_⟩
  cases ht with
  | int i =>
    refine iteT ?_
    obtain ⟨r, e, h0⟩ := hw
    cases e
    refine ⟨fun σ H1 => σ = [some (.int i), some x, some (.ref d), none, none] ∧ ∃ kvs' B' y s, But d H H1 ∧ H1 d = some (.dK kvs') ∧ SB S H1 kvs' B' ∧ valV kvs' (.inl i) = some y ∧ Sb.look B' (.inl i) = some s ∧ TmAt H1 y s ∧ s.wf S natVar ∧ s.nest ≤ 100 ∧ UAt S H1 x u ∧ (eT s u, B') = mt (.var (.inl i)) u B, ?_, fun σ H1 h => ?_⟩
    · refine ⟨_, rfl, _, rfl, d, _, rfl, DGet.k (k := .inl i) ed, _, rfl, ?_⟩
      rcases hB.at_.look (.inl i) with ⟨e1, e2⟩ | ⟨y, s, e1, e2, hy⟩
      · rw [e1]
        refine iteT ⟨_, rfl, _, rfl, _, rfl, d, _, rfl, DPut.k (k := .inl i) ed (small6' (by rw [hB.at_.len]; omega)), ?_⟩
        have m := tups_updD (o := .dK (putK kvs (.inl i) x)) ed
        have hB2 : SB S (upd H d (.dK (putK kvs (.inl i) x))) (putK kvs (.inl i) x) (B ++ [(.inl i, u)]) := ⟨(hB.at_.mono m).putN e2 (TmAt.mono m _ _ hu.at_), hB.ok.snoc h0 hu.wf hu.ne e2⟩
        have lk : Sb.look (B ++ [(.inl i, u)]) (.inl i) = some u := by
          rw [look_app, e2]
          show (if (Sum.inl i : Key) = .inl i then some u else none) = _
          rw [if_pos rfl]
        rcases hB2.at_.look (.inl i) with ⟨_, z⟩ | ⟨y, s, z1, z2, z3⟩
        · rw [lk] at z; cases z
        · have es : s = u := by rw [lk] at z2; exact (Option.some.inj z2).symm
          exact ⟨rfl, _, _, y, s, But.upd, upd_same, hB2, z1, z2, z3, es ▸ hu.wf, es ▸ hu.ne, hu.mono m, by rw [mt_new e2, es, eT_refl]⟩
      · rw [e1]
        obtain ⟨_, hw2, hn2⟩ := hB.ok.al _ (slook_mem e2)
        exact iteF ⟨rfl, kvs, B, y, s, But.refl _ _, ed, hB, e1, e2, hy, hw2, hn2, hu, (mt_int e2).symm⟩
    · obtain ⟨rfl, kvs', B', y, s, b1, e1, hB1, v1, lk, hy, sw, sn, hu1, em⟩ := h
      obtain ⟨c1, d1⟩ := SF.lay sw
      obtain ⟨c2, d2⟩ := SF.lay hu1.wf
      refine ⟨_, rfl, _, rfl, d, y, rfl, ?_, _, rfl, s.dat, u.dat, dp_ter _ _ hy, dp_ter _ _ hu1.at_, c1, c2, by omega, ?_⟩
      · have := DGet.k (k := .inl i) e1
        rw [v1] at this
        exact this
      · have e2 := congrArg Prod.snd em
        have e3 := congrArg Prod.fst em
        have q := q H1 kvs' b1 e1 (by rw [← e2]; exact hB1)
        rw [← e3] at q
        exact q
  | str z =>
    obtain ⟨r, e, h0⟩ := hw
    cases e
  | @ap a g xs as e hs =>
    have hn : Ter.nests as + 1 < n + 1 := hn
    have ls := hs.len
    refine iteF ⟨_, rfl, x, u, rfl, hu.at_, _, rfl, ?_⟩
    obtain ⟨hu1, hu2, hu3⟩ := hu
    cases hu1 with
    | int j => exact iteT (iteT (q H _ (But.refl _ _) ed hB))
    | str j => exact iteT (iteT (q H _ (But.refl _ _) ed hB))
    | @ap b h ys bs eb hbs =>
      have lb := hbs.len
      have qn : ∀ (c : ¬ (g = h ∧ as.length = bs.length)), Q (.bl false) H := fun c => by
        have := q H kvs (But.refl _ _) ed (by rw [mt_ap, if_neg c]; exact hB)
        rw [mt_ap, if_neg c] at this
        exact this
      refine iteF ⟨_, rfl, a, _, 0, .str g, rfl, rfl, .inl (.inl e), head_at, _, rfl, b, _, 0, .str h, rfl, rfl, .inl (.inl eb), head_at, rfl, _, rfl, ite2 (fun z => iteT (qn fun c => ?_)) (fun z => ?_)⟩
      · rw [c.1] at z
        rw [decide_eq_true (rfl : V.str h = V.str h)] at z
        cases z
      have gh : g = h := by
        by_cases c : g = h
        · exact c
        · rw [decide_eq_false (fun y : V.str g = V.str h => c (V.str.inj y))] at z
          exact absurd rfl z
      refine ⟨_, rfl, a, _, rfl, .inr (.inl (.inl e)), _, rfl, b, _, rfl, .inr (.inl (.inl eb)), rfl, _, rfl, ite2 (fun z => qn fun c => ?_) (fun z => ?_)⟩
      · have l1 : (V.str g :: xs).length = (V.str h :: ys).length := by rw [List.length_cons, List.length_cons, ls, lb, c.2]
        rw [l1, decide_eq_true rfl] at z
        cases z
      have hl1 : as.length = bs.length := by
        by_cases c : as.length = bs.length
        · exact c
        · have : ¬ V.int (((V.str g :: xs).length : Nat) : Int) = V.int (((V.str h :: ys).length : Nat) : Int) := fun y => by
            have y := V.int.inj y
            rw [List.length_cons, List.length_cons, ls, lb] at y
            omega
          rw [decide_eq_false this] at z
          exact absurd rfl z
      have em : mt (.ap g as) (.ap h bs) B = mts as bs B := by rw [mt_ap, if_pos ⟨gh, hl1⟩]
      rw [em] at q
      have hl : B.length + (Ter.sizes as + 1) ≤ 400000 := hl
      have hub : Ter.nests bs + 1 ≤ 100 := hu3
      refine ⟨.ref a, rfl, 1, rfl, a, .str g, xs, rfl, rfl, rfl, .inl (.inl e), fun p1 np1 => ?_⟩
      have s1 := same_new np1 (.tup xs)
      refine ⟨.ref b, rfl, 1, rfl, b, .str h, ys, rfl, rfl, rfl, .inl (.inl (s1 _ _ eb)), fun p2 np2 => ?_⟩
      have s2 := same_new np2 (.tup ys)
      refine ⟨p1, p2, xs, ys, rfl, .inr ⟨.inl (.inl (s2 _ _ upd_same)), .inl (.inl upd_same), RZ.for_zipT (xs := xs) (ys := ys) (by omega) (fun i σ H3 => ∃ kvs' B' y3 y4, σ = [some (.ref a), some (.ref b), some (.ref d), y3, y4] ∧ H3 p1 = some (.tup xs) ∧ H3 p2 = some (.tup ys) ∧ But d H H3 ∧ H3 d = some (.dK kvs') ∧ mts as bs B = mts (as.drop i) (bs.drop i) B' ∧ SB S H3 kvs' B' ∧ B'.length + Ter.sizes (as.drop i) ≤ 400000) ⟨kvs, B, none, none, rfl, s2 _ _ upd_same, upd_same, (s1.trans s2).but, (s1.trans s2) _ _ ed, rfl, hB.mono (s1.trans s2).tups, by show B.length + Ter.sizes as ≤ _; omega⟩ (fun i σ H3 h => ?_) (fun i x y T σ H3 hx hy h nT => ?_) (fun σ H3 h => ?_)⟩⟩
      · obtain ⟨_, _, _, _, _, e1, e2, _⟩ := h
        exact ⟨.inl (.inl e1), .inl (.inl e2)⟩
      · obtain ⟨kvs', B', y3, y4, rfl, e1, e2, b3, ed3, eM, hB3, hl3⟩ := h
        obtain ⟨t1, et, hx1⟩ := hs.get hx
        obtain ⟨u1, eu, hy1⟩ := hbs.get hy
        have n1 := nest_le_of et
        have n2 := nest_le_of eu
        have wu := wfs_get hu2.2 eu
        have m3 := tupsK b3 ed
        have sT := same_new nT (.tup [x, y])
        have mT := m3.trans sT.tups
        have gu : UAt S (upd H3 T (.tup [x, y])) y u1 := ⟨TmAt.mono mT _ _ hy1, wu, by omega⟩
        have li := (List.getElem?_eq_some_iff.mp et).1
        have zz : Ter.sizes (as.drop i) = t1.size + Ter.sizes (as.drop (i + 1)) := by
          rw [List.drop_eq_getElem_cons li, (List.getElem?_eq_some_iff.mp et).2]
          rfl
        refine ⟨T, [x, y], rfl, .inl (.inl upd_same), rfl, x, [y], rfl, y, [], rfl, rfl, ?_⟩
        refine ⟨_, rfl, _, rfl, _, rfl, x, t1, y, u1, d, kvs', B', rfl, TmAt.mono mT _ _ hx1, wfs_get hw.2 et, by omega, gu, sT _ _ ed3, hB3.mono sT.tups, by omega, fun H5 kvs5 b5 e5 hB5 => ?_⟩
        have b6 := b3.trans (sT.but.trans b5)
        have st := mts_at eM et eu
        obtain ⟨_, k2⟩ := mt_ok t1 u1 B' (wfs_get hw.2 et) wu (by omega) hB3.ok
        cases hr1 : (mt t1 u1 B').1 with
        | false =>
          refine ⟨_, rfl, iteT ?_⟩
          rw [hr1, if_neg Bool.false_ne_true] at st
          rw [st] at q
          exact q H5 kvs5 b6 e5 hB5
        | true =>
          rw [hr1, if_pos rfl] at st
          have p1d : p1 ≠ d := fun z => by rw [z, ed3] at e1; cases e1
          have p2d : p2 ≠ d := fun z => by rw [z, ed3] at e2; cases e2
          exact ⟨_, rfl, iteF ⟨_, _, _, _, rfl, b5 _ _ p1d (sT _ _ e1), b5 _ _ p2d (sT _ _ e2), b6, e5, st, hB5, by omega⟩⟩
      · obtain ⟨kvs', B', y3, y4, rfl, e1, e2, b3, ed3, eM, hB3, hl3⟩ := h
        rw [ls, List.drop_length] at eM
        have eM : mts as bs B = (true, B') := eM
        rw [eM] at q
        exact q H3 kvs' b3 ed3 hB3
theorem ok_matches {S : Str → Nat → Prop} (SF : SymF S) {f fV : Addr} {fd dV : FuncData} (D : Df K mg "matches" s_matches ["pattern", "term", "bound"] f fd) (DV : Df K mg "is_variable" s_is_variable ["term"] fV dV) (GV : FnOk P w K mg base CX0 1 fV dV ["term"] spIsVar) (ml : mg "len" = none) (mz : mg "zip" = none) :
    ∀ n : Nat, FnOk P w K mg base CX0 (n + 1) f fd ["pattern", "term", "bound"] (spM S n)
  | 0 => by
    have no : ∀ vs H Q E, ¬ spM S 0 vs H Q E := fun vs H Q E h => by
      obtain ⟨_, _, _, _, _, _, _, _, _, _, hk, _⟩ := h
      omega
    exact ⟨fun vs H Q E h => absurd h (no vs H Q E), fun A outer s H args us vs Q E _ _ _ _ h => absurd h (no vs H Q E)⟩
  | n + 1 => ok_matches1 SF D DV GV ml mz (ok_matches SF D DV GV ml mz n)
/-! ### match_all, match -/
def mtAll : List (Ter × Ter) → Sb → Option Sb
  | [], B => some B
  | e :: r, B => if (mt e.1 e.2 B).1 = true then mtAll r (mt e.1 e.2 B).2 else none
/-- a pair of a pattern and a term -/
def PrA (S : Str → Nat → Prop) (N : Nat) (H : Hp) (v : V) (e : Ter × Ter) : Prop := ∃ (p : Addr) (x y : V), v = .ref p ∧ H p = some (.tup [x, y]) ∧ TmAt H x e.1 ∧ e.1.wf S natVar ∧ e.1.nest < N ∧ e.1.size ≤ 100000 ∧ UAt S H y e.2
theorem PrA.mono {S : Str → Nat → Prop} {N : Nat} {H H' : Hp} {v : V} {e : Ter × Ter} (h : PrA S N H v e) (m : Tups H H') : PrA S N H' v e := by
  obtain ⟨p, x, y, e0, e1, h1, h2, h3, h4, h5⟩ := h
  exact ⟨p, x, y, e0, m _ _ e1, TmAt.mono m _ _ h1, h2, h3, h4, h5.mono m⟩
theorem mtAll_at {L : List (Ter × Ter)} {B0 B : Sb} {i : Nat} {e : Ter × Ter} (h : mtAll L B0 = mtAll (L.drop i) B) (he : L[i]? = some e) :
    mtAll L B0 = if (mt e.1 e.2 B).1 = true then mtAll (L.drop (i + 1)) (mt e.1 e.2 B).2 else none := by
  obtain ⟨la, ea⟩ := List.getElem?_eq_some_iff.mp he
  rw [h, List.drop_eq_getElem_cons la, ea]
  rfl
structure Dk (K : PySem.W.Frag) (mg : Str → Option Value) (x : Str) (st : Stmt) (ps : List Str) (n : Nat) (f : Addr) (fd : FuncData) : Prop where
  F : Fun K x x st f fd
  b : ∃ ds, Vals [V.non] ds ∧ Binds K fd ps ds
  kb : KBn K fd ps n ["known"] (fun us ws => us ++ ws) (fun vs zs => vs ++ zs)
  m : mg x = some (.ref f)
def spAll (S : Str → Nat → Prop) (N : Nat) : Sp := fun vs H Q _ => ∃ (a : Addr) (xs : List V) (L : List (Ter × Ter)), vs = [.ref a, .non] ∧ H a = some (.lst xs) ∧ L.length ≤ 3 ∧ ZA (PrA S N H) xs L ∧
  (mtAll L [] = none → ∀ H', Same H H' → Q .non H') ∧ ∀ B', mtAll L [] = some B' → ∀ (p : Addr) (kvs : List (Key × V)) (H' : Hp), Same H H' → H p = none → H' p = some (.dK kvs) → SB S H' kvs B' → Q (.ref p) H'
theorem sc_match_all : FnScope ["pairs", "known", "bound", "pattern", "term"] ["pairs", "known"] (defScope s_match_all) := ⟨rfl, rfl, rfl, by decide +kernel, rfl, by decide +kernel, by decide +kernel⟩
theorem ok_match_all {S : Str → Nat → Prop} {N : Nat} {f fM : Addr} {fd dM : FuncData} (D : Dk K mg "match_all" s_match_all ["pairs", "known"] 1 f fd) (DM : Df K mg "matches" s_matches ["pattern", "term", "bound"] fM dM) (GM : FnOk P w K mg base CX0 (N + 1) fM dM ["pattern", "term", "bound"] (spM S N)) (md : mg "dict" = none) : FnOk P w K mg base CX0 (N + 2) f fd ["pairs", "known"] (spAll S N) := by
  refine D.F.ok sc_match_all (fun vs H Q E h => ?_) (fun cdv A outer s H vs Q E hr h => ?_)
  · obtain ⟨a, xs, L, rfl, _⟩ := h; rfl
  obtain ⟨a, xs, L, rfl, ea, hL, hP, q0, q1⟩ := h
  have nd := sc_match_all.nd
  refine ⟨_, pss_cons (ps_set (i := 2) nd rfl (.inl rfl) (pe_ifExp (pt_cmpR op_isN (pv 1) pe_non (nomark _)) pe_dnewK (pe_callTy call_dictD (by rfl) md (by decide +kernel) (pa_cons (pv 1) pa_nil))))
    (pss_cons (ps_for PassesOwn.never rfl (pi_list (pv 0)) (pg_tup rfl (pgs_cons (pg_name (i := 3) nd rfl (.inl rfl)) (pgs_cons (pg_name (i := 4) nd rfl (.inl rfl)) pgs_nil)))
      (pss_one (ps_if (pt_not (pt_val (pe_call GM hr (by rfl) DM.m DM.F.kp DM.b .nil pass0 (pa_cons (pv 3) (pa_cons (pv 4) (pa_cons (pv 2) pa_nil)))))) (pss_one (ps_ret pe_non)) pss_nil)))
    (pss_one (ps_ret (pv 2)))), ?_⟩
  refine ⟨_, rfl, rfl, _, rfl, iteT fun p np => ?_⟩
  have s1 := same_new np (.dK [])
  have lz := hP.len
  refine ⟨.ref a, rfl, a, rfl, ⟨_, .inl (.inl (s1 _ _ ea))⟩, for_list (xs := xs) (fun i σ H2 => ∃ kvs B' y3 y4, σ = [some (.ref a), some .non, some (.ref p), y3, y4] ∧ Same H H2 ∧ H2 p = some (.dK kvs) ∧ mtAll L [] = mtAll (L.drop i) B' ∧ SB S H2 kvs B' ∧ B'.length ≤ i * 100000) ⟨[], [], none, none, rfl, s1, upd_same, rfl, SB.nil, Nat.zero_le _⟩ (fun i σ H2 _ h => ?_) (fun i x σ H2 hx h => ?_) (fun σ H2 h => ?_)⟩
  · obtain ⟨_, _, _, _, _, sm, _⟩ := h
    exact .inl (.inl (sm _ _ ea))
  · obtain ⟨kvs, B', y3, y4, rfl, sm, ep, eM, hB2, hl2⟩ := h
    obtain ⟨e, he, pr⟩ := hP.get hx
    have li := (List.getElem?_eq_some_iff.mp he).1
    obtain ⟨g, x1, x2, rfl, eg, t1, w1, n1, z1, u1⟩ := pr.mono sm.tups
    refine ⟨g, [x1, x2], rfl, .inl (.inl eg), rfl, _, _, rfl, _, _, rfl, rfl, ?_⟩
    refine ⟨_, rfl, _, rfl, _, rfl, x1, e.1, x2, e.2, p, kvs, B', rfl, t1, w1, n1, u1, ep, hB2, by omega, fun H5 kvs5 b5 e5 hB5 => ?_⟩
    have sm5 := But.same np sm b5
    have st := mtAll_at eM he
    obtain ⟨_, k2⟩ := mt_ok e.1 e.2 B' w1 u1.wf u1.ne hB2.ok
    cases hr1 : (mt e.1 e.2 B').1 with
    | false =>
      refine ⟨_, rfl, iteT ?_⟩
      rw [hr1, if_neg Bool.false_ne_true] at st
      exact q0 st H5 sm5
    | true =>
      rw [hr1, if_pos rfl] at st
      exact ⟨_, rfl, iteF ⟨_, _, _, _, rfl, sm5, e5, st, hB5, by omega⟩⟩
  · obtain ⟨kvs, B', y3, y4, rfl, sm, ep, eM, hB2, hl2⟩ := h
    rw [lz, List.drop_length] at eM
    exact ⟨_, rfl, q1 B' eM p kvs H2 sm np ep hB2⟩
end

section
variable {P : Program} {w : World} {K : PySem.W.Frag} {mg : Str → Option Value} {base : Heap}
/-! ### _law_match -/
def spLM (S : Str → Nat → Prop) (n : Nat) : Sp := fun vs H Q _ => ∃ (v : V) (p : Ter) (x : V) (u : Ter) (d : Addr) (kvs : List (Key × V)) (B : Sb), vs = [v, x, .ref d] ∧ TmAt H v p ∧ p.wf S natVar ∧ p.nest < n ∧ UAt S H x u ∧ H d = some (.dK kvs) ∧ SB S H kvs B ∧ B.length + p.size ≤ 400000 ∧
  ((mt p u B).1 = false → ∀ H', Same H H' → Q .non H') ∧ ((mt p u B).1 = true → ∀ (d' : Addr) (kvs' : List (Key × V)) (H' : Hp), Same H H' → H' d' = some (.dK kvs') → SB S H' kvs' (mt p u B).2 → Q (.ref d') H')
theorem sc_law_match : FnScope ["pattern", "term", "known", "grown", "k"] ["pattern", "term", "known"] (defScope s__law_match) := ⟨rfl, rfl, rfl, by decide +kernel, rfl, by decide +kernel, by decide +kernel⟩
theorem ok_law_match1 {S : Str → Nat → Prop} (SF : SymF S) (S2 : ∀ f n, S f n → n ≤ 1000) {f : Addr} {fd : FuncData} (D : Df K mg "_law_match" s__law_match ["pattern", "term", "known"] f fd) (m_isinstance : mg "isinstance" = none) (m_tuple : mg "tuple" = none) (m_len : mg "len" = none) (m_range : mg "range" = none) (m_dict : mg "dict" = none)
    {n : Nat} (G : FnOk P w K mg base CX0 n f fd ["pattern", "term", "known"] (spLM S n)) : FnOk P w K mg base CX0 (n + 1) f fd ["pattern", "term", "known"] (spLM S (n + 1)) := by
  refine D.F.ok sc_law_match (fun vs H Q E h => ?_) (fun cdv A outer s H vs Q E hr h => ?_)
  · obtain ⟨v, p, x, u, d, kvs, B, rfl, _⟩ := h; rfl
  obtain ⟨v, p, x, u, d, kvs, B, rfl, ht, hw, hn, hu, ed, hB, hl, q0, q1⟩ := h
  have nd := sc_law_match.nd
  refine ⟨_, (pss_cons (ps_if (pt_not (pt_val (pe_callB call_isiTer (by rfl) m_isinstance (by decide +kernel) (pa_cons (pv 0) (pa_cons (pe_bltn (v := .ty "tuple") (by rfl) m_tuple (by decide +kernel) rfl) pa_nil)))))
      (pss_cons (ps_if (pt_cmp (pc_din (hu_of hr) (pv 0) (pv 2)))
      (pss_cons (ps_if (pt_cmpR (op_eqDeep (room150 hr)) (pe_dget (hu_of hr) (pv 2) (pv 0) (fun _ _ => rfl)) (pv 1) (nomark _))
      (pss_one (ps_ret (pv 2)))
      pss_nil)
    (pss_one (ps_ret pe_non)))
      pss_nil)
    (pss_cons (ps_set (i := 3) nd rfl (.inl rfl) (pe_callTy call_dictD (by rfl) m_dict (by decide +kernel) (pa_cons (pv 2) pa_nil)))
    (pss_cons (ps_dput (hu_of hr) (pv 3) (pv 0) (pv 1) rfl)
    (pss_one (ps_ret (pv 3))))))
      pss_nil)
    (pss_cons (ps_if (PW.pt (pw_or (pt_not (pt_val (pe_callB call_isiTer (by rfl) m_isinstance (by decide +kernel) (pa_cons (pv 1) (pa_cons (pe_bltn (v := .ty "tuple") (by rfl) m_tuple (by decide +kernel) rfl) pa_nil))))) (pw_or (pt_cmpR op_ne (pe_ix ix_tup (pv 0) pe_int (fun _ _ => rfl)) (pe_ix ix_tup (pv 1) pe_int (fun _ _ => rfl)) (nomark _)) (pw_or1 (pt_cmpR op_ne (pe_callB call_len_seq (by rfl) m_len PySem.boot_len (pa_cons (pv 0) pa_nil)) (pe_callB call_len_seq (by rfl) m_len PySem.boot_len (pa_cons (pv 1) pa_nil)) (nomark _))))))
      (pss_one (ps_ret pe_non))
      pss_nil)
    (pss_cons (ps_for PassesOwn.never rfl (pi_range2 (by rfl) m_range (pa_cons pe_int (pa_cons (pe_callB call_len_seq (by rfl) m_len PySem.boot_len (pa_cons (pv 0) pa_nil)) pa_nil))) (pg_name (i := 4) nd rfl (.inl rfl))
      (pss_cons (ps_set (i := 2) nd rfl (.inl rfl) (pe_call G hr (by rfl) D.m D.F.kp D.b .nil pass0 (pa_cons (pe_ix ix_tup (pv 0) (pv 4) (fun _ _ => rfl)) (pa_cons (pe_ix ix_tup (pv 1) (pv 4) (fun _ _ => rfl)) (pa_cons (pv 2) pa_nil)))))
    (pss_one (ps_if (pt_cmpR op_isN (pv 2) pe_non (nomark _))
      (pss_one (ps_ret pe_non))
      pss_nil))))
    (pss_one (ps_ret (pv 2)))))), ?_⟩
  refine ⟨v, rfl, v, p, rfl, ht, _, rfl, ?_⟩
  cases ht with
  | int i =>
    refine iteT ?_
    obtain ⟨r, e, h0⟩ := hw
    cases e
    refine ⟨_, rfl, _, rfl, d, _, rfl, DGet.k (k := .inl i) ed, _, rfl, ?_⟩
    rcases hB.at_.look (.inl i) with ⟨e1, e2⟩ | ⟨y, s, e1, e2, hy⟩
    · rw [e1]
      refine iteF ⟨_, rfl, d, _, rfl, .inl ed, fun g ng => ?_⟩
      have s1 := same_new ng (.dK kvs)
      refine ⟨_, rfl, _, rfl, _, rfl, g, _, rfl, DPut.k (k := .inl i) (kvs := kvs) upd_same (small6' (by rw [hB.at_.len]; omega)), ?_⟩
      have s2 : Same H (upd (upd H g (.dK kvs)) g (.dK (putK kvs (.inl i) x))) := But.same ng s1 But.upd
      have m := s2.tups
      have em := mt_new (u := u) e2
      rw [em] at q1
      exact ⟨_, rfl, q1 rfl g _ _ s2 upd_same ⟨(hB.at_.mono m).putN e2 (TmAt.mono m _ _ hu.at_), hB.ok.snoc h0 hu.wf hu.ne e2⟩⟩
    · rw [e1]
      obtain ⟨_, hw2, hn2⟩ := hB.ok.al _ (slook_mem e2)
      have hn2 : s.nest ≤ 100 := hn2
      have hw2 : s.wf S natVar := hw2
      obtain ⟨c1, d1⟩ := SF.lay hw2
      obtain ⟨c2, d2⟩ := SF.lay hu.wf
      have em := mt_int (u := u) e2
      rw [em] at q0 q1
      refine iteT ⟨_, rfl, _, rfl, d, y, rfl, ?_, _, rfl, s.dat, u.dat, dp_ter _ _ hy, dp_ter _ _ hu.at_, c1, c2, (show s.dat.depth ≤ 150 from by omega), _, rfl, ?_⟩
      · have := DGet.k (k := .inl i) ed
        rw [e1] at this
        exact this
      show if eT s u = true then _ else _
      cases ee : eT s u with
      | true => rw [ee] at q1; exact iteT ⟨_, rfl, q1 rfl d kvs H (Same.refl _) ed hB⟩
      | false => rw [ee] at q0; exact iteF (q0 rfl H (Same.refl _))
  | str z =>
    obtain ⟨r, e, h0⟩ := hw
    cases e
  | @ap a g xs as e hs =>
    have hn : Ter.nests as + 1 < n + 1 := hn
    have ls := hs.len
    refine iteF ⟨_, rfl, x, u, rfl, hu.at_, _, rfl, ?_⟩
    obtain ⟨hu1, hu2, hu3⟩ := hu
    cases hu1 with
    | int j => exact iteT (iteT (q0 rfl H (Same.refl _)))
    | str j => exact iteT (iteT (q0 rfl H (Same.refl _)))
    | @ap b h ys bs eb hbs =>
      have lb := hbs.len
      have qn : ∀ (c : ¬ (g = h ∧ as.length = bs.length)), Q .non H := fun c => q0 (by rw [mt_ap, if_neg c]) H (Same.refl _)
      refine iteF ⟨_, rfl, a, _, 0, .str g, rfl, rfl, .inl (.inl e), head_at, _, rfl, b, _, 0, .str h, rfl, rfl, .inl (.inl eb), head_at, rfl, _, rfl, ite2 (fun z => iteT (qn fun c => ?_)) (fun z => ?_)⟩
      · rw [c.1] at z
        rw [decide_eq_true (rfl : V.str h = V.str h)] at z
        cases z
      have gh : g = h := by
        by_cases c : g = h
        · exact c
        · rw [decide_eq_false (fun y : V.str g = V.str h => c (V.str.inj y))] at z
          exact absurd rfl z
      refine ⟨_, rfl, a, _, rfl, .inr (.inl (.inl e)), _, rfl, b, _, rfl, .inr (.inl (.inl eb)), rfl, _, rfl, ite2 (fun z => qn fun c => ?_) (fun z => ?_)⟩
      · have l1 : (V.str g :: xs).length = (V.str h :: ys).length := by rw [List.length_cons, List.length_cons, ls, lb, c.2]
        rw [l1, decide_eq_true rfl] at z
        cases z
      have hl1 : as.length = bs.length := by
        by_cases c : as.length = bs.length
        · exact c
        · have : ¬ V.int (((V.str g :: xs).length : Nat) : Int) = V.int (((V.str h :: ys).length : Nat) : Int) := fun y => by
            have y := V.int.inj y
            rw [List.length_cons, List.length_cons, ls, lb] at y
            omega
          rw [decide_eq_false this] at z
          exact absurd rfl z
      have em : mt (.ap g as) (.ap h bs) B = mts as bs B := by rw [mt_ap, if_pos ⟨gh, hl1⟩]
      rw [em] at q0 q1
      have hl : B.length + (Ter.sizes as + 1) ≤ 400000 := hl
      have hub : Ter.nests bs + 1 ≤ 100 := hu3
      have l2 := S2 _ _ hw.1
      have en : ((((V.str g :: xs).length : Nat) : Int) - 1).toNat = as.length := by rw [List.length_cons, ls]; omega
      have e5 : (((V.str g :: xs).length : Nat) : Int) = (as.length : Int) + 1 := by rw [List.length_cons, ls]; omega
      refine ⟨_, rfl, a, _, rfl, .inr (.inl (.inl e)), 1, _, rfl, ⟨by decide, by decide, by rw [e5]; omega, by rw [e5]; omega⟩, ?_⟩
      rw [en]
      refine for_range (lo := 1) (n := as.length) (fun i σ H3 => ∃ d' kvs' B' y4, σ = [some (.ref a), some (.ref b), some (.ref d'), none, y4] ∧ Same H H3 ∧ H3 d' = some (.dK kvs') ∧ mts as bs B = mts (as.drop i) (bs.drop i) B' ∧ SB S H3 kvs' B' ∧ B'.length + Ter.sizes (as.drop i) ≤ 400000) ⟨d, kvs, B, none, rfl, Same.refl _, ed, rfl, hB, by show B.length + Ter.sizes as ≤ _; omega⟩ (fun i σ H3 hi h => ?_) (fun σ H3 h => ?_)
      · obtain ⟨d', kvs', B', y4, rfl, b3, ed3, eM, hB3, hl3⟩ := h
        have ix : i < xs.length := by omega
        have ib : i < ys.length := by omega
        have hx : xs[i]? = some xs[i] := List.getElem?_eq_getElem ix
        have hy : ys[i]? = some ys[i] := List.getElem?_eq_getElem ib
        generalize xs[i] = x at hx
        generalize ys[i] = y at hy
        obtain ⟨t1, et, hx1⟩ := hs.get hx
        obtain ⟨u1, eu, hy1⟩ := hbs.get hy
        have n1 := nest_le_of et
        have n2 := nest_le_of eu
        have wu := wfs_get hu2.2 eu
        have gu : UAt S H3 y u1 := ⟨TmAt.mono b3.tups _ _ hy1, wu, by omega⟩
        have li := (List.getElem?_eq_some_iff.mp et).1
        have zz : Ter.sizes (as.drop i) = t1.size + Ter.sizes (as.drop (i + 1)) := by
          rw [List.drop_eq_getElem_cons li, (List.getElem?_eq_some_iff.mp et).2]
          rfl
        have ci : (1 : Int) + (i : Nat) = ((i + 1 : Nat) : Int) := by omega
        rw [ci]
        refine ⟨_, rfl, _, rfl, a, _, _, x, rfl, rfl, .inl (.inl (b3 _ _ e)), atI_nat (j := i + 1) hx, _, rfl, _, rfl, b, _, _, y, rfl, rfl, .inl (.inl (b3 _ _ eb)), atI_nat (j := i + 1) hy, _, rfl, ?_⟩
        have st := mts_at eM et eu
        obtain ⟨_, k2⟩ := mt_ok t1 u1 B' (wfs_get hw.2 et) wu (by omega) hB3.ok
        refine ⟨x, t1, y, u1, d', kvs', B', rfl, TmAt.mono b3.tups _ _ hx1, wfs_get hw.2 et, by omega, gu, ed3, hB3, by omega, fun hr1 H5 s5 => ?_, fun hr1 d5 kvs5 H5 s5 e5 hB5 => ?_⟩
        · rw [hr1, if_neg Bool.false_ne_true] at st
          rw [st] at q0
          exact ⟨_, rfl, rfl, _, rfl, iteT (q0 rfl H5 (b3.trans s5))⟩
        · rw [hr1, if_pos rfl] at st
          exact ⟨_, rfl, rfl, _, rfl, iteF ⟨d5, kvs5, _, _, rfl, b3.trans s5, e5, st, hB5, by omega⟩⟩
      · obtain ⟨d', kvs', B', y4, rfl, b3, ed3, eM, hB3, hl3⟩ := h
        rw [List.drop_length] at eM
        have eM : mts as bs B = (true, B') := eM
        rw [eM] at q1
        exact ⟨_, rfl, q1 rfl d' kvs' H3 b3 ed3 hB3⟩
theorem ok_law_match {S : Str → Nat → Prop} (SF : SymF S) (S2 : ∀ f n, S f n → n ≤ 1000) {f : Addr} {fd : FuncData} (D : Df K mg "_law_match" s__law_match ["pattern", "term", "known"] f fd) (m_isinstance : mg "isinstance" = none) (m_tuple : mg "tuple" = none) (m_len : mg "len" = none) (m_range : mg "range" = none) (m_dict : mg "dict" = none) :
    ∀ n : Nat, FnOk P w K mg base CX0 n f fd ["pattern", "term", "known"] (spLM S n)
  | 0 => by
    have no : ∀ vs H Q E, ¬ spLM S 0 vs H Q E := fun vs H Q E h => by
      obtain ⟨_, _, _, _, _, _, _, _, _, _, hk, _⟩ := h
      omega
    exact ⟨fun vs H Q E h => absurd h (no vs H Q E), fun A outer s H args us vs Q E _ _ _ _ h => absurd h (no vs H Q E)⟩
  | n + 1 => ok_law_match1 SF S2 D m_isinstance m_tuple m_len m_range m_dict (ok_law_match SF S2 D m_isinstance m_tuple m_len m_range m_dict n)
end

section
variable {P : Program} {w : World} {K : PySem.W.Frag} {mg : Str → Option Value} {base : Heap}
/-! ### match -/
def spMat (S : Str → Nat → Prop) (N : Nat) : Sp := fun vs H Q _ => ∃ (v x : V) (p u : Ter), vs = [v, x, .non] ∧ TmAt H v p ∧ p.wf S natVar ∧ p.nest < N ∧ p.size ≤ 100000 ∧ UAt S H x u ∧
  ((mt p u []).1 = false → ∀ H', Same H H' → Q .non H') ∧ ((mt p u []).1 = true → ∀ (d : Addr) (kvs : List (Key × V)) (H' : Hp), Same H H' → H d = none → H' d = some (.dK kvs) → SB S H' kvs (mt p u []).2 → Q (.ref d) H')
theorem sc_match : FnScope ["pattern", "term", "known"] ["pattern", "term", "known"] (defScope s_match) := ⟨rfl, rfl, rfl, by decide +kernel, rfl, by decide +kernel, by decide +kernel⟩
theorem ok_match {S : Str → Nat → Prop} {N : Nat} {f fA : Addr} {fd dA : FuncData} (D : Dk K mg "match" s_match ["pattern", "term", "known"] 2 f fd) (DA : Dk K mg "match_all" s_match_all ["pairs", "known"] 1 fA dA) (GA : FnOk P w K mg base CX0 (N + 2) fA dA ["pairs", "known"] (spAll S N)) : FnOk P w K mg base CX0 (N + 3) f fd ["pattern", "term", "known"] (spMat S N) := by
  refine D.F.ok sc_match (fun vs H Q E h => ?_) (fun cdv A outer s H vs Q E hr h => ?_)
  · obtain ⟨v, x, p, u, rfl, _⟩ := h; rfl
  obtain ⟨v, x, p, u, rfl, hp, wp, np, zp, hu, q0, q1⟩ := h
  have nd := sc_match.nd
  refine ⟨_, pss_one (ps_ret (pe_callN GA hr (by rfl) DA.m DA.F.kp DA.kb pass0 (pa_cons (pe_lst (pa_cons (pe_tup (pa_cons (pv 0) (pa_cons (pv 1) pa_nil))) pa_nil)) pa_nil) (pk_cons (pv 2) pk_nil))), ?_⟩
  refine ⟨_, rfl, _, rfl, by show 2 ≤ sizeLine; decide, fun t nt => ?_⟩
  have s1 := same_new nt (.tup [v, x])
  refine ⟨by show 1 ≤ sizeLine; decide, fun a na => ?_⟩
  have s2 := same_new na (.lst [.ref t])
  have sm := s1.trans s2
  have e1 : mtAll [(p, u)] [] = if (mt p u []).1 = true then some (mt p u []).2 else none := rfl
  refine ⟨_, rfl, rfl, rfl, a, [.ref t], [(p, u)], rfl, upd_same, by show 1 ≤ 3; decide, .cons ⟨t, v, x, rfl, s2 _ _ upd_same, TmAt.mono sm.tups _ _ hp, wp, np, zp, hu.mono sm.tups⟩ .nil, fun e H' s' => ?_, fun B' e d kvs H' s' nd' ed hB => ?_⟩
  · cases c : (mt p u []).1 with
    | false => exact q0 c H' (sm.trans s')
    | true => rw [e1, c, if_pos rfl] at e; cases e
  · cases c : (mt p u []).1 with
    | false => rw [e1, c, if_neg Bool.false_ne_true] at e; cases e
    | true =>
      rw [e1, c, if_pos rfl] at e
      cases e
      exact q1 c d kvs H' (sm.trans s') (sm.free nd') ed hB
end

end K76
namespace K76
open PySem PySem.Spec PyProof.Rows L2 Own HT
section
variable {P : Program} {w : World} {K : PySem.W.Frag} {mg : Str → Option Value} {base : Heap}
/-! ### _law_same: the same data on both sides, without lists -/
def plnD : Nat → PyData → Prop
  | 0, _ => False
  | n + 1, .tuple ds => ds.length ≤ 1000000 ∧ ∀ d ∈ ds, plnD n d
  | _ + 1, .list _ => False
  | _ + 1, .dict _ => False
  | _ + 1, _ => True
theorem dats_len' : ∀ as : List Ter, (Ter.dats as).length = as.length
  | [] => rfl
  | a :: r => congrArg (· + 1) (dats_len' r)
mutual
theorem pln_ter : ∀ (t : Ter) (n : Nat), t.nest < n → t.size ≤ 1000000 → plnD n t.dat
  | .var (.inl i), n + 1, _, _ => trivial
  | .var (.inr i), n + 1, _, _ => trivial
  | .ap f as, n + 1, h, z => by
    have h : Ter.nests as + 1 < n + 1 := h
    have z : Ter.sizes as + 1 ≤ 1000000 := z
    show (PyData.str f :: Ter.dats as).length ≤ 1000000 ∧ ∀ d ∈ PyData.str f :: Ter.dats as, plnD n d
    have l := dats_len' as
    have la := Ter.sizes_len as
    refine ⟨by rw [List.length_cons, l]; omega, fun d hd => ?_⟩
    rcases List.mem_cons.mp hd with rfl | hd
    · cases n with
      | zero => omega
      | succ n => trivial
    · exact pln_ters as n (by omega) (by omega) d hd
theorem pln_ters : ∀ (ts : List Ter) (n : Nat), Ter.nests ts < n → Ter.sizes ts ≤ 1000000 → ∀ d ∈ Ter.dats ts, plnD n d
  | [], _, _, _, d, hd => by cases hd
  | a :: r, n, h, z, d, hd => by
    have h : max a.nest (Ter.nests r) < n := h
    have z : a.size + Ter.sizes r ≤ 1000000 := z
    rcases List.mem_cons.mp (show d ∈ a.dat :: Ter.dats r from hd) with rfl | hd
    · exact pln_ter a n (by omega) (by omega)
    · exact pln_ters r n (by omega) (by omega) d hd
end
def spSameP (K : PySem.W.Frag) (n : Nat) : Sp := fun vs H Q _ => ∃ (v u : V) (x : PyData), vs = [v, u] ∧ Dp K H v x ∧ Dp K H u x ∧ plnD n x ∧ Q (.bl true) H
theorem sc_law_sameP : FnScope ["actual", "due", "k"] ["actual", "due"] (defScope s__law_same) := ⟨rfl, rfl, rfl, by decide +kernel, rfl, by decide +kernel, by decide +kernel⟩
theorem ok_law_sameP1 {f : Addr} {fd : FuncData} (D : Df K mg "_law_same" s__law_same ["actual", "due"] f fd) (m_isinstance : mg "isinstance" = none) (m_tuple : mg "tuple" = none) (m_len : mg "len" = none) (m_range : mg "range" = none) (m_bool : mg "bool" = none) (m_int : mg "int" = none) (m_str : mg "str" = none) {n : Nat}
    (G : FnOk P w K mg base CX0 n f fd ["actual", "due"] (spSameP K n)) : FnOk P w K mg base CX0 (n + 1) f fd ["actual", "due"] (spSameP K (n + 1)) := by
  refine D.F.ok sc_law_sameP (fun vs H Q E h => ?_) (fun cdv A outer s H vs Q E hr h => ?_)
  · obtain ⟨v, u, x, rfl, _⟩ := h; rfl
  obtain ⟨v, u, x, rfl, hv, hu, hd, q⟩ := h
  have nd := sc_law_sameP.nd
  refine ⟨_, (pss_cons (ps_if (pt_val (pe_callB call_isiDat (by rfl) m_isinstance (by decide +kernel) (pa_cons (pv 1) (pa_cons (pe_bltn (v := .ty "tuple") (by rfl) m_tuple (by decide +kernel) rfl) pa_nil))))
      (pss_cons (ps_if (PW.pt (pw_or (pt_not (pt_val (pe_callB call_isiDat (by rfl) m_isinstance (by decide +kernel) (pa_cons (pv 0) (pa_cons (pe_bltn (v := .ty "tuple") (by rfl) m_tuple (by decide +kernel) rfl) pa_nil))))) (pw_or1 (pt_cmpR op_ne (pe_callB call_len_seq (by rfl) m_len PySem.boot_len (pa_cons (pv 0) pa_nil)) (pe_callB call_len_seq (by rfl) m_len PySem.boot_len (pa_cons (pv 1) pa_nil)) (nomark _)))))
      (pss_one (ps_ret pe_bl))
      pss_nil)
    (pss_cons (ps_for PassesOwn.never rfl (pi_range1 (by rfl) m_range (pa_cons (pe_callB call_len_seq (by rfl) m_len PySem.boot_len (pa_cons (pv 1) pa_nil)) pa_nil)) (pg_name (i := 2) nd rfl (.inl rfl))
      (pss_one (ps_if (pt_not (pt_val (pe_call G hr (by rfl) D.m D.F.kp D.b .nil pass0 (pa_cons (pe_ix ix_lt (pv 0) (pv 2) (fun _ _ => rfl)) (pa_cons (pe_ix ix_lt (pv 1) (pv 2) (fun _ _ => rfl)) pa_nil)))))
      (pss_one (ps_ret pe_bl))
      pss_nil)))
    (pss_one (ps_ret pe_bl))))
      pss_nil)
    (pss_cons (ps_if (PW.pt (pw_or (pt_val (pe_callB call_isiDat (by rfl) m_isinstance (by decide +kernel) (pa_cons (pv 1) (pa_cons (pe_bltn (v := .ty "bool") (by rfl) m_bool (by decide +kernel) rfl) pa_nil)))) (pw_or1 (pt_val (pe_callB call_isiDat (by rfl) m_isinstance (by decide +kernel) (pa_cons (pv 0) (pa_cons (pe_bltn (v := .ty "bool") (by rfl) m_bool (by decide +kernel) rfl) pa_nil)))))))
      (pss_one (ps_ret (pe_and (pe_callB call_isiDat (by rfl) m_isinstance (by decide +kernel) (pa_cons (pv 1) (pa_cons (pe_bltn (v := .ty "bool") (by rfl) m_bool (by decide +kernel) rfl) pa_nil))) (pe_and (pe_callB call_isiDat (by rfl) m_isinstance (by decide +kernel) (pa_cons (pv 0) (pa_cons (pe_bltn (v := .ty "bool") (by rfl) m_bool (by decide +kernel) rfl) pa_nil))) (pe_one (pe_cmpR op_eq (pv 1) (pv 0) (nomark _)))))))
      pss_nil)
    (pss_cons (ps_if (pt_val (pe_callB call_isiDat (by rfl) m_isinstance (by decide +kernel) (pa_cons (pv 1) (pa_cons (pe_bltn (v := .ty "int") (by rfl) m_int (by decide +kernel) rfl) pa_nil))))
      (pss_one (ps_ret (pe_and (pe_callB call_isiDat (by rfl) m_isinstance (by decide +kernel) (pa_cons (pv 0) (pa_cons (pe_bltn (v := .ty "int") (by rfl) m_int (by decide +kernel) rfl) pa_nil))) (pe_one (pe_cmpR op_eq (pv 0) (pv 1) (nomark _))))))
      pss_nil)
    (pss_cons (ps_if (pt_val (pe_callB call_isiDat (by rfl) m_isinstance (by decide +kernel) (pa_cons (pv 1) (pa_cons (pe_bltn (v := .ty "str") (by rfl) m_str (by decide +kernel) rfl) pa_nil))))
      (pss_one (ps_ret (pe_and (pe_callB call_isiDat (by rfl) m_isinstance (by decide +kernel) (pa_cons (pv 0) (pa_cons (pe_bltn (v := .ty "str") (by rfl) m_str (by decide +kernel) rfl) pa_nil))) (pe_one (pe_cmpR op_eq (pv 0) (pv 1) (nomark _))))))
      pss_nil)
    (pss_one (ps_ret (pe_and (pe_cmpR op_isN (pv 1) pe_non (nomark _)) (pe_one (pe_cmpR op_isN (pv 0) pe_non (nomark _)))))))))), ?_⟩
  cases hv with
  | @tup a xs ds ha hxs =>
    cases hu with
    | @tup b ys _ hb hys =>
    have l1 := Dp.len hxs
    have l2 := Dp.len hys
    have hd : ds.length ≤ 1000000 ∧ ∀ d ∈ ds, plnD n d := hd
    have lz := hd.1
    refine ⟨_, rfl, _, .tuple ds, "tuple", _, rfl, .tup hb hys, k_tup _, _, rfl, iteT ?_⟩
    refine ⟨_, rfl, _, .tuple ds, "tuple", _, rfl, .tup ha hxs, k_tup _, _, rfl, iteF ?_⟩
    refine ⟨_, rfl, a, xs, rfl, .inr ha, _, rfl, b, ys, rfl, .inr hb, rfl, _, rfl, iteNS (by rw [l1, l2]) ?_⟩
    refine ⟨_, rfl, b, ys, rfl, .inr hb, (ys.length : Nat), rfl, by omega, by omega, for_range (n := ((ys.length : Nat) : Int).toNat) (fun i σ H2 => ∃ y, σ = [some (.ref a), some (.ref b), y] ∧ H2 = H) ⟨none, rfl, rfl⟩ (fun i σ H2 hi h => ?_) (fun σ H2 h => ?_)⟩
    · obtain ⟨y, rfl, rfl⟩ := h
      have hi : i < ys.length := by omega
      have e1 : xs[i]? = some xs[i] := List.getElem?_eq_getElem (by omega)
      have e2 : ys[i]? = some ys[i] := List.getElem?_eq_getElem hi
      obtain ⟨d1, q1, w1⟩ := Dp.get hxs e1
      obtain ⟨d2, q2, w2⟩ := Dp.get hys e2
      have e3 : d1 = d2 := Option.some.inj (q1.symm.trans q2)
      subst e3
      have e4 : (0 : Int) + (i : Nat) = (i : Nat) := Int.zero_add _
      refine ⟨_, rfl, _, rfl, a, xs, _, _, rfl, rfl, .inr ha, at_of e4 e1, _, rfl, _, rfl, b, ys, _, _, rfl, rfl, .inr hb, at_of e4 e2, ?_⟩
      exact ⟨_, _, d1, rfl, w1, w2, hd.2 d1 (List.mem_of_getElem? q1), _, rfl, iteF ⟨_, rfl, rfl⟩⟩
    · obtain ⟨y, rfl, rfl⟩ := h
      exact q
  | lst _ _ => exact hd.elim
  | bl x =>
    cases hu
    refine ⟨_, rfl, _, .bool x, "tuple", _, rfl, .bl x, k_tup _, _, rfl, iteF ?_⟩
    refine ⟨_, rfl, _, .bool x, "bool", _, rfl, .bl x, k_bool _, _, rfl, iteT ?_⟩
    refine ⟨_, rfl, _, .bool x, "bool", _, rfl, .bl x, k_bool _, true, rfl, _, rfl, _, .bool x, "bool", _, rfl, .bl x, k_bool _, true, rfl, _, rfl, _, rfl, rfl, ?_⟩
    rw [decide_eq_true rfl]
    exact q
  | int x =>
    cases hu
    refine ⟨_, rfl, _, .int x, "tuple", _, rfl, .int x, k_tup _, _, rfl, iteF ?_⟩
    refine ⟨_, rfl, _, .int x, "bool", _, rfl, .int x, k_bool _, _, rfl, iteF ⟨_, rfl, _, .int x, "bool", _, rfl, .int x, k_bool _, _, rfl, iteF ?_⟩⟩
    refine ⟨_, rfl, _, .int x, "int", _, rfl, .int x, k_int _, _, rfl, iteT ?_⟩
    refine ⟨_, rfl, _, .int x, "int", _, rfl, .int x, k_int _, true, rfl, _, rfl, _, rfl, rfl, ?_⟩
    rw [decide_eq_true rfl]
    exact q
  | str x =>
    cases hu
    refine ⟨_, rfl, _, .str x, "tuple", _, rfl, .str x, k_tup _, _, rfl, iteF ?_⟩
    refine ⟨_, rfl, _, .str x, "bool", _, rfl, .str x, k_bool _, _, rfl, iteF ⟨_, rfl, _, .str x, "bool", _, rfl, .str x, k_bool _, _, rfl, iteF ?_⟩⟩
    refine ⟨_, rfl, _, .str x, "int", _, rfl, .str x, k_int _, _, rfl, iteF ?_⟩
    refine ⟨_, rfl, _, .str x, "str", _, rfl, .str x, k_str _, _, rfl, iteT ?_⟩
    refine ⟨_, rfl, _, .str x, "str", _, rfl, .str x, k_str _, true, rfl, _, rfl, _, rfl, rfl, ?_⟩
    rw [decide_eq_true rfl]
    exact q
  | non =>
    cases hu
    refine ⟨_, rfl, _, .none, "tuple", _, rfl, .non, k_tup _, _, rfl, iteF ?_⟩
    refine ⟨_, rfl, _, .none, "bool", _, rfl, .non, k_bool _, _, rfl, iteF ⟨_, rfl, _, .none, "bool", _, rfl, .non, k_bool _, _, rfl, iteF ?_⟩⟩
    refine ⟨_, rfl, _, .none, "int", _, rfl, .non, k_int _, _, rfl, iteF ?_⟩
    refine ⟨_, rfl, _, .none, "str", _, rfl, .non, k_str _, _, rfl, iteF ?_⟩
    exact ⟨_, rfl, rfl, _, rfl, iteT ⟨_, rfl, rfl, q⟩⟩
theorem ok_law_sameP {f : Addr} {fd : FuncData} (D : Df K mg "_law_same" s__law_same ["actual", "due"] f fd) (m_isinstance : mg "isinstance" = none) (m_tuple : mg "tuple" = none) (m_len : mg "len" = none) (m_range : mg "range" = none) (m_bool : mg "bool" = none) (m_int : mg "int" = none) (m_str : mg "str" = none) : ∀ n : Nat, FnOk P w K mg base CX0 n f fd ["actual", "due"] (spSameP K n)
  | 0 => ⟨fun vs H Q E h => (by obtain ⟨_, _, _, _, _, _, h, _⟩ := h; exact h.elim), fun A outer s H args us vs Q E _ _ _ _ h => (by obtain ⟨_, _, _, _, _, _, h, _⟩ := h; exact h.elim)⟩
  | n + 1 => ok_law_sameP1 D m_isinstance m_tuple m_len m_range m_bool m_int m_str (ok_law_sameP D m_isinstance m_tuple m_len m_range m_bool m_int m_str n)
end

end K76
namespace K76
open PySem PySem.Spec PyProof.Rows L2 Own HT
section
variable {P : Program} {w : World} {K : PySem.W.Frag} {mg : Str → Option Value} {base : Heap}
/-! ### rules in a list -/
def RlA (H : Hp) (v : V) (e : Ter × Ter) : Prop := ∃ p x y, v = .ref p ∧ H p = some (.tup [x, y]) ∧ TmAt H x e.1 ∧ TmAt H y e.2
theorem RlA.mono {H H' : Hp} {v : V} {e : Ter × Ter} (h : RlA H v e) (s : Same H H') : RlA H' v e := by
  obtain ⟨p, x, y, e0, e1, h1, h2⟩ := h
  exact ⟨p, x, y, e0, s _ _ e1, TmAt.mono s.tups _ _ h1, TmAt.mono s.tups _ _ h2⟩
/-- how the drawn world is -/
structure Wd (f0 : Str) (W : Str → Int) (S : Str → Nat → Prop) : Prop where
  U : UpW f0 W
  sh : ∀ f n, S f n → shpW f0 f n
  F : SymF S
structure RlsAt (f0 : Str) (W : Str → Int) (S : Str → Nat → Prop) (H : Hp) (l : Addr) (R : Rls) : Prop where
  at_ : ∃ rs, H l = some (.lst rs) ∧ ZA (RlA H) rs R
  ok : ∀ e ∈ R, RlOk f0 W S e
  len : R.length ≤ 10
theorem RlsAt.same {f0 : Str} {W : Str → Int} {S : Str → Nat → Prop} {H H' : Hp} {l : Addr} {R : Rls} (h : RlsAt f0 W S H l R) (s : Same H H') : RlsAt f0 W S H' l R := by
  obtain ⟨⟨rs, e, z⟩, o, n⟩ := h
  exact ⟨⟨rs, s _ _ e, z.mono fun v x h => h.mono s⟩, o, n⟩
theorem tm_ne {H : Hp} {v : V} {t : Ter} (h : TmAt H v t) : decide (v = V.non) = false := by cases h <;> rfl
/-! ### fitting -/
def spFit : Sp := fun vs H Q _ => ∃ (v : V) (t : Ter), vs = [v] ∧ TmAt H v t ∧ t.size ≤ 1000 ∧ t.nest ≤ 100 ∧ ∀ H', Same H H' → Q v H'
theorem sc_fitting : FnScope ["term"] ["term"] (defScope s_fitting) := ⟨rfl, rfl, rfl, by decide +kernel, rfl, by decide +kernel, by decide +kernel⟩
theorem ok_fitting {f fF : Addr} {fd dF : FuncData} (D : Df K mg "fitting" s_fitting ["term"] f fd) (DF : Df K mg "fits" s_fits ["term"] fF dF) (GF : FnOk P w K mg base CX0 3 fF dF ["term"] spFits) : FnOk P w K mg base CX0 4 f fd ["term"] spFit := by
  refine D.F.ok sc_fitting (fun vs H Q E h => ?_) (fun cdv A outer s H vs Q E hr h => ?_)
  · obtain ⟨v, t, rfl, _⟩ := h; rfl
  obtain ⟨v, t, rfl, ht, hz, hn, q⟩ := h
  refine ⟨_, (pss_cons (ps_if (pt_not (pt_val (pe_call GF hr (by rfl) DF.m DF.F.kp DF.b .nil pass0 (pa_cons (pv 0) pa_nil))))
      (pss_one ps_no)
      pss_nil)
    (pss_one (ps_ret (pv 0)))), ?_⟩
  refine ⟨_, rfl, v, t, rfl, ht, by omega, fun H2 s2 => ?_⟩
  have c : t.fits = true := by
    unfold Ter.fits
    rw [decide_eq_true hz, decide_eq_true hn]; rfl
  rw [c]
  exact ⟨_, rfl, iteF ⟨_, rfl, q H2 s2⟩⟩
/-! ### rewrite -/
def spRw : Sp := fun vs H Q _ => ∃ (f0 : Str) (W : Str → Int) (S : Str → Nat → Prop) (l : Addr) (v : V) (R : Rls) (t : Ter), vs = [.ref l, v] ∧ Wd f0 W S ∧ RlsAt f0 W S H l R ∧ TmAt H v t ∧ LowT f0 W S t ∧
  (onceT R t = none → ∀ H', Same H H' → Q .non H') ∧ ∀ t', onceT R t = some t' → LowT f0 W S t' → ∀ v' H', Same H H' → TmAt H' v' t' → Q v' H'
theorem sc_rewrite : FnScope ["rules", "term", "position", "part", "left", "right", "bound"] ["rules", "term"] (defScope s_rewrite) := ⟨rfl, rfl, rfl, by decide +kernel, rfl, by decide +kernel, by decide +kernel⟩
theorem SB.subF {S : Str → Nat → Prop} {H : Hp} {kvs : List (Key × V)} {B : Sb} (h : SB S H kvs B) : SubF H kvs (sbF B) := fun k => by
  unfold sbF
  rcases h.at_.look k with ⟨e1, e2⟩ | ⟨v, t, e1, e2, ht⟩
  · rw [e1, e2]; rfl
  · rw [e1, e2]; exact ht
def tryR (u : Ter) (e : Ter × Ter) : Option Ter := if (mt e.1 u []).1 = true then some (e.2.bind (sbF (mt e.1 u []).2)) else none
theorem put_wf0 {S : Str → Nat → Prop} {U : Key → Prop} {s t : Ter} {q : List Int} (hs : s.wf S U) (ht : t.wf S U) : (t.put s q).wf S U := put_wf hs q t ht
theorem ok_rewrite {f fP fS fM fR fA fF : Addr} {fd dP dS dM dR dA dF : FuncData} (D : Df K mg "rewrite" s_rewrite ["rules", "term"] f fd)
    (DP : DkG K mg "positions" s_positions ["term", "with_variables"] 1 "with_variables" (.bl true) fP dP) (GP : FnOk P w K mg base CX0 2 fP dP ["term", "with_variables"] spPoss)
    (DS : Df K mg "subterm_at" s_subterm_at ["term", "position"] fS dS) (GS : FnOk P w K mg base CX0 3 fS dS ["term", "position"] spSubT)
    (DM : Dk K mg "match" s_match ["pattern", "term", "known"] 2 fM dM) (GM0 : ∀ S : Str → Nat → Prop, SymF S → FnOk P w K mg base CX0 8 fM dM ["pattern", "term", "known"] (spMat S 5))
    (DR : Df K mg "replace_at" s_replace_at ["term", "position", "new"] fR dR) (GR : FnOk P w K mg base CX0 3 fR dR ["term", "position", "new"] spReplAt)
    (DA : Df K mg "apply" s_apply ["substitution", "term"] fA dA) (GA : FnOk P w K mg base CX0 10 fA dA ["substitution", "term"] spAply)
    (DF : Df K mg "fitting" s_fitting ["term"] fF dF) (GF : FnOk P w K mg base CX0 4 fF dF ["term"] spFit) : FnOk P w K mg base CX0 11 f fd ["rules", "term"] spRw := by
  have GM := fnEx GM0
  refine D.F.ok sc_rewrite (fun vs H Q E h => ?_) (fun cdv A outer s H vs Q E hr h => ?_)
  · obtain ⟨f0, W, S, l, v, R, t, rfl, _⟩ := h; rfl
  obtain ⟨f0, W, S, l, v, R, t, rfl, hW, hR, ht, hL, q0, q1⟩ := h
  have nd := sc_rewrite.nd
  have hr2 : Room 2 _ := hr.mono (by decide)
  have hr3 : Room 3 _ := hr.mono (by decide)
  have hr4 : Room 4 _ := hr.mono (by decide)
  have hr8 : Room 8 _ := hr.mono (by decide)
  obtain ⟨dsM, rdM, bdM⟩ := DM.b
  refine ⟨_, (pss_cons (ps_for PassesOwn.never rfl (pi_list (pe_callN GP hr2 (by rfl) DP.m DP.F.kp DP.kb pass0 (pa_cons (pv 1) pa_nil) (pk_cons pe_bl pk_nil))) (pg_name (i := 2) nd rfl (.inl rfl))
      (pss_cons (ps_set (i := 3) nd rfl (.inl rfl) (pe_call GS hr3 (by rfl) DS.m DS.F.kp DS.b .nil pass0 (pa_cons (pv 1) (pa_cons (pv 2) pa_nil))))
    (pss_one (ps_for PassesOwn.never rfl (pi_list (pv 0)) (pg_tup rfl (pgs_cons (pg_name (i := 4) nd rfl (.inl rfl)) (pgs_cons (pg_name (i := 5) nd rfl (.inl rfl)) pgs_nil)))
      (pss_cons (ps_set (i := 6) nd rfl (.inl rfl) (pe_call GM hr8 (by rfl) DM.m DM.F.kp bdM rdM pass0 (pa_cons (pv 4) (pa_cons (pv 3) pa_nil))))
    (pss_one (ps_if (pt_cmpR op_notN (pv 6) pe_non (nomark _))
      (pss_one (ps_ret (pe_call GF hr4 (by rfl) DF.m DF.F.kp DF.b .nil pass0 (pa_cons (pe_call GR hr3 (by rfl) DR.m DR.F.kp DR.b .nil pass0 (pa_cons (pv 1) (pa_cons (pv 2) (pa_cons (pe_call GA hr (by rfl) DA.m DA.F.kp DA.b .nil pass0 (pa_cons (pv 6) (pa_cons (pv 5) pa_nil))) pa_nil)))) pa_nil))))
      pss_nil)))))))
    (pss_one (ps_ret pe_non))), ?_⟩
  obtain ⟨zt, nt⟩ := LowT.bd hW.U hW.sh hL
  obtain ⟨⟨rs, er, zr⟩, okR, lR⟩ := hR
  have lz := zr.len
  refine ⟨_, rfl, rfl, rfl, v, t, false, rfl, ht, by omega, by omega, fun pp H1 ws s1 np ep hP => ?_⟩
  rw [posOf_pls] at hP
  refine ⟨pp, rfl, ⟨_, .inl (.inl ep)⟩, for_list (xs := ws) (fun i σ F => ∃ y2 y3 y4 y5 y6, σ = [some (.ref l), some v, y2, y3, y4, y5, y6] ∧ Same H1 F ∧ (t.pls.take i).findSome? (stepAt R t) = none) ⟨none, none, none, none, none, rfl, Same.refl _, rfl⟩ (fun i σ F _ h => ?_) (fun i x σ F hx h => ?_) (fun σ F h => ?_)⟩
  · obtain ⟨_, _, _, _, _, _, sm, _⟩ := h
    exact .inl (.inl (sm _ _ ep))
  · obtain ⟨y2, y3, y4, y5, y6, rfl, sm, hno⟩ := h
    obtain ⟨qp, eq, hq⟩ := hP.get hx
    have hq2 := hq.mono sm.tups
    obtain ⟨⟨g, as, eat⟩, lq, _⟩ := pls_at t qp (List.mem_of_getElem? eq)
    have s1F := s1.trans sm
    have htF := TmAt.mono s1F.tups _ _ ht
    cases hq2 with
    | @mk b _ eb =>
    refine ⟨_, rfl, _, rfl, v, b, t, qp, rfl, htF, eb, by omega, by omega, _, eat, fun vu F2 s2 hu => ?_⟩
    have hLu := LowT.at_ hW.U hL eat
    obtain ⟨zu, nu⟩ := LowT.bd hW.U hW.sh hLu
    have s12 := s1F.trans s2
    generalize eU : Ter.ap g as = U at eat hu hLu zu nu
    refine ⟨_, rfl, l, rfl, ⟨rs, .inl (.inl (s12 _ _ er))⟩, for_list (xs := rs) (fun j σ F3 => ∃ y4 y5 y6, σ = [some (.ref l), some v, some (.ref b), some vu, y4, y5, y6] ∧ Same F2 F3 ∧ (R.take j).findSome? (tryR U) = none) ⟨y4, y5, y6, rfl, Same.refl _, rfl⟩ (fun j σ F3 _ h => ?_) (fun j z σ F3 hz h => ?_) (fun σ F3 h => ?_)⟩
    · obtain ⟨_, _, _, _, s3, _⟩ := h
      exact .inl (.inl (s3 _ _ (s12 _ _ er)))
    · obtain ⟨y4, y5, y6, rfl, s3, hno2⟩ := h
      obtain ⟨e, ee, hA⟩ := zr.get hz
      have he := okR e (List.mem_of_getElem? ee)
      have s13 := s12.trans s3
      obtain ⟨rp, x1, x2, rfl, erp, h1, h2⟩ := hA.mono s13
      refine ⟨rp, _, rfl, .inl (.inl erp), rfl, _, _, rfl, _, _, rfl, rfl, ?_⟩
      refine ⟨_, rfl, _, rfl, S, hW.F, x1, vu, e.1, U, rfl, h1, he.w1, by have := he.n1; omega, by have := he.z1; omega, ⟨TmAt.mono s3.tups _ _ hu, hLu.1, by omega⟩, fun c F4 s4 => ?_, fun c d kvs F4 s4 nd4 ed hB => ?_⟩
      · refine ⟨_, rfl, rfl, _, rfl, iteF ⟨_, _, _, rfl, s3.trans s4, fs_next hno2 ee ?_⟩⟩
        unfold tryR
        rw [c]; rfl
      · refine ⟨_, rfl, rfl, _, rfl, iteT ?_⟩
        obtain ⟨xw, xl⟩ := stepR_low hW.U hW.sh he hLu c
        have hLx : LowT f0 W S (e.2.bind (sbF (mt e.1 U []).2)) := ⟨xw, Int.le_trans xl hLu.2⟩
        obtain ⟨zx, nx⟩ := LowT.bd hW.U hW.sh hLx
        have s14 := s13.trans s4
        have hLp : LowT f0 W S (t.put (e.2.bind (sbF (mt e.1 U []).2)) qp) := LowT.put hL eat xw xl (put_wf0 xw hL.1)
        obtain ⟨zp, npp⟩ := LowT.bd hW.U hW.sh hLp
        have ebF := (s2.trans (s3.trans s4)) _ _ eb
        refine ⟨_, rfl, _, rfl, _, rfl, _, rfl, d, x2, e.2, kvs, sbF (mt e.1 U []).2, rfl, ed, SB.subF hB, TmAt.mono s4.tups _ _ h2, by have := he.n2; omega, by have := he.z2; omega, by omega, by omega, fun vx F5 s5 hx5 => ?_⟩
        refine ⟨v, vx, b, t, _, qp, rfl, TmAt.mono (s14.trans s5).tups _ _ ht, hx5, s5 _ _ ebF, by omega, by omega, U, eat, fun vp F6 s6 hp6 => ?_⟩
        refine ⟨vp, _, rfl, hp6, by omega, by omega, fun F7 s7 => ?_⟩
        have one : onceT R t = some (t.put (e.2.bind (sbF (mt e.1 U []).2)) qp) := by
          refine fs_take hno eq ?_
          unfold stepAt
          rw [eat]
          show (R.findSome? (tryR U)).map _ = _
          have : R.findSome? (tryR U) = some (e.2.bind (sbF (mt e.1 U []).2)) := fs_take hno2 ee (by unfold tryR; rw [if_pos c])
          rw [this]; rfl
        exact q1 _ one hLp vp F7 (s14.trans (s5.trans (s6.trans s7))) (TmAt.mono s7.tups _ _ hp6)
    · obtain ⟨y4, y5, y6, rfl, s3, hno2⟩ := h
      rw [lz, List.take_length] at hno2
      refine ⟨_, _, _, _, _, rfl, sm.trans (s2.trans s3), fs_next hno eq ?_⟩
      unfold stepAt
      rw [eat]
      show (R.findSome? (tryR U)).map _ = none
      rw [hno2]; rfl
  · obtain ⟨y2, y3, y4, y5, y6, rfl, sm, hno⟩ := h
    rw [hP.len, List.take_length] at hno
    exact q0 hno F (s1.trans sm)
/-! ### normalize, joined -/
def spNrm : Sp := fun vs H Q _ => ∃ (f0 : Str) (W : Str → Int) (S : Str → Nat → Prop) (l : Addr) (v : V) (R : Rls) (t u : Ter) (n : Nat), vs = [.ref l, v] ∧ Wd f0 W S ∧ RlsAt f0 W S H l R ∧ TmAt H v t ∧ LowT f0 W S t ∧ nfT R n t = some u ∧
  ∀ v' H', Same H H' → TmAt H' v' u → LowT f0 W S u → Q v' H'
theorem sc_normalize : FnScope ["rules", "term", "result", "changed"] ["rules", "term"] (defScope s_normalize) := ⟨rfl, rfl, rfl, by decide +kernel, rfl, by decide +kernel, by decide +kernel⟩
theorem nf_some {R : Rls} {m : Nat} {t t' u : Ter} (h : nfT R m t = some u) (e : onceT R t = some t') : ∃ k, m = k + 1 ∧ nfT R k t' = some u := by
  cases m with
  | zero => cases h
  | succ k =>
    refine ⟨k, rfl, ?_⟩
    have h : (match onceT R t with | none => some t | some u => nfT R k u) = some u := h
    rw [e] at h; exact h
theorem nf_none {R : Rls} {m : Nat} {t u : Ter} (h : nfT R m t = some u) (e : onceT R t = none) : t = u := by
  cases m with
  | zero => cases h
  | succ k =>
    have h : (match onceT R t with | none => some t | some u => nfT R k u) = some u := h
    rw [e] at h; exact Option.some.inj h
theorem ok_normalize {f fR : Addr} {fd dR : FuncData} (D : Df K mg "normalize" s_normalize ["rules", "term"] f fd) (DR : Df K mg "rewrite" s_rewrite ["rules", "term"] fR dR) (GR : FnOk P w K mg base CX0 11 fR dR ["rules", "term"] spRw) : FnOk P w K mg base CX0 12 f fd ["rules", "term"] spNrm := by
  refine D.F.ok sc_normalize (fun vs H Q E h => ?_) (fun cdv A outer s H vs Q E hr h => ?_)
  · obtain ⟨f0, W, S, l, v, R, t, u, n, rfl, _⟩ := h; rfl
  obtain ⟨f0, W, S, l, v, R, t, u, n, rfl, hW, hR, ht, hL, hn, q⟩ := h
  have nd := sc_normalize.nd
  refine ⟨_, (pss_cons (ps_set (i := 2) nd rfl (.inl rfl) (pv 1))
    (C8.pss_cut (ps_set (i := 3) nd rfl (.inl rfl) (pe_call GR hr (by rfl) DR.m DR.F.kp DR.b .nil pass0 (pa_cons (pv 0) (pa_cons (pv 2) pa_nil))))
    (pss_cons (ps_while PassesOwn.never (pt_cmpR op_notN (pv 3) pe_non (nomark _))
      (pss_cons (ps_set (i := 2) nd rfl (.inl rfl) (pv 3))
    (pss_one (ps_set (i := 3) nd rfl (.inl rfl) (pe_call GR hr (by rfl) DR.m DR.F.kp DR.b .nil pass0 (pa_cons (pv 0) (pa_cons (pv 2) pa_nil)))))))
    (pss_one (ps_ret (pv 2)))))), ?_⟩
  refine ⟨_, rfl, ?_⟩
  refine ⟨fun σ F => ∃ y, σ = [some (.ref l), some v, some v, some y] ∧ Same H F ∧ ((onceT R t = none ∧ y = .non) ∨ ∃ t', onceT R t = some t' ∧ TmAt F y t' ∧ LowT f0 W S t'), ?_, fun σ F h => ?_⟩
  · refine ⟨_, rfl, _, rfl, f0, W, S, l, v, R, t, rfl, hW, hR, ht, hL, fun e0 F s => ⟨_, rfl, s, .inl ⟨e0, rfl⟩⟩, fun t' e0 hL' v' F s hv' => ⟨_, rfl, s, .inr ⟨t', e0, hv', hL'⟩⟩⟩
  obtain ⟨y, rfl, s, hy⟩ := h
  refine ⟨fun m σ F => ∃ (r : V) (cur : Ter) (y' : V), σ = [some (V.ref l), some v, some r, some y'] ∧ Same H F ∧ TmAt F r cur ∧ LowT f0 W S cur ∧ nfT R m cur = some u ∧ ((onceT R cur = none ∧ y' = .non) ∨ ∃ t', onceT R cur = some t' ∧ TmAt F y' t' ∧ LowT f0 W S t'), ⟨n, v, t, y, rfl, s, TmAt.mono s.tups _ _ ht, hL, hn, hy⟩, fun m σ F hI => ?_⟩
  obtain ⟨r, cur, y', rfl, s, hr1, hL1, hn1, hy1⟩ := hI
  refine ⟨_, rfl, rfl, _, rfl, ?_⟩
  rcases hy1 with ⟨e0, rfl⟩ | ⟨t', e0, ht', hL'⟩
  · refine iteF ?_
    have := nf_none hn1 e0
    subst this
    exact ⟨_, rfl, q r F s hr1 hL1⟩
  · rw [tm_ne ht']
    refine iteT ?_
    obtain ⟨k, rfl, hk⟩ := nf_some hn1 e0
    refine ⟨fun σ' F2 => ∃ (r : V) (cur : Ter) (y' : V), σ' = [some (V.ref l), some v, some r, some y'] ∧ Same H F2 ∧ TmAt F2 r cur ∧ LowT f0 W S cur ∧ nfT R k cur = some u ∧ ((onceT R cur = none ∧ y' = .non) ∨ ∃ t', onceT R cur = some t' ∧ TmAt F2 y' t' ∧ LowT f0 W S t'), fun σ' F2 hN => ⟨k, Nat.lt_succ_self k, hN⟩, ?_⟩
    refine ⟨_, rfl, ?_⟩
    refine ⟨_, rfl, _, rfl, f0, W, S, l, y', R, t', rfl, hW, hR.same s, ht', hL', fun e1 F2 s2 => ⟨y', t', _, rfl, s.trans s2, TmAt.mono s2.tups _ _ ht', hL', hk, .inl ⟨e1, rfl⟩⟩, fun t2 e1 hL2 v2 F2 s2 hv2 => ⟨y', t', _, rfl, s.trans s2, TmAt.mono s2.tups _ _ ht', hL', hk, .inr ⟨t2, e1, hv2, hL2⟩⟩⟩
def spJnd : Sp := fun vs H Q _ => ∃ (f0 : Str) (W : Str → Int) (S : Str → Nat → Prop) (l : Addr) (v1 v2 : V) (R : Rls) (t1 t2 u1 u2 : Ter) (n1 n2 : Nat), vs = [.ref l, v1, v2] ∧ Wd f0 W S ∧ RlsAt f0 W S H l R ∧ TmAt H v1 t1 ∧ LowT f0 W S t1 ∧ TmAt H v2 t2 ∧ LowT f0 W S t2 ∧ nfT R n1 t1 = some u1 ∧ nfT R n2 t2 = some u2 ∧
  ∀ H', Same H H' → Q (.bl (eT u1 u2)) H'
theorem sc_joined : FnScope ["rules", "first", "second"] ["rules", "first", "second"] (defScope s_joined) := ⟨rfl, rfl, rfl, by decide +kernel, rfl, by decide +kernel, by decide +kernel⟩
theorem ok_joined {f fN : Addr} {fd dN : FuncData} (D : Df K mg "joined" s_joined ["rules", "first", "second"] f fd) (DN : Df K mg "normalize" s_normalize ["rules", "term"] fN dN) (GN : FnOk P w K mg base CX0 12 fN dN ["rules", "term"] spNrm) : FnOk P w K mg base CX0 13 f fd ["rules", "first", "second"] spJnd := by
  refine D.F.ok sc_joined (fun vs H Q E h => ?_) (fun cdv A outer s H vs Q E hr h => ?_)
  · obtain ⟨f0, W, S, l, v1, v2, R, t1, t2, u1, u2, n1, n2, rfl, _⟩ := h; rfl
  obtain ⟨f0, W, S, l, v1, v2, R, t1, t2, u1, u2, n1, n2, rfl, hW, hR, ht1, hL1, ht2, hL2, e1, e2, q⟩ := h
  refine ⟨_, (pss_one (ps_ret (pe_cmpR (op_eqDeep (room150 hr)) (pe_call GN hr (by rfl) DN.m DN.F.kp DN.b .nil pass0 (pa_cons (pv 0) (pa_cons (pv 1) pa_nil))) (pe_call GN hr (by rfl) DN.m DN.F.kp DN.b .nil pass0 (pa_cons (pv 0) (pa_cons (pv 2) pa_nil))) (nomark _)))), ?_⟩
  refine ⟨_, rfl, _, rfl, f0, W, S, l, v1, R, t1, u1, n1, rfl, hW, hR, ht1, hL1, e1, fun x1 F1 s1 hx1 hLu1 => ?_⟩
  refine ⟨_, rfl, _, rfl, f0, W, S, l, v2, R, t2, u2, n2, rfl, hW, hR.same s1, TmAt.mono s1.tups _ _ ht2, hL2, e2, fun x2 F2 s2 hx2 hLu2 => ?_⟩
  obtain ⟨c1, d1⟩ := hW.F.lay hLu1.1
  obtain ⟨c2, d2⟩ := hW.F.lay hLu2.1
  obtain ⟨_, nn1⟩ := LowT.bd hW.U hW.sh hLu1
  exact ⟨u1.dat, u2.dat, dp_ter _ _ (TmAt.mono s2.tups _ _ hx1), dp_ter _ _ hx2, c1, c2, by omega, q F2 (s1.trans s2)⟩
end

end K76
namespace K76
open PySem PySem.Spec PyProof.Rows L2 Own HT
section
variable {P : Program} {w : World} {K : PySem.W.Frag} {mg : Str → Option Value} {base : Heap}
/-! ### the law's own rewriting -/
def spLSt : Sp := fun vs H Q _ => ∃ (f0 : Str) (W : Str → Int) (S : Str → Nat → Prop) (l b : Addr) (v : V) (R : Rls) (t U : Ter) (qp : List Int), vs = [.ref l, v, .ref b] ∧ Wd f0 W S ∧ RlsAt f0 W S H l R ∧ TmAt H v t ∧ LowT f0 W S t ∧ H b = some (.tup (qp.map V.int)) ∧ t.at qp = some U ∧ qp.length < t.nest ∧
  ((stepR R U).map (fun x => t.put x qp) = none → ∀ H', Same H H' → Q .non H') ∧ ∀ t', (stepR R U).map (fun x => t.put x qp) = some t' → LowT f0 W S t' → ∀ v' H', Same H H' → TmAt H' v' t' → Q v' H'
theorem sc_law_step_at : FnScope ["rules", "term", "place", "old", "rule", "sub"] ["rules", "term", "place"] (defScope s__law_step_at) := ⟨rfl, rfl, rfl, by decide +kernel, rfl, by decide +kernel, by decide +kernel⟩
theorem ok_law_step_at {f fT fM fA fP : Addr} {fd dT dM dA dP : FuncData} (D : Df K mg "_law_step_at" s__law_step_at ["rules", "term", "place"] f fd)
    (DT : Df K mg "_law_at" s__law_at ["term", "place"] fT dT) (GT : FnOk P w K mg base CX0 1 fT dT ["term", "place"] spAt)
    (DM : Df K mg "_law_match" s__law_match ["pattern", "term", "known"] fM dM) (GM0 : ∀ S : Str → Nat → Prop, (SymF S ∧ ∀ f n, S f n → n ≤ 1000) → FnOk P w K mg base CX0 5 fM dM ["pattern", "term", "known"] (spLM S 5))
    (DA : Df K mg "_law_apply" s__law_apply ["sub", "term"] fA dA) (GA : FnOk P w K mg base CX0 8 fA dA ["sub", "term"] (spApp 8))
    (DP : Df K mg "_law_put" s__law_put ["term", "place", "new"] fP dP) (GP : FnOk P w K mg base CX0 78 fP dP ["term", "place", "new"] (spPut 78)) : FnOk P w K mg base CX0 79 f fd ["rules", "term", "place"] spLSt := by
  have GM := fnEx GM0
  refine D.F.ok sc_law_step_at (fun vs H Q E h => ?_) (fun cdv A outer s H vs Q E hr h => ?_)
  · obtain ⟨f0, W, S, l, b, v, R, t, U, qp, rfl, _⟩ := h; rfl
  obtain ⟨f0, W, S, l, b, v, R, t, U, qp, rfl, hW, hR, ht, hL, eb, eat, lq, q0, q1⟩ := h
  have nd := sc_law_step_at.nd
  have hr1 : Room 1 _ := hr.mono (by decide)
  have hr5 : Room 5 _ := hr.mono (by decide)
  have hr8 : Room 8 _ := hr.mono (by decide)
  refine ⟨_, (pss_cons (ps_set (i := 3) nd rfl (.inl rfl) (pe_call GT hr1 (by rfl) DT.m DT.F.kp DT.b .nil pass0 (pa_cons (pv 1) (pa_cons (pv 2) pa_nil))))
    (pss_cons (ps_for PassesOwn.never rfl (pi_list (pv 0)) (pg_name (i := 4) nd rfl (.inl rfl))
      (pss_cons (ps_set (i := 5) nd rfl (.inl rfl) (pe_call GM hr5 (by rfl) DM.m DM.F.kp DM.b .nil pass0 (pa_cons (pe_ix ix_tup (pv 4) pe_int (fun _ _ => rfl)) (pa_cons (pv 3) (pa_cons pe_dnewK pa_nil)))))
    (pss_one (ps_if (pt_cmpR op_notN (pv 5) pe_non (nomark _))
      (pss_one (ps_ret (pe_call GP hr (by rfl) DP.m DP.F.kp DP.b .nil pass0 (pa_cons (pv 1) (pa_cons (pv 2) (pa_cons (pe_call GA hr8 (by rfl) DA.m DA.F.kp DA.b .nil pass0 (pa_cons (pv 5) (pa_cons (pe_ix ix_tup (pv 4) pe_int (fun _ _ => rfl)) pa_nil))) pa_nil))))))
      pss_nil))))
    (pss_one (ps_ret pe_non)))), ?_⟩
  obtain ⟨zt, nt⟩ := LowT.bd hW.U hW.sh hL
  have hLu := LowT.at_ hW.U hL eat
  obtain ⟨zu, nu⟩ := LowT.bd hW.U hW.sh hLu
  obtain ⟨⟨rs, er, zr⟩, okR, lR⟩ := hR
  have lz := zr.len
  have S2 : ∀ f n, S f n → n ≤ 1000 := fun f n h => by
    rcases hW.sh f n h with ⟨_, rfl⟩ | ⟨_, rfl | rfl⟩ <;> decide
  refine ⟨_, rfl, _, rfl, v, t, U, b, qp, rfl, ht, eb, eat, fun vu hu => ?_⟩
  refine ⟨_, rfl, l, rfl, ⟨rs, .inl (.inl er)⟩, for_list (xs := rs) (fun j σ F3 => ∃ y4 y5, σ = [some (.ref l), some v, some (.ref b), some vu, y4, y5] ∧ Same H F3 ∧ (R.take j).findSome? (tryR U) = none) ⟨none, none, rfl, Same.refl _, rfl⟩ (fun j σ F3 _ h => ?_) (fun j z σ F3 hz h => ?_) (fun σ F3 h => ?_)⟩
  · obtain ⟨_, _, _, s3, _⟩ := h
    exact .inl (.inl (s3 _ _ er))
  · obtain ⟨y4, y5, rfl, s3, hno2⟩ := h
    obtain ⟨e, ee, hA⟩ := zr.get hz
    have he := okR e (List.mem_of_getElem? ee)
    obtain ⟨rp, x1, x2, rfl, erp, h1, h2⟩ := hA.mono s3
    refine ⟨_, rfl, rp, _, 0, _, rfl, rfl, .inl (.inl erp), head_at, _, rfl, fun d0 nd0 => ?_⟩
    have s4 := same_new nd0 (.dK [])
    refine ⟨S, ⟨hW.F, S2⟩, x1, e.1, vu, U, d0, [], [], rfl, TmAt.mono s4.tups _ _ h1, he.w1, by have := he.n1; omega, ⟨TmAt.mono (s3.trans s4).tups _ _ hu, hLu.1, by omega⟩, upd_same, SB.nil, by have := he.z1; show 0 + _ ≤ _; omega, fun c F4 s5 => ?_, fun c d kvs F4 s5 ed hB => ?_⟩
    · refine ⟨_, rfl, rfl, _, rfl, iteF ⟨_, _, rfl, s3.trans (s4.trans s5), fs_next hno2 ee ?_⟩⟩
      unfold tryR
      rw [c]; rfl
    · refine ⟨_, rfl, rfl, _, rfl, iteT ?_⟩
      have s45 := s4.trans s5
      have s35 := s3.trans s45
      obtain ⟨xw, xl⟩ := stepR_low hW.U hW.sh he hLu c
      have hLp : LowT f0 W S (t.put (e.2.bind (sbF (mt e.1 U []).2)) qp) := LowT.put hL eat xw xl (put_wf0 xw hL.1)
      have tr : stepR R U = some (e.2.bind (sbF (mt e.1 U []).2)) := fs_take hno2 ee (if_pos c)
      refine ⟨_, rfl, _, rfl, _, rfl, _, rfl, rp, _, 1, _, rfl, rfl, .inl (.inl (s45 _ _ erp)), atI_nat (j := 1) rfl, d, x2, e.2, kvs, sbF (mt e.1 U []).2, rfl, ed, SB.subF hB, TmAt.mono s45.tups _ _ h2, by have := he.n2; omega, by have := he.z2; omega, fun vx F5 s6 hx5 => ?_⟩
      exact ⟨v, vx, t, _, U, b, qp, rfl, TmAt.mono (s35.trans s6).tups _ _ ht, (s35.trans s6) _ _ eb, eat, hx5, by omega, by omega, by omega, fun vp F6 s7 hp6 => q1 _ (by rw [tr]; rfl) hLp vp F6 (s35.trans (s6.trans s7)) hp6⟩
  · obtain ⟨y4, y5, rfl, s3, hno2⟩ := h
    rw [lz, List.take_length] at hno2
    have tr : stepR R U = none := hno2
    exact q0 (by rw [tr]; rfl) F3 s3
theorem sc_law_once : FnScope ["rules", "term", "place", "new"] ["rules", "term"] (defScope s__law_once) := ⟨rfl, rfl, rfl, by decide +kernel, rfl, by decide +kernel, by decide +kernel⟩
theorem ok_law_once {f fP fS : Addr} {fd dP dS : FuncData} (D : Df K mg "_law_once" s__law_once ["rules", "term"] f fd)
    (DP : Df K mg "_law_places" s__law_places ["term"] fP dP) (GP : FnOk P w K mg base CX0 77 fP dP ["term"] (spPlaces 77))
    (DS : Df K mg "_law_step_at" s__law_step_at ["rules", "term", "place"] fS dS) (GS : FnOk P w K mg base CX0 79 fS dS ["rules", "term", "place"] spLSt) : FnOk P w K mg base CX0 80 f fd ["rules", "term"] spRw := by
  refine D.F.ok sc_law_once (fun vs H Q E h => ?_) (fun cdv A outer s H vs Q E hr h => ?_)
  · obtain ⟨f0, W, S, l, v, R, t, rfl, _⟩ := h; rfl
  obtain ⟨f0, W, S, l, v, R, t, rfl, hW, hR, ht, hL, q0, q1⟩ := h
  have nd := sc_law_once.nd
  have hr77 : Room 77 _ := hr.mono (by decide)
  refine ⟨_, (pss_cons (ps_for PassesOwn.never rfl (pi_list (pe_call GP hr77 (by rfl) DP.m DP.F.kp DP.b .nil pass0 (pa_cons (pv 1) pa_nil))) (pg_name (i := 2) nd rfl (.inl rfl))
      (pss_cons (ps_set (i := 3) nd rfl (.inl rfl) (pe_call GS hr (by rfl) DS.m DS.F.kp DS.b .nil pass0 (pa_cons (pv 0) (pa_cons (pv 1) (pa_cons (pv 2) pa_nil)))))
    (pss_one (ps_if (pt_cmpR op_notN (pv 3) pe_non (nomark _))
      (pss_one (ps_ret (pv 3)))
      pss_nil))))
    (pss_one (ps_ret pe_non))), ?_⟩
  obtain ⟨zt, nt⟩ := LowT.bd hW.U hW.sh hL
  refine ⟨_, rfl, v, t, rfl, ht, by omega, by omega, by omega, fun pp ws qs H1 s1 np ep hP eqs => ?_⟩
  subst eqs
  refine ⟨pp, rfl, ⟨_, .inl (.inl ep)⟩, for_list (xs := ws) (fun i σ F => ∃ y2 y3, σ = [some (.ref l), some v, y2, y3] ∧ Same H1 F ∧ (t.pls.take i).findSome? (stepAt R t) = none) ⟨none, none, rfl, Same.refl _, rfl⟩ (fun i σ F _ h => ?_) (fun i x σ F hx h => ?_) (fun σ F h => ?_)⟩
  · obtain ⟨_, _, _, sm, _⟩ := h
    exact .inl (.inl (sm _ _ ep))
  · obtain ⟨y2, y3, rfl, sm, hno⟩ := h
    obtain ⟨qp, eq, hq⟩ := hP.get hx
    have hq2 := hq.mono sm.tups
    obtain ⟨⟨g, as, eat⟩, lq, _⟩ := pls_at t qp (List.mem_of_getElem? eq)
    have s1F := s1.trans sm
    have es : stepAt R t qp = (stepR R (.ap g as)).map fun x => t.put x qp := by unfold stepAt; rw [eat]
    cases hq2 with
    | @mk b _ eb =>
    refine ⟨_, rfl, _, rfl, _, rfl, f0, W, S, l, b, v, R, t, _, qp, rfl, hW, hR.same s1F, TmAt.mono s1F.tups _ _ ht, hL, eb, eat, lq, fun e0 F2 s2 => ?_, fun t' e0 hL' v' F2 s2 hv' => ?_⟩
    · exact ⟨_, rfl, rfl, _, rfl, iteF ⟨_, _, rfl, sm.trans s2, fs_next hno eq (by rw [es]; exact e0)⟩⟩
    · refine ⟨_, rfl, rfl, _, rfl, ?_⟩
      rw [tm_ne hv']
      refine iteT ⟨_, rfl, q1 t' (fs_take hno eq (by rw [es]; exact e0)) hL' v' F2 (s1F.trans s2) hv'⟩
  · obtain ⟨y2, y3, rfl, sm, hno⟩ := h
    rw [hP.len, List.take_length] at hno
    exact q0 hno F (s1.trans sm)
def spLNf : Sp := fun vs H Q _ => ∃ (f0 : Str) (W : Str → Int) (S : Str → Nat → Prop) (l : Addr) (v : V) (R : Rls) (t : Ter), vs = [.ref l, v] ∧ Wd f0 W S ∧ RlsAt f0 W S H l R ∧ TmAt H v t ∧ LowT f0 W S t ∧
  (∀ H', Same H H' → Q .non H') ∧ ∀ n u, nfT R n t = some u → LowT f0 W S u → onceT R u = none → ∀ v' H', Same H H' → TmAt H' v' u → Q v' H'
theorem sc_law_normal_form : FnScope ["rules", "term", "k", "new"] ["rules", "term"] (defScope s__law_normal_form) := ⟨rfl, rfl, rfl, by decide +kernel, rfl, by decide +kernel, by decide +kernel⟩
theorem ok_law_normal_form {f fO : Addr} {fd dO : FuncData} (D : Df K mg "_law_normal_form" s__law_normal_form ["rules", "term"] f fd) (DO : Df K mg "_law_once" s__law_once ["rules", "term"] fO dO) (GO : FnOk P w K mg base CX0 80 fO dO ["rules", "term"] spRw) (m_range : mg "range" = none) : FnOk P w K mg base CX0 81 f fd ["rules", "term"] spLNf := by
  refine D.F.ok sc_law_normal_form (fun vs H Q E h => ?_) (fun cdv A outer s H vs Q E hr h => ?_)
  · obtain ⟨f0, W, S, l, v, R, t, rfl, _⟩ := h; rfl
  obtain ⟨f0, W, S, l, v, R, t, rfl, hW, hR, ht, hL, q0, q1⟩ := h
  have nd := sc_law_normal_form.nd
  refine ⟨_, (pss_cons (ps_for PassesOwn.never rfl (pi_range1 (by rfl) m_range (pa_cons pe_int pa_nil)) (pg_name (i := 2) nd rfl (.inl rfl))
      (pss_cons (ps_set (i := 3) nd rfl (.inl rfl) (pe_call GO hr (by rfl) DO.m DO.F.kp DO.b .nil pass0 (pa_cons (pv 0) (pa_cons (pv 1) pa_nil))))
    (pss_cons (ps_if (pt_cmpR op_isN (pv 3) pe_non (nomark _))
      (pss_one (ps_ret (pv 1)))
      pss_nil)
    (pss_one (ps_set (i := 1) nd rfl (.inl rfl) (pv 3))))))
    (pss_one (ps_ret pe_non))), ?_⟩
  refine ⟨400, rfl, by decide, by decide, for_range (n := 400) (fun i σ F => ∃ r cur y2 y3, σ = [some (.ref l), some r, y2, y3] ∧ Same H F ∧ TmAt F r cur ∧ LowT f0 W S cur ∧ ∀ n u, nfT R n cur = some u → nfT R (n + i) t = some u) ⟨v, t, none, none, rfl, Same.refl _, ht, hL, fun n u h => h⟩ (fun i σ F hi h => ?_) (fun σ F h => ?_)⟩
  · obtain ⟨r, cur, y2, y3, rfl, s, hr1, hL1, hn⟩ := h
    refine ⟨_, rfl, _, rfl, f0, W, S, l, r, R, cur, rfl, hW, hR.same s, hr1, hL1, fun e0 F2 s2 => ?_, fun t' e0 hL' v' F2 s2 hv' => ?_⟩
    · refine ⟨_, rfl, rfl, _, rfl, iteT ⟨_, rfl, ?_⟩⟩
      have e1 : nfT R 1 cur = some cur := by
        show (match onceT R cur with | none => some cur | some u => nfT R 0 u) = some cur
        rw [e0]
      exact q1 (1 + i) cur (hn 1 cur e1) hL1 e0 r F2 (s.trans s2) (TmAt.mono s2.tups _ _ hr1)
    · refine ⟨_, rfl, rfl, _, rfl, ?_⟩
      rw [tm_ne hv']
      refine iteF ⟨_, rfl, v', t', _, _, rfl, s.trans s2, hv', hL', fun n u h => ?_⟩
      have e1 : nfT R (n + 1) cur = some u := by
        show (match onceT R cur with | none => some cur | some u => nfT R n u) = some u
        rw [e0]; exact h
      have := hn (n + 1) u e1
      rw [show n + (i + 1) = n + 1 + i by omega]
      exact this
  · obtain ⟨r, cur, y2, y3, rfl, s, _⟩ := h
    exact q0 F s
end

end K76
namespace K76
open PySem PySem.Spec PyProof.Rows L2 Own HT
section
variable {P : Program} {w : World} {K : PySem.W.Frag} {mg : Str → Option Value} {base : Heap}
/-! ### what stands while the law draws -/
structure J76 (d c l wd pl : Addr) (ws : List Str) (W : List (Str × Int)) (ps : List Str) (H : Hp) : Prop where
  dk : Dek H d c
  hl : H l = some (.lst (ws.map V.str))
  hw : H wd = some (.dK (wkv W))
  hp : H pl = some (.lst (ps.map V.str))
structure No76 (d l wd pl : Addr) : Prop where
  l : l ≠ d
  w : wd ≠ d
  p : pl ≠ d
theorem J76.same {d c l wd pl : Addr} {ws : List Str} {W : List (Str × Int)} {ps : List Str} {H H' : Hp} (J : J76 d c l wd pl ws W ps H) (s : Same H H') : J76 d c l wd pl ws W ps H' := ⟨J.dk.same s, s _ _ J.hl, s _ _ J.hw, s _ _ J.hp⟩
theorem J76.deck {d c l wd pl : Addr} {ws : List Str} {W : List (Str × Int)} {ps : List Str} {H H' : Hp} (J : J76 d c l wd pl ws W ps H) (N : No76 d l wd pl) (b : But d H H') (hD : Dek H' d c) : J76 d c l wd pl ws W ps H' := ⟨hD, b _ _ N.l J.hl, b _ _ N.w J.hw, b _ _ N.p J.hp⟩
theorem symF_W {ws : List Str} (hm : ws ∈ MENUS) : SymF (symW ws) := ⟨fun f n m h1 h2 => (symF_T hm).fn f n m (.inl h1) (.inl h2), fun f n h => (symF_T hm).ok f n (.inl h)⟩
theorem symW_le {ws : List Str} {f : Str} {n : Nat} (h : symW ws f n) : n ≤ 2 := by
  rcases h with ⟨_, rfl⟩ | ⟨_, rfl⟩ | ⟨_, rfl⟩ <;> decide
mutual
theorem cnt_nat {S : Str → Nat → Prop} {i : Int} : ∀ t : Ter, t.wf S natVar → t.cnt (.inl i) ≠ 0 → 0 ≤ i
  | .var k, hw, h => by
    obtain ⟨j, rfl, hj⟩ := hw
    have h : (if (Sum.inl j : Key) = .inl i then (1 : Int) else 0) ≠ 0 := h
    by_cases c : (Sum.inl j : Key) = .inl i
    · cases c; exact hj
    · rw [if_neg c] at h; exact absurd rfl h
  | .ap f as, hw, h => cnts_nat as hw.2 h
theorem cnts_nat {S : Str → Nat → Prop} {i : Int} : ∀ ts : List Ter, Ter.wfs S natVar ts → Ter.cnts (.inl i) ts ≠ 0 → 0 ≤ i
  | [], _, h => absurd rfl h
  | a :: r, hw, h => by
    have h : a.cnt (.inl i) + Ter.cnts (.inl i) r ≠ 0 := h
    by_cases c : a.cnt (.inl i) = 0
    · exact cnts_nat r hw.2 (by omega)
    · exact cnt_nat a hw.1 c
end
/-- the shape of a rule, and its symbols -/
structure RlS (ws : List Str) (e : Ter × Ter) : Prop where
  w1 : e.1.wf (symW ws) natVar
  w2 : e.2.wf (symW ws) natVar
  n2 : e.2.nest ≤ 3
  sh : e.1.nest ≤ 3 ∨ ∃ t, e.1 = .ap (ws.getD 3 "") [t] ∧ t.nest ≤ 3
theorem wf_size {ws : List Str} {t : Ter} (h : t.wf (symW ws) natVar) {n : Nat} (hn : t.nest ≤ n) : t.size + 1 ≤ 2 ^ n := Nat.le_trans (size_pow (fun _ _ h => symW_le h) t h) (Nat.pow_le_pow_right (by decide) hn)
theorem RlS.bd {ws : List Str} {e : Ter × Ter} (h : RlS ws e) : e.1.nest ≤ 4 ∧ e.1.size ≤ 8 ∧ e.2.size ≤ 7 := by
  have z2 := wf_size h.w2 h.n2
  rcases h.sh with s | ⟨t, e1, s⟩
  · have z1 := wf_size h.w1 s
    exact ⟨by omega, by omega, by omega⟩
  · have w1 := h.w1
    rw [e1] at w1
    have z1 := wf_size w1.2.1 s
    rw [e1]
    exact ⟨by show max t.nest 0 + 1 ≤ 4; omega, by show (t.size + 0) + 1 ≤ 8; omega, by omega⟩
def spRule : Sp := fun vs H Q _ => ∃ (d c l wd pl : Addr) (ws : List Str) (W : List (Str × Int)) (ps : List Str), vs = [.ref d, .ref l, .ref wd, .ref pl] ∧ J76 d c l wd pl ws W ps H ∧ No76 d l wd pl ∧ ws ∈ MENUS ∧
  ∀ (v : V) (e : Ter × Ter) (H' : Hp), But d H H' → Dek H' d c → RlA H' v e → RlS ws e → Q v H'
theorem sc_law_rule : FnScope ["deck", "names", "weights", "precedence", "leaves", "left", "right", "name", "order"] ["deck", "names", "weights", "precedence"] (defScope s__law_rule) := ⟨rfl, rfl, rfl, by decide +kernel, rfl, by decide +kernel, by decide +kernel⟩
theorem tm_ks {H : Hp} : ∀ L : List Int, TmAll H (L.map V.int) (L.map fun i => Ter.var (.inl i))
  | [] => .nil
  | _ :: r => .cons (.int _) (tm_ks r)
theorem ok_law_rule {f fL fT fV fC : Addr} {fd dL dT dV dC : FuncData} (D : Df K mg "_law_rule" s__law_rule ["deck", "names", "weights", "precedence"] f fd)
    (DL : Df K mg "_law_leaves" s__law_leaves ["names", "many"] fL dL) (GL : FnOk P w K mg base CX0 1 fL dL ["names", "many"] spLeaves)
    (DT : Df K mg "_law_term" s__law_term ["deck", "depth", "leaves", "names"] fT dT) (GT : FnOk P w K mg base CX0 6 fT dT ["deck", "depth", "leaves", "names"] (spTermD 5))
    (DV : Df K mg "_law_vars" s__law_vars ["term"] fV dV) (GV : FnOk P w K mg base CX0 8 fV dV ["term"] (spVars 8))
    (DC : Df K mg "_law_compare" s__law_compare ["first", "second", "weights", "precedence"] fC dC) (GC : FnOk P w K mg base CX0 18 fC dC ["first", "second", "weights", "precedence"] spLCmp) : FnOk P w K mg base CX0 19 f fd ["deck", "names", "weights", "precedence"] spRule := by
  refine D.F.ok sc_law_rule (fun vs H Q E h => ?_) (fun cdv A outer s H vs Q E hr h => ?_)
  · obtain ⟨d, c, l, wd, pl, ws, W, ps, rfl, _⟩ := h; rfl
  obtain ⟨d, c, l, wd, pl, ws, W, ps, rfl, J, N, hm, q⟩ := h
  have nd := sc_law_rule.nd
  have hr1 : Room 1 _ := hr.mono (by decide)
  have hr6 : Room 6 _ := hr.mono (by decide)
  have hr8 : Room 8 _ := hr.mono (by decide)
  have l7 := menu_len ws hm
  have at_ : ∀ i : Nat, i < 7 → atI (ws.map V.str) (i : Nat) = some (.str (ws.getD i "")) ∧ ws[i]? = some (ws.getD i "") := fun i hi => by
    have e : ws[i]? = some (ws.getD i "") := by rw [List.getD_eq_getElem?_getD, List.getElem?_eq_getElem (by omega)]; rfl
    exact ⟨atI_nat (by rw [List.getElem?_map, e]; rfl), e⟩
  refine ⟨_, (pss_cons (ps_set (i := 4) nd rfl (.inl rfl) (pe_call GL hr1 (by rfl) DL.m DL.F.kp DL.b .nil pass0 (pa_cons (pv 1) (pa_cons pe_int pa_nil))))
    (pss_cons (ps_set (i := 5) nd rfl (.inl rfl) (pe_call GT hr6 (by rfl) DT.m DT.F.kp DT.b .nil pass0 (pa_cons (pv 0) (pa_cons pe_int (pa_cons (pv 4) (pa_cons (pv 1) pa_nil))))))
    (pss_cons (ps_set (i := 6) nd rfl (.inl rfl) (pe_call GT hr6 (by rfl) DT.m DT.F.kp DT.b .nil pass0 (pa_cons (pv 0) (pa_cons pe_int (pa_cons (pe_op op_cat (pe_lc (own := [("name", 7)]) (g := gName 7) (tt := tYes) (te := (tVar 7)) rfl nd (pi_list (pe_call GV hr8 (by rfl) DV.m DV.F.kp DV.b .nil pass0 (pa_cons (pv 5) pa_nil))) (blkOk_by (N := ["deck", "names", "weights", "precedence", "leaves", "left", "right", "name", "order"]) (sc := defScope s__law_rule) (by decide +kernel)) (fun _ _ _ _ _ => (pg_name (i := 7) nd rfl (.inl rfl))) (fun _ _ _ _ _ => pts_nil) (fun _ _ _ _ _ => (pv 7))) (pe_lst (pa_cons (pe_tup (pa_cons (pe_ix ix_list (pv 1) pe_int (fun _ _ => rfl)) pa_nil)) (pa_cons (pe_tup (pa_cons (pe_ix ix_list (pv 1) pe_int (fun _ _ => rfl)) pa_nil)) pa_nil)))) (pa_cons (pv 1) pa_nil))))))
    (pss_cons (ps_set (i := 8) nd rfl (.inl rfl) (pe_call GC hr (by rfl) DC.m DC.F.kp DC.b .nil pass0 (pa_cons (pv 5) (pa_cons (pv 6) (pa_cons (pv 2) (pa_cons (pv 3) pa_nil))))))
    (pss_cons (ps_if (pt_cmpR op_eq (pv 8) pe_str (nomark _))
      (pss_one (ps_ret (pe_tup (pa_cons (pv 5) (pa_cons (pv 6) pa_nil)))))
      pss_nil)
    (pss_cons (ps_if (pt_cmpR op_eq (pv 8) pe_str (nomark _))
      (pss_one (ps_ret (pe_tup (pa_cons (pv 6) (pa_cons (pv 5) pa_nil)))))
      pss_nil)
    (pss_one (ps_ret (pe_tup (pa_cons (pe_tup (pa_cons (pe_ix ix_list (pv 1) pe_int (fun _ _ => rfl)) (pa_cons (pv 5) pa_nil))) (pa_cons (pe_tup (pa_cons (pe_ix ix_list (pv 1) pe_int (fun _ _ => rfl)) pa_nil)) pa_nil))))))))))), ?_⟩
  refine ⟨_, rfl, l, ws, 2, rfl, J.hl, hm, by decide, fun lv xs H1 s1 n1 ev ht => ?_⟩
  have J1 := J.same s1
  have nv : lv ≠ d := J.dk.ne n1
  have l0 : 0 < (leafT ws 2).length := by rw [leafT_len]; omega
  have l9 : (leafT ws 2).length ≤ 1000 := by rw [leafT_len]; omega
  refine ⟨_, rfl, _, rfl, _, rfl, d, c, lv, l, ws, xs, leafT ws 2, 2, rfl, J1.dk, ev, ht, fun t ht => leaf_ok hm ht, l0, l9, J1.hl, hm, nv, N.l, by decide, fun v1 t1 H2 b2 hD2 hv1 w1 k1 z1 => ?_⟩
  have k1 : t1.nest ≤ 3 := k1
  have z1 : t1.size < 8 := z1
  have J2 := J1.deck N b2 hD2
  have b12 := s1.but.trans b2
  refine ⟨_, rfl, _, rfl, symW ws, v1, t1, rfl, hv1, w1, by omega, by omega, fun kp ks H3 s3 n3 ek hk hk0 lk => ?_⟩
  have J3 := J2.same s3
  refine ⟨kp, rfl, ⟨_, .inl (.inl ek)⟩, fun dd nd' => lc_list (K := K) (xs := ks.map V.int) (fun i F => Same H3 F ∧ F dd = some (.lst ((ks.take i).map V.int))) ⟨same_new nd' _, upd_same⟩ (fun i F _ h => .inl (.inl (h.1 _ _ ek))) (fun i x F hx h => ?_) (fun F h => ?_)⟩
  · obtain ⟨sm, ed⟩ := h
    obtain ⟨k, hk2, rfl⟩ : ∃ k, ks[i]? = some k ∧ V.int k = x := by
      rw [List.getElem?_map] at hx
      exact Option.map_eq_some_iff.mp hx
    have li : i < ks.length := (List.getElem?_eq_some_iff.mp hk2).1
    refine ⟨rfl, ?_⟩
    refine ⟨_, rfl, _, ed, small6' (by rw [List.length_map, List.length_take]; omega), But.same nd' sm But.upd, ?_⟩
    rw [upd_same, List.take_add_one, hk2, List.map_append]
    rfl
  obtain ⟨sm, ed⟩ := h
  rw [List.length_map, List.take_length] at ed
  have JF := J3.same sm
  refine ⟨_, rfl, l, _, 0, _, rfl, rfl, .inl (.inl JF.hl), (at_ 0 (by decide)).1, (by show 1 ≤ sizeLine; decide), fun p0 n0 => ?_⟩
  have t0 := same_new n0 (.tup [.str (ws.getD 0 "")])
  refine ⟨_, rfl, l, _, 1, _, rfl, rfl, .inl (.inl (t0 _ _ JF.hl)), (at_ 1 (by decide)).1, (by show 1 ≤ sizeLine; decide), fun p1 n1' => ?_⟩
  have t1' := same_new n1' (.tup [.str (ws.getD 1 "")])
  refine ⟨by show 2 ≤ sizeLine; decide, fun p3 n3' => ?_⟩
  have t3 := same_new n3' (.lst [.ref p0, .ref p1])
  have sA := t0.trans (t1'.trans t3)
  refine ⟨dd, p3, _, _, rfl, rfl, sA _ _ ed, upd_same, small6 (by rw [List.length_map]; show ks.length + 2 ≤ 1000000; omega), fun p5 n5 => ?_⟩
  have t5 := same_new n5 (.lst (ks.map V.int ++ [.ref p0, .ref p1]))
  have sB := sA.trans t5
  have JB := JF.same sB
  have np5 : p5 ≠ d := (JF.same sA).dk.ne n5
  have hx : TmAll _ (ks.map V.int ++ [V.ref p0, .ref p1]) ((ks.map fun i => Ter.var (.inl i)) ++ [.ap (ws.getD 0 "") [], .ap (ws.getD 1 "") []]) := TmAll.app (tm_ks ks) (.cons (.ap ((t1'.trans (t3.trans t5)) _ _ upd_same) .nil) (.cons (.ap ((t3.trans t5) _ _ upd_same) .nil) .nil))
  have hlf : ∀ t ∈ (ks.map fun i => Ter.var (.inl i)) ++ [.ap (ws.getD 0 "") [], .ap (ws.getD 1 "") []], LeafOk ws t := fun t ht => by
    rcases List.mem_append.mp ht with ht | ht
    · obtain ⟨i, hi, rfl⟩ := List.mem_map.mp ht
      exact ⟨⟨i, rfl, cnt_nat t1 w1 (hk0 i hi)⟩, rfl, rfl⟩
    · rcases List.mem_cons.mp ht with rfl | ht
      · exact ⟨⟨.inl ⟨⟨0, by decide, (at_ 0 (by decide)).2⟩, rfl⟩, trivial⟩, rfl, rfl⟩
      · rw [List.mem_singleton.mp ht]
        exact ⟨⟨.inl ⟨⟨1, by decide, (at_ 1 (by decide)).2⟩, rfl⟩, trivial⟩, rfl, rfl⟩
  have ll : ((ks.map fun i => Ter.var (.inl i)) ++ [Ter.ap (ws.getD 0 "") [], .ap (ws.getD 1 "") []]).length = ks.length + 2 := by rw [List.length_append, List.length_map]; rfl
  refine ⟨_, rfl, d, c, p5, l, ws, _, _, 1, rfl, JB.dk, upd_same, hx, hlf, by omega, by omega, JB.hl, hm, np5, N.l, by decide, fun v2 t2 H6 b6 hD6 hv2 w2 k2 z2 => ?_⟩
  have k2 : t2.nest ≤ 2 := k2
  have z2 : t2.size < 4 := z2
  have J6 := JB.deck N b6 hD6
  have s26 := s3.trans (sm.trans sB)
  have m26 := s26.tups.trans (JB.dk.tups b6)
  have hv1' := TmAt.mono m26 _ _ hv1
  have bH6 := b12.trans (s26.but.trans b6)
  refine ⟨_, rfl, _, rfl, _, rfl, _, rfl, symW ws, v1, v2, t1, t2, wd, pl, W, ps, rfl, ⟨symF_W hm, hv1', hv2, w1, w2, by omega, by omega, by omega, by omega, J6.hw, J6.hp⟩, fun H7 s7 => ?_⟩
  have J7 := J6.same s7
  have hv1'' := TmAt.mono s7.tups _ _ hv1'
  have hv2'' := TmAt.mono s7.tups _ _ hv2
  have b7 := bH6.trans s7.but
  refine ⟨_, rfl, rfl, _, rfl, ite2 (fun _ => ?_) (fun _ => ?_)⟩
  · refine ⟨_, rfl, _, rfl, by show 2 ≤ sizeLine; decide, fun pr npr => ?_⟩
    have s8 := same_new npr (.tup [v1, v2])
    exact q _ (t1, t2) _ (b7.trans s8.but) (J7.dk.same s8) ⟨pr, v1, v2, rfl, upd_same, TmAt.mono s8.tups _ _ hv1'', TmAt.mono s8.tups _ _ hv2''⟩ ⟨w1, w2, by show t2.nest ≤ 3; omega, .inl k1⟩
  refine ⟨_, rfl, rfl, _, rfl, ite2 (fun _ => ?_) (fun _ => ?_)⟩
  · refine ⟨_, rfl, _, rfl, by show 2 ≤ sizeLine; decide, fun pr npr => ?_⟩
    have s8 := same_new npr (.tup [v2, v1])
    exact q _ (t2, t1) _ (b7.trans s8.but) (J7.dk.same s8) ⟨pr, v2, v1, rfl, upd_same, TmAt.mono s8.tups _ _ hv2'', TmAt.mono s8.tups _ _ hv1''⟩ ⟨w2, w1, k1, .inl (by show t2.nest ≤ 3; omega)⟩
  · refine ⟨_, rfl, l, _, 3, _, rfl, rfl, .inl (.inl J7.hl), (at_ 3 (by decide)).1, _, rfl, by show 2 ≤ sizeLine; decide, fun pa npa => ?_⟩
    have s8 := same_new npa (.tup [.str (ws.getD 3 ""), v1])
    refine ⟨_, rfl, l, _, 0, _, rfl, rfl, .inl (.inl (s8 _ _ J7.hl)), (at_ 0 (by decide)).1, by show 1 ≤ sizeLine; decide, fun pb npb => ?_⟩
    have s9 := same_new npb (.tup [.str (ws.getD 0 "")])
    refine ⟨by show 2 ≤ sizeLine; decide, fun pr npr => ?_⟩
    have s10 := same_new npr (.tup [.ref pa, .ref pb])
    have sC := s8.trans (s9.trans s10)
    exact q _ (.ap (ws.getD 3 "") [t1], .ap (ws.getD 0 "") []) _ (b7.trans sC.but) (J7.dk.same sC) ⟨pr, _, _, rfl, upd_same, .ap ((s9.trans s10) _ _ upd_same) (.cons (TmAt.mono sC.tups _ _ hv1'') .nil), .ap (s10 _ _ upd_same) .nil⟩ ⟨⟨.inr (.inl ⟨(at_ 3 (by decide)).2, rfl⟩), w1, trivial⟩, ⟨.inl ⟨⟨0, by decide, (at_ 0 (by decide)).2⟩, rfl⟩, trivial⟩, by show 0 + 1 ≤ 3; decide, .inr ⟨t1, rfl, k1⟩⟩
end

end K76
namespace K76
open PySem PySem.Spec PyProof.Rows L2 Own HT
section
variable {P : Program} {w : World} {K : PySem.W.Frag} {mg : Str → Option Value} {base : Heap}
/-! ### _law_rules -/
theorem upW {ws : List Str} (hm : ws ∈ MENUS) {W : List (Str × Int)} (o : WOk ws W) : UpW (ws.getD 3 "") (wtOf W) := by
  have l7 := menu_len ws hm
  have e3 : ws[3]? = some (ws.getD 3 "") := by rw [List.getD_eq_getElem?_getD, List.getElem?_eq_getElem (by omega)]; rfl
  have al : ∀ f, wtOf W f ≤ 3 ∨ (f = ws.getD 3 "" ∧ wtOf W f = 10 ^ 20 + 3) := fun f => by
    unfold wtOf
    cases z : W.find? fun e => decide (e.1 = f) with
    | none => exact .inl (by show (1 : Int) ≤ 3; decide)
    | some e =>
      have h0 := List.find?_some z
      have h1 : e.1 = f := of_decide_eq_true h0
      rcases o.up e (List.mem_of_find?_eq_some z) with h | ⟨h2, h3⟩
      · exact .inl h
      · rw [h1, e3] at h2
        exact .inr ⟨(Option.some.inj h2).symm, h3⟩
  refine ⟨wtOf_one o.pos, fun f nf => ?_, ?_⟩
  · rcases al f with h | ⟨h, _⟩
    · exact h
    · exact absurd h nf
  · rcases al (ws.getD 3 "") with h | ⟨_, h⟩
    · exact .inl h
    · exact .inr h
theorem shpS {ws : List Str} (hm : ws ∈ MENUS) (f : Str) (n : Nat) (h : symW ws f n) : shpW (ws.getD 3 "") f n := by
  have l7 := menu_len ws hm
  have ndw := menu_nd ws hm
  have e3 : ws[3]? = some (ws.getD 3 "") := by rw [List.getD_eq_getElem?_getD, List.getElem?_eq_getElem (by omega)]; rfl
  have inj : ∀ {i j : Nat} {f : Str}, ws[i]? = some f → ws[j]? = some f → i = j := fun {i j f} h1 h2 => (List.getElem?_inj (List.getElem?_eq_some_iff.mp h1).1 ndw).mp (h1.trans h2.symm)
  rcases h with ⟨⟨i, hi, e⟩, rfl⟩ | ⟨e, rfl⟩ | ⟨e, rfl⟩
  · refine .inr ⟨fun z => ?_, .inl rfl⟩
    rw [z] at e
    have := inj e e3
    omega
  · rw [e3] at e
    exact .inl ⟨(Option.some.inj e).symm, rfl⟩
  · refine .inr ⟨fun z => ?_, .inr rfl⟩
    rw [z] at e
    have := inj e e3
    omega
theorem wdOk {ws : List Str} (hm : ws ∈ MENUS) {W : List (Str × Int)} (o : WOk ws W) : Wd (ws.getD 3 "") (wtOf W) (symW ws) := ⟨upW hm o, shpS hm, symF_W hm⟩
theorem rlOk {ws : List Str} {W : List (Str × Int)} {ps : List Str} {e : Ter × Ter} (h : RlS ws e) (g : gre W ps 8 e.1 e.2) : RlOk (ws.getD 3 "") (wtOf W) (symW ws) e := by
  obtain ⟨b1, b2, b3⟩ := h.bd
  refine ⟨h.w1, h.w2, b1, h.n2, b2, b3, h.sh, g.1, ?_⟩
  rw [← wt_lin, ← wt_lin]
  obtain ⟨_, g2⟩ := g
  by_cases c : e.1.wt W = e.2.wt W
  · omega
  · rw [if_neg c] at g2; omega
theorem RlA.mt {H H' : Hp} {v : V} {e : Ter × Ter} (h : RlA H v e) (m : Tups H H') : RlA H' v e := by
  obtain ⟨p, x, y, e0, e1, h1, h2⟩ := h
  exact ⟨p, x, y, e0, m _ _ e1, TmAt.mono m _ _ h1, TmAt.mono m _ _ h2⟩
def spRules : Sp := fun vs H Q _ => ∃ (d c l wd pl : Addr) (ws : List Str) (W : List (Str × Int)) (ps : List Str), vs = [.ref d, .ref l, .ref wd, .ref pl, .int 3] ∧ J76 d c l wd pl ws W ps H ∧ No76 d l wd pl ∧ ws ∈ MENUS ∧ WOk ws W ∧
  ∀ (rl : Addr) (R : Rls) (H' : Hp), But d H H' → H rl = none → Dek H' d c → RlsAt (ws.getD 3 "") (wtOf W) (symW ws) H' rl R → R.length ≤ 3 → Q (.ref rl) H'
theorem sc_law_rules : FnScope ["deck", "names", "weights", "precedence", "most", "rules", "k", "rule"] ["deck", "names", "weights", "precedence", "most"] (defScope s__law_rules) := ⟨rfl, rfl, rfl, by decide +kernel, rfl, by decide +kernel, by decide +kernel⟩
theorem ok_law_rules {f fR fD fC : Addr} {fd dR dD dC : FuncData} (D : Df K mg "_law_rules" s__law_rules ["deck", "names", "weights", "precedence", "most"] f fd)
    (DR : Df K mg "_law_rule" s__law_rule ["deck", "names", "weights", "precedence"] fR dR) (GR : FnOk P w K mg base CX0 19 fR dR ["deck", "names", "weights", "precedence"] spRule)
    (DD : Df K mg "_law_draw" s__law_draw ["deck", "most"] fD dD) (GD : FnOk P w K mg base CX0 1 fD dD ["deck", "most"] spDraw)
    (DC : Df K mg "_law_compare" s__law_compare ["first", "second", "weights", "precedence"] fC dC) (GC : FnOk P w K mg base CX0 18 fC dC ["first", "second", "weights", "precedence"] spLCmp)
    (m_range : mg "range" = none) (m_isinstance : mg "isinstance" = none) (m_tuple : mg "tuple" = none) : FnOk P w K mg base CX0 20 f fd ["deck", "names", "weights", "precedence", "most"] spRules := by
  refine D.F.ok sc_law_rules (fun vs H Q E h => ?_) (fun cdv A outer s H vs Q E hr h => ?_)
  · obtain ⟨d, c, l, wd, pl, ws, W, ps, rfl, _⟩ := h; rfl
  obtain ⟨d, c, l, wd, pl, ws, W, ps, rfl, J, N, hm, oW, q⟩ := h
  have nd := sc_law_rules.nd
  have hr1 : Room 1 _ := hr.mono (by decide)
  have hr18 : Room 18 _ := hr.mono (by decide)
  refine ⟨_, (pss_cons (ps_set (i := 5) nd rfl (.inl rfl) (pe_lst pa_nil))
    (pss_cons (ps_for PassesOwn.never rfl (pi_range1 (by rfl) m_range (pa_cons (pe_call GD hr1 (by rfl) DD.m DD.F.kp DD.b .nil pass0 (pa_cons (pv 0) (pa_cons (pe_op op_add (pv 4) pe_int) pa_nil))) pa_nil)) (pg_name (i := 6) nd rfl (.inl rfl))
      (pss_cons (ps_set (i := 7) nd rfl (.inl rfl) (pe_call GR hr (by rfl) DR.m DR.F.kp DR.b .nil pass0 (pa_cons (pv 0) (pa_cons (pv 1) (pa_cons (pv 2) (pa_cons (pv 3) pa_nil))))))
    (pss_one (ps_if (PW.pt (pw_and (pt_val (pe_callB call_isiTer (by rfl) m_isinstance (by decide +kernel) (pa_cons (pe_ix ix_tup (pv 7) pe_int (fun _ _ => rfl)) (pa_cons (pe_bltn (v := .ty "tuple") (by rfl) m_tuple (by decide +kernel) rfl) pa_nil)))) (pw_and1 (pt_cmpR op_eq (pe_call GC hr18 (by rfl) DC.m DC.F.kp DC.b .nil pass0 (pa_cons (pe_ix ix_tup (pv 7) pe_int (fun _ _ => rfl)) (pa_cons (pe_ix ix_tup (pv 7) pe_int (fun _ _ => rfl)) (pa_cons (pv 2) (pa_cons (pv 3) pa_nil))))) pe_str (nomark _)))))
      (pss_one (ps_expr (pe_bm PySem.F.plainAttrs_list PySem.F.slot_list_append PySem.F.type_list_append mt_append (pv 5) (pa_cons (pv 7) pa_nil))))
      pss_nil))))
    (pss_one (ps_ret (pv 5))))), ?_⟩
  refine ⟨Nat.zero_le _, fun rl nrl => ?_⟩
  have s0 := same_new nrl (.lst [])
  have nrd : rl ≠ d := J.dk.ne nrl
  have J0 := J.same s0
  refine ⟨_, rfl, _, rfl, _, _, rfl, rfl, d, _, rfl, c, J0.dk, by decide, by decide, fun r H1 r0 r4 b1 hD1 => ?_⟩
  have J1 := J0.deck N b1 hD1
  have b01 := s0.but.trans b1
  refine ⟨r, rfl, by omega, by omega, for_range (n := r.toNat) (fun i σ F => ∃ (y6 y7 : Option V) (R : Rls) (rs : List V), σ = [some (.ref d), some (.ref l), some (.ref wd), some (.ref pl), some (.int 3), some (.ref rl), y6, y7] ∧ But d H F ∧ J76 d c l wd pl ws W ps F ∧ F rl = some (.lst rs) ∧ ZA (RlA F) rs R ∧ (∀ e ∈ R, RlOk (ws.getD 3 "") (wtOf W) (symW ws) e) ∧ R.length ≤ i) ⟨none, none, [], [], rfl, b01, J1, b1 _ _ nrd upd_same, .nil, (fun _ h => by cases h), Nat.le_refl _⟩ (fun i σ F hi h => ?_) (fun σ F h => ?_)⟩
  · obtain ⟨y6, y7, R, rs, rfl, b, JF, er, hz, ok, lR⟩ := h
    refine ⟨_, rfl, _, rfl, _, rfl, _, rfl, d, c, l, wd, pl, ws, W, ps, rfl, JF, N, hm, fun v e F2 b2 hD2 hv he => ?_⟩
    have J2 := JF.deck N b2 hD2
    have er2 := b2 _ _ nrd er
    have m2 := JF.dk.tups b2
    have hz2 := hz.mono fun v x h => RlA.mt h m2
    obtain ⟨eb1, eb2, eb3⟩ := he.bd
    obtain ⟨rp, x, y, rfl, erp, h1, h2⟩ := hv
    refine ⟨_, rfl, rp, _, 0, x, rfl, rfl, .inl (.inl erp), head_at, x, e.1, rfl, h1, _, rfl, ?_⟩
    have done : ∀ (F3 : Hp), Same F2 F3 → ∃ (y6' y7' : Option V) (R' : Rls) (rs' : List V), [some (V.ref d), some (.ref l), some (.ref wd), some (.ref pl), some (.int 3), some (.ref rl), some (.int (0 + (i : Nat))), some (.ref rp)] = [some (V.ref d), some (.ref l), some (.ref wd), some (.ref pl), some (.int 3), some (.ref rl), y6', y7'] ∧ But d H F3 ∧ J76 d c l wd pl ws W ps F3 ∧ F3 rl = some (.lst rs') ∧ ZA (RlA F3) rs' R' ∧ (∀ e ∈ R', RlOk (ws.getD 3 "") (wtOf W) (symW ws) e) ∧ R'.length ≤ i + 1 := fun F3 s3 => ⟨_, _, R, rs, rfl, b.trans (b2.trans s3.but), J2.same s3, s3 _ _ er2, hz2.mono fun v x h => h.mono s3, ok, by omega⟩
    cases e.1.isVar with
    | true => exact iteF (iteF (done F2 (Same.refl _)))
    | false =>
      refine iteT ?_
      refine ⟨_, rfl, rp, _, 0, x, rfl, rfl, .inl (.inl erp), head_at, _, rfl, rp, _, 1, y, rfl, rfl, .inl (.inl erp), atI_nat (j := 1) rfl, _, rfl, _, rfl, symW ws, x, y, e.1, e.2, wd, pl, W, ps, rfl, ⟨symF_W hm, h1, h2, he.w1, he.w2, by omega, by have := he.n2; omega, by omega, by omega, J2.hw, J2.hp⟩, fun F3 s3 => ?_⟩
      have J3 := J2.same s3
      have er3 := s3 _ _ er2
      refine ⟨rfl, _, rfl, ite2 (fun cc => ?_) (fun _ => done F3 s3)⟩
      have cc : cmpS W ps 8 e.1 e.2 = "greater" := V.str.inj (of_decide_eq_true cc)
      have g := gre_of_cmp cc
      have lz := hz.len
      refine ⟨_, rfl, tyl er3, _, rfl, rl, rs, _, rfl, rfl, er3, small6' (by omega), ?_⟩
      have b4 : But rl F3 (upd F3 rl (.lst (rs ++ [V.ref rp]))) := But.upd
      have m4 := b4.tups er3
      have bH : But d H (upd F3 rl (.lst (rs ++ [V.ref rp]))) := fun a o n1 e => by
        rw [upd_ne (ne_of_none e nrl)]
        exact s3 _ _ (b2 a o n1 (b a o n1 e))
      have ncr : c ≠ rl := fun z => (J.dk.nec nrl) z.symm
      have J4 : J76 d c l wd pl ws W ps (upd F3 rl (.lst (rs ++ [V.ref rp]))) := ⟨J3.dk.but b4 nrd.symm ncr, b4 _ _ (ne_of_none J.hl nrl) J3.hl, b4 _ _ (ne_of_none J.hw nrl) J3.hw, b4 _ _ (ne_of_none J.hp nrl) J3.hp⟩
      refine ⟨_, _, R ++ [e], rs ++ [V.ref rp], rfl, bH, J4, upd_same, (hz2.mono fun v x h => RlA.mt (h.mono s3) m4).app (.cons (RlA.mt (RlA.mono ⟨rp, x, y, rfl, erp, h1, h2⟩ s3) m4) .nil), fun e' he' => ?_, by rw [List.length_append, List.length_singleton]; omega⟩
      rcases List.mem_append.mp he' with he' | he'
      · exact ok e' he'
      · rw [List.mem_singleton.mp he']; exact rlOk he g
  · obtain ⟨y6, y7, R, rs, rfl, b, JF, er, hz, ok, lR⟩ := h
    exact ⟨_, rfl, q rl R F b nrl JF.dk ⟨⟨rs, er, hz⟩, ok, by omega⟩ (by omega)⟩
/-! ### _law_start -/
theorem rls_dp {H : Hp} {rs : List V} {R : Rls} (h : ZA (RlA H) rs R) : DpAll K H rs (R.map fun e => .tuple [e.1.dat, e.2.dat]) := h.dp fun v x ⟨p, a, b, e0, e1, h1, h2⟩ => e0 ▸ .tup (.inl (.inl e1)) (.cons (dp_ter _ _ h1) (.cons (dp_ter _ _ h2) .nil))
theorem rls_shp {f0 : Str} {w' : Str → Int} {S : Str → Nat → Prop} (SF : SymF S) {R : Rls} (ok : ∀ e ∈ R, RlOk f0 w' S e) : SeqAt.shaped (.list (R.map fun e => PyData.tuple [e.1.dat, e.2.dat])) = true := by
  have : ∀ R : Rls, (∀ e ∈ R, RlOk f0 w' S e) → PyData.canLayAll0 (R.map fun e => PyData.tuple [e.1.dat, e.2.dat]) = true ∧ PyData.depthAll (R.map fun e => PyData.tuple [e.1.dat, e.2.dat]) ≤ 60 := fun R => by
    induction R with
    | nil => exact fun _ => ⟨rfl, Nat.zero_le _⟩
    | cons e r ih =>
      intro ok
      obtain ⟨i1, i2⟩ := ih fun x hx => ok x (List.mem_cons_of_mem _ hx)
      have he := ok e List.mem_cons_self
      obtain ⟨c1, d1⟩ := SF.lay he.w1
      obtain ⟨c2, d2⟩ := SF.lay he.w2
      have n1 := he.n1
      have n2 := he.n2
      refine ⟨?_, ?_⟩
      · show ((e.1.dat.canLay0 && (e.2.dat.canLay0 && true)) && PyData.canLayAll0 (r.map _)) = true
        rw [c1, c2, i1]; rfl
      · show max (max e.1.dat.depth (max e.2.dat.depth 0) + 1) (PyData.depthAll (r.map _)) ≤ 60
        omega
  obtain ⟨h1, h2⟩ := this R ok
  show (PyData.canLayAll0 (R.map _) && decide (PyData.depthAll (R.map _) + 1 ≤ 64)) = true
  rw [h1, decide_eq_true (by omega)]; rfl
def spStart : Sp := fun vs H Q _ => ∃ (d c l rl : Addr) (ws : List Str) (W : List (Str × Int)) (R : Rls), vs = [.ref d, .ref rl, .ref l] ∧ Dek H d c ∧ H l = some (.lst (ws.map V.str)) ∧ l ≠ d ∧ rl ≠ d ∧ ws ∈ MENUS ∧ WOk ws W ∧ RlsAt (ws.getD 3 "") (wtOf W) (symW ws) H rl R ∧
  ∀ (v : V) (t : Ter) (H' : Hp), But d H H' → Dek H' d c → TmAt H' v t → LowT (ws.getD 3 "") (wtOf W) (symW ws) t → Q v H'
theorem sc_law_start : FnScope ["deck", "rules", "names", "leaves", "term", "sub"] ["deck", "rules", "names"] (defScope s__law_start) := ⟨rfl, rfl, rfl, by decide +kernel, rfl, by decide +kernel, by decide +kernel⟩
def sub2 (t0 t1 : Ter) (k : Key) : Ter := if k = .inl 0 then t0 else if k = .inl 1 then t1 else .var k
/-- how much a drawn term weighs, by its depth -/
theorem phi_heavy : phi 21 2 = 24 ∧ phi 21 3 = 51 ∧ phi 21 4 = 105 := ⟨rfl, rfl, rfl⟩
theorem phi_light {A : Int} (h : A ≤ 3) : phi A 2 ≤ 9 ∧ phi A 3 ≤ 21 ∧ phi A 4 ≤ 45 := by
  have e2 : phi A 2 = max (A + 3) (3 + 2 * 3) := rfl
  have e3 : phi A 3 = max (A + phi A 2) (3 + 2 * phi A 2) := rfl
  have e4 : phi A 4 = max (A + phi A 3) (3 + 2 * phi A 3) := rfl
  omega
theorem low_3 {ws : List Str} (hm : ws ∈ MENUS) {W : List (Str × Int)} (o : WOk ws W) {t : Ter} (hw : t.wf (symW ws) natVar) (hn : t.nest ≤ 3) : LowT (ws.getD 3 "") (wtOf W) (symW ws) t := by
  have U := upW hm o
  have p := low_phi U (symW ws) (shpS hm) t 3 hw hn
  refine ⟨hw, ?_⟩
  unfold lowB
  rcases lowW_f0 U with ⟨hv, e⟩ | ⟨hv, e⟩
  · rw [if_pos hv]
    rw [e, phi_heavy.2.1] at p
    omega
  · rw [if_neg hv]
    have := phi_light e
    omega
/-- an instance of a rule's left side -/
theorem low_L {ws : List Str} (hm : ws ∈ MENUS) {W : List (Str × Int)} (o : WOk ws W) {L : Ter} (hw : L.wf (symW ws) natVar) (sh : L.nest ≤ 3 ∨ ∃ t, L = .ap (ws.getD 3 "") [t] ∧ t.nest ≤ 3) {s : Key → Ter} (sn : ∀ k, (s k).nest ≤ 2) (sw : ∀ k, natVar k → (s k).wf (symW ws) natVar) :
    (L.bind s).lin (lowW (ws.getD 3 "") (wtOf W)) (fun _ => 1) ≤ (if 3 < wtOf W (ws.getD 3 "") then 126 else 48) := by
  have U := upW hm o
  have four : ∀ t : Ter, t.wf (symW ws) natVar → t.nest ≤ 3 → (t.bind s).lin (lowW (ws.getD 3 "") (wtOf W)) (fun _ => 1) ≤ phi (lowW (ws.getD 3 "") (wtOf W) (ws.getD 3 "")) 4 := fun t hw hn => by
    have := bind_nest1 (by decide) sn t
    exact low_phi U (symW ws) (shpS hm) _ 4 (bind_wf sw t hw) (by omega)
  rcases sh with hn | ⟨t, rfl, hn⟩
  · have p := four L hw hn
    rcases lowW_f0 U with ⟨hv, e⟩ | ⟨hv, e⟩
    · rw [if_pos hv]
      rw [e, phi_heavy.2.2] at p
      omega
    · rw [if_neg hv]
      have := phi_light e
      omega
  · have p := four t hw.2.1 hn
    show lowW _ _ _ + ((t.bind s).lin _ _ + 0) ≤ _
    rcases lowW_f0 U with ⟨hv, e⟩ | ⟨hv, e⟩
    · rw [if_pos hv]
      rw [e] at p ⊢
      rw [phi_heavy.2.2] at p
      omega
    · rw [if_neg hv]
      have := phi_light e
      omega
theorem low_wrap {ws : List Str} (hm : ws ∈ MENUS) {W : List (Str × Int)} (o : WOk ws W) {g : Str} (hg : symW ws g 2) {a b : Ter} (ha : a.wf (symW ws) natVar) (na : a.nest ≤ 2) (hb : b.wf (symW ws) natVar)
    (lb : b.lin (lowW (ws.getD 3 "") (wtOf W)) (fun _ => 1) ≤ (if 3 < wtOf W (ws.getD 3 "") then 126 else 48)) : LowT (ws.getD 3 "") (wtOf W) (symW ws) (.ap g [a, b]) := by
  have U := upW hm o
  have p := low_phi U (symW ws) (shpS hm) a 2 ha na
  have ng : g ≠ ws.getD 3 "" := by
    rcases shpS hm g 2 hg with ⟨_, h⟩ | ⟨h, _⟩
    · cases h
    · exact h
  have wg : lowW (ws.getD 3 "") (wtOf W) g ≤ 3 := by unfold lowW; rw [if_neg ng]; exact U.le g ng
  refine ⟨⟨hg, ha, hb, trivial⟩, ?_⟩
  show lowW _ _ g + (a.lin _ _ + (b.lin _ _ + 0)) ≤ _
  unfold lowB
  rcases lowW_f0 U with ⟨hv, e⟩ | ⟨hv, e⟩
  · rw [if_pos hv] at lb ⊢
    rw [e, phi_heavy.1] at p
    omega
  · rw [if_neg hv] at lb ⊢
    have := phi_light e
    omega
theorem low_le {ws : List Str} {W : List (Str × Int)} {t : Ter} (hw : t.wf (symW ws) natVar) (h : t.lin (lowW (ws.getD 3 "") (wtOf W)) (fun _ => 1) ≤ (if 3 < wtOf W (ws.getD 3 "") then 126 else 48)) : LowT (ws.getD 3 "") (wtOf W) (symW ws) t := by
  refine ⟨hw, ?_⟩
  unfold lowB
  by_cases hv : 3 < wtOf W (ws.getD 3 "")
  · rw [if_pos hv] at h ⊢; omega
  · rw [if_neg hv] at h ⊢; omega
theorem RlsAt.mt {f0 : Str} {w' : Str → Int} {S : Str → Nat → Prop} {H H' : Hp} {l : Addr} {R : Rls} (h : RlsAt f0 w' S H l R) (e : ∀ rs, H l = some (.lst rs) → H' l = some (.lst rs)) (m : Tups H H') : RlsAt f0 w' S H' l R := by
  obtain ⟨⟨rs, er, z⟩, o, n⟩ := h
  exact ⟨⟨rs, e _ er, z.mono fun v x h => RlA.mt h m⟩, o, n⟩
theorem ok_law_start {f fL fT fD fA : Addr} {fd dL dT dD dA : FuncData} (D : Df K mg "_law_start" s__law_start ["deck", "rules", "names"] f fd)
    (DL : Df K mg "_law_leaves" s__law_leaves ["names", "many"] fL dL) (GL : FnOk P w K mg base CX0 1 fL dL ["names", "many"] spLeaves)
    (DT : Df K mg "_law_term" s__law_term ["deck", "depth", "leaves", "names"] fT dT) (GT : FnOk P w K mg base CX0 6 fT dT ["deck", "depth", "leaves", "names"] (spTermD 5))
    (DD : Df K mg "_law_draw" s__law_draw ["deck", "most"] fD dD) (GD : FnOk P w K mg base CX0 1 fD dD ["deck", "most"] spDraw)
    (DA : Df K mg "_law_apply" s__law_apply ["sub", "term"] fA dA) (GA : FnOk P w K mg base CX0 8 fA dA ["sub", "term"] (spApp 8)) (m_len : mg "len" = none) : FnOk P w K mg base CX0 9 f fd ["deck", "rules", "names"] spStart := by
  refine D.F.ok sc_law_start (fun vs H Q E h => ?_) (fun cdv A outer s H vs Q E hr h => ?_)
  · obtain ⟨d, c, l, rl, ws, W, R, rfl, _⟩ := h; rfl
  obtain ⟨d, c, l, rl, ws, W, R, rfl, hD, hl, nl, nrl, hm, oW, hR, q⟩ := h
  have nd := sc_law_start.nd
  have hr1 : Room 1 _ := hr.mono (by decide)
  have hr6 : Room 6 _ := hr.mono (by decide)
  have l7 := menu_len ws hm
  have at_ : ∀ i : Nat, i < 7 → atI (ws.map V.str) (i : Nat) = some (.str (ws.getD i "")) ∧ ws[i]? = some (ws.getD i "") := fun i hi => by
    have e : ws[i]? = some (ws.getD i "") := by rw [List.getD_eq_getElem?_getD, List.getElem?_eq_getElem (by omega)]; rfl
    exact ⟨atI_nat (by rw [List.getElem?_map, e]; rfl), e⟩
  refine ⟨_, (pss_cons (ps_set (i := 3) nd rfl (.inl rfl) (pe_call GL hr1 (by rfl) DL.m DL.F.kp DL.b .nil pass0 (pa_cons (pv 2) (pa_cons pe_int pa_nil))))
    (pss_cons (ps_set (i := 4) nd rfl (.inl rfl) (pe_call GT hr6 (by rfl) DT.m DT.F.kp DT.b .nil pass0 (pa_cons (pv 0) (pa_cons pe_int (pa_cons (pv 3) (pa_cons (pv 2) pa_nil))))))
    (C8.pss_cut (ps_if (PW.pt (pw_and (pt_cmpR (op_neD hr.units) (pv 1) (pe_lst pa_nil) (nomark _)) (pw_and1 (pt_cmpR op_gt (pe_call GD hr1 (by rfl) DD.m DD.F.kp DD.b .nil pass0 (pa_cons (pv 0) (pa_cons pe_int pa_nil))) pe_int (nomark _)))))
      (pss_cons (ps_set (i := 5) nd rfl (.inl rfl) (pe_disp (pps_cons pe_int (pe_call GT hr6 (by rfl) DT.m DT.F.kp DT.b .nil pass0 (pa_cons (pv 0) (pa_cons pe_int (pa_cons (pv 3) (pa_cons (pv 2) pa_nil))))) (pps_cons pe_int (pe_call GT hr6 (by rfl) DT.m DT.F.kp DT.b .nil pass0 (pa_cons (pv 0) (pa_cons pe_int (pa_cons (pv 3) (pa_cons (pv 2) pa_nil))))) pps_nil)) (by rfl) (by rfl) (fun z => by cases z) (by decide)))
    (pss_cons (ps_set (i := 4) nd rfl (.inl rfl) (pe_call GA hr (by rfl) DA.m DA.F.kp DA.b .nil pass0 (pa_cons (pv 5) (pa_cons (pe_ix ix_tup (pe_ix ix_list (pv 1) (pe_call GD hr1 (by rfl) DD.m DD.F.kp DD.b .nil pass0 (pa_cons (pv 0) (pa_cons (pe_callB call_len_seq (by rfl) m_len PySem.boot_len (pa_cons (pv 1) pa_nil)) pa_nil))) (fun _ _ => rfl)) pe_int (fun _ _ => rfl)) pa_nil))))
    (pss_one (ps_if (pt_cmpR op_eq (pe_call GD hr1 (by rfl) DD.m DD.F.kp DD.b .nil pass0 (pa_cons (pv 0) (pa_cons pe_int pa_nil))) pe_int (nomark _))
      (pss_one (ps_set (i := 4) nd rfl (.inl rfl) (pe_tup (pa_cons (pe_ix ix_list (pv 2) pe_int (fun _ _ => rfl)) (pa_cons (pe_call GT hr6 (by rfl) DT.m DT.F.kp DT.b .nil pass0 (pa_cons (pv 0) (pa_cons pe_int (pa_cons (pv 3) (pa_cons (pv 2) pa_nil))))) (pa_cons (pv 4) pa_nil))))))
      pss_nil))))
      pss_nil)
    (pss_one (ps_ret (pv 4)))))), ?_⟩
  have l0 : 0 < (leafT ws 3).length := by rw [leafT_len]; omega
  have l9 : (leafT ws 3).length ≤ 1000 := by rw [leafT_len]; omega
  refine ⟨_, rfl, l, ws, 3, rfl, hl, hm, by decide, fun lv xs H1 s1 n1 ev ht => ?_⟩
  have nv : lv ≠ d := hD.ne n1
  refine ⟨_, rfl, _, rfl, _, rfl, d, c, lv, l, ws, xs, leafT ws 3, 2, rfl, hD.same s1, ev, ht, fun t ht => leaf_ok hm ht, l0, l9, s1 _ _ hl, hm, nv, nl, by decide, fun v t H2 b2 hD2 hv w2 k2 z2 => ?_⟩
  have k2 : t.nest ≤ 3 := k2
  have b12 := s1.but.trans b2
  have hR2 : RlsAt (ws.getD 3 "") (wtOf W) (symW ws) H2 rl R := hR.mt (fun rs e => b12 _ _ nrl e) (hD.tups b12)
  have hl2 := b12 _ _ nl hl
  have ev2 := b2 _ _ nv ev
  have ht2 := TmAll.mono ((hD.same s1).tups b2) _ _ ht
  refine ⟨fun σ F => ∃ (y5 : Option V) (v' : V) (t' : Ter), σ = [some (.ref d), some (.ref rl), some (.ref l), some (.ref lv), some v', y5] ∧ But d H F ∧ Dek F d c ∧ TmAt F v' t' ∧ LowT (ws.getD 3 "") (wtOf W) (symW ws) t', ?_, fun σ F h => ?_⟩
  · obtain ⟨rs, er, zr⟩ := hR2.at_
    have okR := hR2.ok
    have lz := zr.len
    refine ⟨_, rfl, Nat.zero_le _, fun el nel => ?_⟩
    have s3 := same_new nel (.lst [])
    refine ⟨.list (R.map fun e => .tuple [e.1.dat, e.2.dat]), .list [], .lst (.inl (.inl (s3 _ _ er))) (rls_dp (zr.mono fun v x h => h.mono s3)), .lst (.inl (.inl upd_same)) .nil, rls_shp (symF_W hm) okR, by decide +kernel, _, rfl, ?_⟩
    have b13 := b12.trans s3.but
    have hD3 := hD2.same s3
    have stay : ∃ (y5 : Option V) (v' : V) (t' : Ter), [some (V.ref d), some (.ref rl), some (.ref l), some (.ref lv), some v, none] = [some (V.ref d), some (.ref rl), some (.ref l), some (.ref lv), some v', y5] ∧ But d H (upd H2 el (.lst [])) ∧ Dek (upd H2 el (.lst [])) d c ∧ TmAt (upd H2 el (.lst [])) v' t' ∧ LowT (ws.getD 3 "") (wtOf W) (symW ws) t' := ⟨_, v, t, rfl, b13, hD3, TmAt.mono s3.tups _ _ hv, low_3 hm oW w2 k2⟩
    cases R with
    | nil =>
      show if (!PyData.eqv (.list []) (.list [])) = true then _ else _
      refine iteF (iteF stay)
    | cons e0 R0 =>
    show if (!PyData.eqv (.list (_ :: _)) (.list [])) = true then _ else _
    have ne : PyData.eqv (.list ((e0 :: R0).map fun e => .tuple [e.1.dat, e.2.dat])) (.list []) = false := rfl
    refine iteT ?_
    refine ⟨_, rfl, d, 4, rfl, c, hD3, by decide, by decide, fun r4 F4 r40 r44 b4 hD4 => ?_⟩
    have b14 := b13.trans b4
    have m4 := hD3.tups b4
    refine ⟨_, _, rfl, rfl, _, rfl, ite2 (fun _ => ?_) (fun _ => ⟨_, v, t, rfl, b14, hD4, TmAt.mono (s3.tups.trans m4) _ _ hv, low_3 hm oW w2 k2⟩)⟩
    refine fun sp nsp => ?_
    have s5 := same_new nsp (.dK [])
    have hD5 := hD4.same s5
    have spd : sp ≠ d := hD4.ne nsp
    have spc : c ≠ sp := (hD4.nec nsp).symm
    have ev5 := s5 _ _ (b4 _ _ nv (s3 _ _ ev2))
    have ht5 := TmAll.mono (s3.tups.trans (m4.trans s5.tups)) _ _ ht2
    have hl5 := s5 _ _ (b4 _ _ nl (s3 _ _ hl2))
    refine ⟨_, rfl, _, rfl, _, rfl, d, c, lv, l, ws, xs, leafT ws 3, 1, rfl, hD5, ev5, ht5, fun t ht => leaf_ok hm ht, l0, l9, hl5, hm, nv, nl, by decide, fun v0 t0 F6 b6 hD6 hv0 w0 k0 z0 => ?_⟩
    have m6 := hD5.tups b6
    refine ⟨_, rfl, _, rfl, _, rfl, d, c, lv, l, ws, xs, leafT ws 3, 0, rfl, hD6, b6 _ _ nv ev5, TmAll.mono m6 _ _ ht5, fun t ht => leaf_ok hm ht, l0, l9, b6 _ _ nl hl5, hm, nv, nl, by decide, fun v1 t1 F7 b7 hD7 hv1 w1 k1 z1 => ?_⟩
    have m7 := hD6.tups b7
    have esp : F7 sp = some (.dK []) := b7 _ _ spd (b6 _ _ spd upd_same)
    refine ⟨esp, [(.inl 0, v0), (.inl 1, v1)], rfl, by show 2 ≤ 15; decide, ?_⟩
    have ek : mergeK [] [((.inl 0 : Key), v0), (.inl 1, v1)] = [(.inl 0, v0), (.inl 1, v1)] := rfl
    have b8 : But sp F7 (upd F7 sp (.dK (mergeK [] [(.inl 0, v0), (.inl 1, v1)]))) := But.upd
    have m8 : Tups F7 (upd F7 sp (.dK (mergeK [] [(.inl 0, v0), (.inl 1, v1)]))) := tups_updD esp
    have hD8 := hD7.but b8 spd.symm spc
    rw [ek] at b8 m8 hD8 ⊢
    have bH : But d H (upd F7 sp (.dK [(.inl 0, v0), (.inl 1, v1)])) := fun a o n1' e => by
      have h4 := b14 a o n1' e
      rw [upd_ne (ne_of_none h4 nsp)]
      exact b7 a o n1' (b6 a o n1' (s5 _ _ h4))
    generalize hG : upd F7 sp (.dK [(.inl 0, v0), (.inl 1, v1)]) = G at b8 m8 hD8 bH ⊢
    have eG : G sp = some (.dK [(.inl 0, v0), (.inl 1, v1)]) := by rw [← hG]; exact upd_same
    have hv0' := TmAt.mono (m7.trans m8) _ _ hv0
    have hv1' := TmAt.mono m8 _ _ hv1
    have hS : SubF G [(.inl 0, v0), (.inl 1, v1)] (sub2 t0 t1) := fun k => by
      unfold sub2
      by_cases c0 : k = .inl 0
      · subst c0; rw [if_pos rfl]; exact hv0'
      · rw [if_neg c0]
        by_cases c1 : k = .inl 1
        · subst c1; rw [if_pos rfl]; exact hv1'
        · rw [if_neg c1]
          rw [valV_neg (fun z => c0 z.symm), valV_neg (fun z => c1 z.symm)]
          rfl
    have k0' : t0.nest ≤ 2 := k0
    have k1' : t1.nest ≤ 1 := k1
    have sn : ∀ k, (sub2 t0 t1 k).nest ≤ 2 := fun k => by
      unfold sub2
      split
      · exact k0'
      · split
        · omega
        · show 1 ≤ 2; decide
    have sw : ∀ k, natVar k → (sub2 t0 t1 k).wf (symW ws) natVar := fun k hk => by
      unfold sub2
      split
      · exact w0
      · split
        · exact w1
        · exact hk
    have mG := hD.tups bH
    have hRG : RlsAt (ws.getD 3 "") (wtOf W) (symW ws) G rl (e0 :: R0) := hR.mt (fun rs e => bH _ _ nrl e) mG
    have hlG := bH _ _ nl hl
    have evG : G lv = some (.lst xs) := by
      rw [← hG, upd_ne (ne_of_none (b4 _ _ nv (s3 _ _ ev2)) nsp)]
      exact b7 _ _ nv (b6 _ _ nv ev5)
    have htG := TmAll.mono (m6.trans (m7.trans m8)) _ _ ht5
    obtain ⟨rsG, erG, zrG⟩ := hRG.at_
    have lzG := zrG.len
    have lz3 : rsG.length ≤ 10 := by rw [lzG]; exact hRG.len
    have lp : 0 < rsG.length := by rw [lzG]; exact Nat.succ_pos _
    refine ⟨_, rfl, _, rfl, _, rfl, _, rfl, rl, rsG, rfl, .inl (.inl (.inl erG)), d, _, rfl, c, hD8, by omega, by omega, fun ri F9 ri0 ri1 b9 hD9 => ?_⟩
    have m9 := hD8.tups b9
    have hi : ri.toNat < rsG.length := by omega
    have ex : rsG[ri.toNat]? = some rsG[ri.toNat] := List.getElem?_eq_getElem hi
    generalize rsG[ri.toNat] = rv at ex
    obtain ⟨e, ee, hA⟩ := zrG.get ex
    have he := hRG.ok e (List.mem_of_getElem? ee)
    obtain ⟨rp, x, y, rfl, erp, h1, h2⟩ := RlA.mt hA m9
    have bH9 := bH.trans b9
    refine ⟨rl, rsG, ri, .ref rp, rfl, rfl, .inl (.inl (b9 _ _ nrl erG)), at_of (j := ri.toNat) (by omega) ex, rp, _, 0, x, rfl, rfl, .inl (.inl erp), head_at, sp, x, e.1, _, sub2 t0 t1, rfl, b9 _ _ spd eG, hS.mono m9, h1, by have := he.n1; omega, by have := he.z1; omega, fun vb F10 s10 hvb => ?_⟩
    have bw := bind_wf sw e.1 he.w1
    have bl := low_L hm oW he.w1 he.sh sn sw
    have hD10 := hD9.same s10
    refine ⟨_, rfl, d, 2, rfl, c, hD10, by decide, by decide, fun r11 F11 _ _ b11 hD11 => ⟨rfl, _, rfl, ?_⟩⟩
    have m11 := hD10.tups b11
    have bH11 := bH9.trans (s10.but.trans b11)
    have hvb11 := TmAt.mono m11 _ _ hvb
    refine ite2 (fun _ => ?_) (fun _ => ⟨_, vb, _, rfl, bH11, hD11, hvb11, low_le bw bl⟩)
    have hl11 := bH11 _ _ nl hl
    have mG11 := m9.trans (s10.tups.trans m11)
    have ev11 : F11 lv = some (.lst xs) := b11 _ _ nv (s10 _ _ (b9 _ _ nv evG))
    refine ⟨_, rfl, l, _, 4, _, rfl, rfl, .inl (.inl hl11), (at_ 4 (by decide)).1, _, rfl, _, rfl, _, rfl, d, c, lv, l, ws, xs, leafT ws 3, 1, rfl, hD11, ev11, TmAll.mono mG11 _ _ htG, fun t ht => leaf_ok hm ht, l0, l9, hl11, hm, nv, nl, by decide, fun v12 t12 F12 b12' hD12 hv12 w12 k12 z12 => ?_⟩
    have k12 : t12.nest ≤ 2 := k12
    refine ⟨_, rfl, by show 3 ≤ sizeLine; decide, fun pw npw => ?_⟩
    have s13 := same_new npw (.tup [.str (ws.getD 4 ""), v12, vb])
    have m12 := hD11.tups b12'
    have hg : symW ws (ws.getD 4 "") 2 := .inr (.inr ⟨(at_ 4 (by decide)).2, rfl⟩)
    exact ⟨_, _, .ap (ws.getD 4 "") [t12, e.1.bind (sub2 t0 t1)], rfl, bH11.trans (b12'.trans s13.but), hD12.same s13, .ap upd_same (.cons (TmAt.mono s13.tups _ _ hv12) (.cons (TmAt.mono (m12.trans s13.tups) _ _ hvb11) .nil)), low_wrap hm oW hg w12 k12 bw bl⟩
  · obtain ⟨y5, v', t', rfl, b, hD', hv', hL'⟩ := h
    exact ⟨_, rfl, q v' t' F b hD' hv' hL'⟩
end

end K76
namespace K76
open PySem PySem.Spec PyProof.Rows L2 Own HT
section
variable {P : Program} {w : World} {K : PySem.W.Frag} {mg : Str → Option Value} {base : Heap}
/-! ### law -/
def spLaw (K : PySem.W.Frag) : Sp := fun vs H Q _ => ∃ (a : Addr) (ns : List Int), vs = [.ref a] ∧ SqL K H a (ns.map V.int) ∧ ns.length ≤ 63 ∧ ∀ H', Q (.bl true) H'
theorem sc_law : FnScope ["script", "deck", "names", "weights", "precedence", "rules", "passed", "forms", "terms", "k", "term", "due"] ["script"] (defScope s_law) := ⟨rfl, rfl, rfl, by decide +kernel, rfl, by decide +kernel, by decide +kernel⟩
def A1 (f0 : Str) (w' : Str → Int) (S : Str → Nat → Prop) (H : Hp) (v : V) (e : Ter × Ter) : Prop := TmAt H v e.1 ∧ LowT f0 w' S e.1
def A2 (f0 : Str) (w' : Str → Int) (S : Str → Nat → Prop) (R : Rls) (H : Hp) (v : V) (e : Ter × Ter) : Prop := TmAt H v e.2 ∧ LowT f0 w' S e.2 ∧ onceT R e.2 = none ∧ ∃ n, nfT R n e.1 = some e.2
/-- what stands: the deck, the names, the rules twice, what was found -/
structure S76 (d c l rl pa fo te : Addr) (f0 : Str) (w' : Str → Int) (S : Str → Nat → Prop) (ws : List Str) (R : Rls) (L : List (Ter × Ter)) (H : Hp) : Prop where
  dk : Dek H d c
  hl : H l = some (.lst (ws.map V.str))
  r1 : RlsAt f0 w' S H rl R
  r2 : RlsAt f0 w' S H pa R
  rr : ∃ rs, H rl = some (.lst rs) ∧ H pa = some (.lst rs)
  fo : ∃ fs, H fo = some (.lst fs) ∧ ZA (A2 f0 w' S R H) fs L
  te : ∃ ts, H te = some (.lst ts) ∧ ZA (A1 f0 w' S H) ts L
structure N76 (d c l rl pa fo te : Addr) : Prop where
  ld : l ≠ d
  rd : rl ≠ d
  pd : pa ≠ d
  fd : fo ≠ d
  td : te ≠ d
  df : d ≠ fo
  cf : c ≠ fo
  lf : l ≠ fo
  rf : rl ≠ fo
  pf : pa ≠ fo
  tf : te ≠ fo
  dt : d ≠ te
  ct : c ≠ te
  lt : l ≠ te
  rt : rl ≠ te
  pt : pa ≠ te
  ft : fo ≠ te
theorem S76.go {d c l rl pa fo te : Addr} {f0 : Str} {w' : Str → Int} {S : Str → Nat → Prop} {ws : List Str} {R : Rls} {L : List (Ter × Ter)} {H H' : Hp} (J : S76 d c l rl pa fo te f0 w' S ws R L H) (hD : Dek H' d c) (k : ∀ a xs, a = l ∨ a = rl ∨ a = pa ∨ a = fo ∨ a = te → H a = some (.lst xs) → H' a = some (.lst xs)) (m : Tups H H') : S76 d c l rl pa fo te f0 w' S ws R L H' := by
  obtain ⟨fs, ef, zf⟩ := J.fo
  obtain ⟨ts, et, zt⟩ := J.te
  obtain ⟨rs, e1, e2⟩ := J.rr
  exact ⟨hD, k _ _ (.inl rfl) J.hl, J.r1.mt (fun rs e => k _ _ (.inr (.inl rfl)) e) m, J.r2.mt (fun rs e => k _ _ (.inr (.inr (.inl rfl))) e) m, ⟨rs, k _ _ (.inr (.inl rfl)) e1, k _ _ (.inr (.inr (.inl rfl))) e2⟩, ⟨fs, k _ _ (.inr (.inr (.inr (.inl rfl)))) ef, zf.mono fun v x h => ⟨TmAt.mono m _ _ h.1, h.2⟩⟩, ⟨ts, k _ _ (.inr (.inr (.inr (.inr rfl)))) et, zt.mono fun v x h => ⟨TmAt.mono m _ _ h.1, h.2⟩⟩⟩
theorem S76.same {d c l rl pa fo te : Addr} {f0 : Str} {w' : Str → Int} {S : Str → Nat → Prop} {ws : List Str} {R : Rls} {L : List (Ter × Ter)} {H H' : Hp} (J : S76 d c l rl pa fo te f0 w' S ws R L H) (s : Same H H') : S76 d c l rl pa fo te f0 w' S ws R L H' := J.go (J.dk.same s) (fun a xs _ e => s _ _ e) s.tups
theorem S76.deck {d c l rl pa fo te : Addr} {f0 : Str} {w' : Str → Int} {S : Str → Nat → Prop} {ws : List Str} {R : Rls} {L : List (Ter × Ter)} {H H' : Hp} (J : S76 d c l rl pa fo te f0 w' S ws R L H) (N : N76 d c l rl pa fo te) (b : But d H H') (hD : Dek H' d c) : S76 d c l rl pa fo te f0 w' S ws R L H' := J.go hD (fun a xs h e => b _ _ (by
  rcases h with rfl | rfl | rfl | rfl | rfl
  · exact N.ld
  · exact N.rd
  · exact N.pd
  · exact N.fd
  · exact N.td) e) (J.dk.tups b)
theorem eqv_rls : ∀ R : Rls, PyData.eqvAll (R.map fun e => .tuple [e.1.dat, e.2.dat]) (R.map fun e => .tuple [e.1.dat, e.2.dat]) = true
  | [] => rfl
  | e :: r => by
    rw [List.map_cons, PyData.eqvAll, eqv_rls r, PyData.eqv, PyData.eqvAll, PyData.eqvAll, ter_refl, ter_refl]
    rfl
theorem once_nil (t : Ter) : onceT [] t = none := by
  unfold onceT
  rw [List.findSome?_eq_none_iff]
  intro q _
  unfold stepAt
  cases t.at q <;> rfl
theorem nf_fix {R : Rls} {u : Ter} (h : onceT R u = none) : nfT R 1 u = some u := by
  show (match onceT R u with | none => some u | some x => nfT R 0 x) = some u
  rw [h]
theorem ok_law {f fK fN fW fE fR fS fF fA fX fO fY fZ : Addr} {fd dK dN dW dE dR dS dF dA dX dO dY dZ : FuncData} (D : Df K mg "law" s_law ["script"] f fd)
    (DK : Df K mg "_law_deck" s__law_deck ["script"] fK dK) (GK : FnOk P w K mg base CX0 1 fK dK ["script"] (spDeck K))
    (DN : Df K mg "_law_names" s__law_names ["deck"] fN dN) (GN : FnOk P w K mg base CX0 2 fN dN ["deck"] spNames)
    (DW : Df K mg "_law_weights" s__law_weights ["deck", "names"] fW dW) (GW : FnOk P w K mg base CX0 2 fW dW ["deck", "names"] spWts)
    (DE : Df K mg "_law_precedence" s__law_precedence ["deck", "names"] fE dE) (GE : FnOk P w K mg base CX0 2 fE dE ["deck", "names"] spPrec)
    (DR : Df K mg "_law_rules" s__law_rules ["deck", "names", "weights", "precedence", "most"] fR dR) (GR : FnOk P w K mg base CX0 20 fR dR ["deck", "names", "weights", "precedence", "most"] spRules)
    (DS : Df K mg "_law_start" s__law_start ["deck", "rules", "names"] fS dS) (GS : FnOk P w K mg base CX0 9 fS dS ["deck", "rules", "names"] spStart)
    (DF : Df K mg "_law_normal_form" s__law_normal_form ["rules", "term"] fF dF) (GF : FnOk P w K mg base CX0 81 fF dF ["rules", "term"] spLNf)
    (DA : Df K mg "_law_same" s__law_same ["actual", "due"] fA dA) (GA : FnOk P w K mg base CX0 79 fA dA ["actual", "due"] (spSameP K 79))
    (DX : Df K mg "rewrite" s_rewrite ["rules", "term"] fX dX) (GX : FnOk P w K mg base CX0 11 fX dX ["rules", "term"] spRw)
    (DO : Df K mg "_law_once" s__law_once ["rules", "term"] fO dO) (GO : FnOk P w K mg base CX0 80 fO dO ["rules", "term"] spRw)
    (DY : Df K mg "normalize" s_normalize ["rules", "term"] fY dY) (GY : FnOk P w K mg base CX0 12 fY dY ["rules", "term"] spNrm)
    (DZ : Df K mg "joined" s_joined ["rules", "first", "second"] fZ dZ) (GZ : FnOk P w K mg base CX0 13 fZ dZ ["rules", "first", "second"] spJnd)
    (m_list : mg "list" = none) (m_range : mg "range" = none) : FnOk P w K mg base CX0 82 f fd ["script"] (spLaw K) := by
  refine D.F.ok sc_law (fun vs H Q E h => ?_) (fun cdv A outer s H vs Q E hr h => ?_)
  · obtain ⟨a, ns, rfl, _⟩ := h; rfl
  obtain ⟨a0, ns, rfl, hS, hlen, q⟩ := h
  have nd := sc_law.nd
  have r1 : Room 1 _ := hr.mono (by decide)
  have r2 : Room 2 _ := hr.mono (by decide)
  have r9 : Room 9 _ := hr.mono (by decide)
  have r11 : Room 11 _ := hr.mono (by decide)
  have r12 : Room 12 _ := hr.mono (by decide)
  have r13 : Room 13 _ := hr.mono (by decide)
  have r20 : Room 20 _ := hr.mono (by decide)
  have r79 : Room 79 _ := hr.mono (by decide)
  have r80 : Room 80 _ := hr.mono (by decide)
  refine ⟨_, (pss_cons (ps_set (i := 1) nd rfl (.inl rfl) (pe_call GK r1 (by rfl) DK.m DK.F.kp DK.b .nil pass0 (pa_cons (pv 0) pa_nil)))
    (pss_cons (ps_set (i := 2) nd rfl (.inl rfl) (pe_call GN r2 (by rfl) DN.m DN.F.kp DN.b .nil pass0 (pa_cons (pv 1) pa_nil)))
    (pss_cons (ps_set (i := 3) nd rfl (.inl rfl) (pe_call GW r2 (by rfl) DW.m DW.F.kp DW.b .nil pass0 (pa_cons (pv 1) (pa_cons (pv 2) pa_nil))))
    (pss_cons (ps_set (i := 4) nd rfl (.inl rfl) (pe_call GE r2 (by rfl) DE.m DE.F.kp DE.b .nil pass0 (pa_cons (pv 1) (pa_cons (pv 2) pa_nil))))
    (pss_cons (ps_set (i := 5) nd rfl (.inl rfl) (pe_call GR r20 (by rfl) DR.m DR.F.kp DR.b .nil pass0 (pa_cons (pv 1) (pa_cons (pv 2) (pa_cons (pv 3) (pa_cons (pv 4) (pa_cons pe_int pa_nil)))))))
    (pss_cons (ps_set (i := 6) nd rfl (.inl rfl) (pe_callTy call_list_of (by rfl) m_list (by decide +kernel) (pa_cons (pv 5) pa_nil)))
    (pss_cons (ps_set (i := 7) nd rfl (.inl rfl) (pe_lst pa_nil))
    (pss_cons (ps_set (i := 8) nd rfl (.inl rfl) (pe_lst pa_nil))
    (pss_cons (ps_for PassesOwn.never rfl (pi_range1 (by rfl) m_range (pa_cons pe_int pa_nil)) (pg_name (i := 9) nd rfl (.inl rfl))
      (pss_cons (ps_set (i := 10) nd rfl (.inl rfl) (pe_call GS r9 (by rfl) DS.m DS.F.kp DS.b .nil pass0 (pa_cons (pv 1) (pa_cons (pv 5) (pa_cons (pv 2) pa_nil)))))
    (pss_cons (ps_set (i := 11) nd rfl (.inl rfl) (pe_call GF hr (by rfl) DF.m DF.F.kp DF.b .nil pass0 (pa_cons (pv 5) (pa_cons (pv 10) pa_nil))))
    (pss_cons (ps_if (pt_cmpR op_isN (pv 11) pe_non (nomark _))
      (pss_one (ps_ret pe_bl))
      pss_nil)
    (C8.pss_cut (ps_if (pt_not (pt_val (pe_call GA r79 (by rfl) DA.m DA.F.kp DA.b .nil pass0 (pa_cons (pe_call GX r11 (by rfl) DX.m DX.F.kp DX.b .nil pass0 (pa_cons (pv 6) (pa_cons (pv 10) pa_nil))) (pa_cons (pe_call GO r80 (by rfl) DO.m DO.F.kp DO.b .nil pass0 (pa_cons (pv 5) (pa_cons (pv 10) pa_nil))) pa_nil)))))
      (pss_one (ps_ret pe_bl))
      pss_nil)
    (pss_cons (ps_if (pt_not (pt_val (pe_call GA r79 (by rfl) DA.m DA.F.kp DA.b .nil pass0 (pa_cons (pe_call GY r12 (by rfl) DY.m DY.F.kp DY.b .nil pass0 (pa_cons (pv 6) (pa_cons (pv 10) pa_nil))) (pa_cons (pv 11) pa_nil)))))
      (pss_one (ps_ret pe_bl))
      pss_nil)
    (pss_cons (ps_expr (pe_bm PySem.F.plainAttrs_list PySem.F.slot_list_append PySem.F.type_list_append mt_append (pv 7) (pa_cons (pv 11) pa_nil)))
    (pss_one (ps_expr (pe_bm PySem.F.plainAttrs_list PySem.F.slot_list_append PySem.F.type_list_append mt_append (pv 8) (pa_cons (pv 10) pa_nil)))))))))))
    (pss_cons (ps_if (pt_not (pt_val (pe_call GA r79 (by rfl) DA.m DA.F.kp DA.b .nil pass0 (pa_cons (pe_call GZ r13 (by rfl) DZ.m DZ.F.kp DZ.b .nil pass0 (pa_cons (pv 6) (pa_cons (pe_ix ix_list (pv 8) pe_int (fun _ _ => rfl)) (pa_cons (pe_ix ix_list (pv 8) pe_int (fun _ _ => rfl)) pa_nil)))) (pa_cons (pe_cmpR (op_eqDeep (room150 hr)) (pe_ix ix_list (pv 7) pe_int (fun _ _ => rfl)) (pe_ix ix_list (pv 7) pe_int (fun _ _ => rfl)) (nomark _)) pa_nil)))))
      (pss_one (ps_ret pe_bl))
      pss_nil)
    (pss_cons (ps_if (pt_not (pt_val (pe_call GA r79 (by rfl) DA.m DA.F.kp DA.b .nil pass0 (pa_cons (pe_call GZ r13 (by rfl) DZ.m DZ.F.kp DZ.b .nil pass0 (pa_cons (pv 6) (pa_cons (pe_ix ix_list (pv 8) pe_int (fun _ _ => rfl)) (pa_cons (pe_ix ix_list (pv 7) pe_int (fun _ _ => rfl)) pa_nil)))) (pa_cons pe_bl pa_nil)))))
      (pss_one (ps_ret pe_bl))
      pss_nil)
    (pss_one (ps_ret (pe_and (pe_cmpR (op_eqD hr.units) (pv 6) (pv 5) (nomark _)) (pe_and (pe_call GA r79 (by rfl) DA.m DA.F.kp DA.b .nil pass0 (pa_cons (pe_call GX r11 (by rfl) DX.m DX.F.kp DX.b .nil pass0 (pa_cons (pe_lst pa_nil) (pa_cons (pe_ix ix_list (pv 8) pe_int (fun _ _ => rfl)) pa_nil))) (pa_cons pe_non pa_nil))) (pe_one (pe_call GA r79 (by rfl) DA.m DA.F.kp DA.b .nil pass0 (pa_cons (pe_call GY r12 (by rfl) DY.m DY.F.kp DY.b .nil pass0 (pa_cons (pe_lst pa_nil) (pa_cons pe_int pa_nil))) (pa_cons pe_int pa_nil))))))))))))))))))), ?_⟩
  refine ⟨_, rfl, a0, ns, rfl, hS, hlen, fun d c H1 s1 n1 nc1 hD1 => ?_⟩
  refine ⟨_, rfl, d, c, rfl, hD1, fun l ws H2 b2 n2 hD2 hl2 hm => ?_⟩
  have nl : l ≠ d := hD1.ne n2
  refine ⟨_, rfl, _, rfl, d, c, l, ws, rfl, hD2, hl2, nl, hm, fun wd W H3 b3 nw hD3 hw3 oW => ?_⟩
  have nwd : wd ≠ d := hD2.ne nw
  have hl3 := b3 _ _ nl hl2
  refine ⟨_, rfl, _, rfl, d, c, l, ws, rfl, hD3, hl3, nl, hm, fun pl ps H4 b4 np hD4 hp4 oP => ?_⟩
  have npd : pl ≠ d := hD3.ne np
  have hl4 := b4 _ _ nl hl3
  have hw4 := b4 _ _ nwd hw3
  refine ⟨_, rfl, _, rfl, _, rfl, _, rfl, d, c, l, wd, pl, ws, W, ps, rfl, ⟨hD4, hl4, hw4, hp4⟩, ⟨nl, nwd, npd⟩, hm, oW, fun rl R H5 b5 nrl hD5 hR5 lR => ?_⟩
  have nrd : rl ≠ d := hD4.ne nrl
  have hl5 := b5 _ _ nl hl4
  have WD := wdOk hm oW
  have SF := symF_W hm
  obtain ⟨rs, er, zr⟩ := hR5.at_
  refine ⟨_, rfl, rl, rs, rfl, .inl (.inl (.inl er)), fun pa npa => ?_⟩
  have s6 := same_new npa (.lst rs)
  refine ⟨Nat.zero_le _, fun fo nfo => ?_⟩
  have s7 := same_new nfo (.lst [])
  refine ⟨Nat.zero_le _, fun te nte => ?_⟩
  have s8 := same_new nte (.lst [])
  have s68 := s6.trans (s7.trans s8)
  have epa : upd (upd (upd H5 pa (.lst rs)) fo (.lst [])) te (.lst []) pa = some (.lst rs) := (s7.trans s8) _ _ upd_same
  have efo : upd (upd (upd H5 pa (.lst rs)) fo (.lst [])) te (.lst []) fo = some (.lst []) := s8 _ _ upd_same
  have N : N76 d c l rl pa fo te := by
    obtain ⟨_, _, _, _, hd, hc, _⟩ := hD5.ex
    exact ⟨nl, nrd, hD5.ne npa, (hD5.same s6).ne nfo, ((hD5.same s6).same s7).ne nte, ne_of_none (s6 _ _ hd) nfo, ne_of_none (s6 _ _ hc) nfo, ne_of_none (s6 _ _ hl5) nfo, ne_of_none (s6 _ _ er) nfo, ne_of_none (show upd H5 pa (.lst rs) pa = some _ from upd_same) nfo, (ne_of_none (show upd (upd H5 pa (.lst rs)) fo (.lst []) fo = some _ from upd_same) nte).symm, ne_of_none (s7 _ _ (s6 _ _ hd)) nte, ne_of_none (s7 _ _ (s6 _ _ hc)) nte, ne_of_none (s7 _ _ (s6 _ _ hl5)) nte, ne_of_none (s7 _ _ (s6 _ _ er)) nte, ne_of_none (s7 _ _ (show upd H5 pa (.lst rs) pa = some _ from upd_same)) nte, ne_of_none (show upd (upd H5 pa (.lst rs)) fo (.lst []) fo = some _ from upd_same) nte⟩
  have J8 : S76 d c l rl pa fo te (ws.getD 3 "") (wtOf W) (symW ws) ws R [] _ := ⟨hD5.same s68, s68 _ _ hl5, hR5.same s68, ⟨⟨rs, epa, zr.mono fun v x h => h.mono s68⟩, hR5.ok, hR5.len⟩, ⟨rs, s68 _ _ er, epa⟩, ⟨[], efo, .nil⟩, ⟨[], upd_same, .nil⟩⟩
  generalize upd (upd (upd H5 pa (.lst rs)) fo (.lst [])) te (.lst []) = H8 at J8
  clear efo epa s68 s8 nte s7 nfo s6 npa er zr hl5 hR5 b5 nrl
  refine ⟨2, rfl, by decide, by decide, for_range (n := 2) (fun i σ F => ∃ (y9 y10 y11 : Option V) (L : List (Ter × Ter)), σ = [some (.ref a0), some (.ref d), some (.ref l), some (.ref wd), some (.ref pl), some (.ref rl), some (.ref pa), some (.ref fo), some (.ref te), y9, y10, y11] ∧ S76 d c l rl pa fo te (ws.getD 3 "") (wtOf W) (symW ws) ws R L F ∧ L.length = i) ⟨none, none, none, [], rfl, J8, rfl⟩ (fun i σ F hi h => ?_) (fun σ F h => ?_)⟩
  · obtain ⟨y9, y10, y11, L, rfl, J, lL⟩ := h
    refine ⟨_, rfl, _, rfl, _, rfl, d, c, l, rl, ws, W, R, rfl, J.dk, J.hl, nl, nrd, hm, oW, J.r1, fun v t F1 b1 hD1' hv hL => ?_⟩
    have J1 := J.deck N b1 hD1'
    obtain ⟨zt, nt⟩ := LowT.bd WD.U WD.sh hL
    refine ⟨_, rfl, _, rfl, _, _, _, rl, v, R, t, rfl, WD, J1.r1, hv, hL, fun F2 s2 => ⟨_, rfl, rfl, _, rfl, iteT (q F2)⟩, fun n u hn hLu hu v2 F2 s2 hv2 => ?_⟩
    have J2 := J1.same s2
    have hvt2 := TmAt.mono s2.tups _ _ hv
    obtain ⟨zu, nu⟩ := LowT.bd WD.U WD.sh hLu
    refine ⟨_, rfl, rfl, _, rfl, ?_⟩
    rw [tm_ne hv2]
    refine iteF ?_
    refine ⟨fun σ G => σ = [some (.ref a0), some (.ref d), some (.ref l), some (.ref wd), some (.ref pl), some (.ref rl), some (.ref pa), some (.ref fo), some (.ref te), some (.int (0 + (i : Nat))), some v, some v2] ∧ Same F2 G, ?_, fun σ G h => ?_⟩
    · cases e1 : onceT R t with
      | none =>
        refine ⟨_, rfl, _, rfl, _, _, _, pa, v, R, t, rfl, WD, J2.r2, hvt2, hL, fun _ F3 s3 => ?_, (fun t' z => absurd (e1.symm.trans z) (fun y => nomatch y))⟩
        refine ⟨_, rfl, _, rfl, _, _, _, rl, v, R, t, rfl, WD, J2.r1.same s3, TmAt.mono s3.tups _ _ hvt2, hL, fun _ F4 s4 => ?_, (fun t' z => absurd (e1.symm.trans z) (fun y => nomatch y))⟩
        exact ⟨_, _, .none, rfl, .non, .non, trivial, _, rfl, iteF ⟨rfl, s3.trans s4⟩⟩
      | some t1 =>
        refine ⟨_, rfl, _, rfl, _, _, _, pa, v, R, t, rfl, WD, J2.r2, hvt2, hL, (fun z => absurd (e1.symm.trans z) (fun y => nomatch y)), fun t' z hL' va F3 s3 hva => ?_⟩
        refine ⟨_, rfl, _, rfl, _, _, _, rl, v, R, t, rfl, WD, J2.r1.same s3, TmAt.mono s3.tups _ _ hvt2, hL, (fun z => absurd (e1.symm.trans z) (fun y => nomatch y)), fun t'' z' hL'' vb F4 s4 hvb => ?_⟩
        rw [e1] at z z'
        cases z
        cases z'
        obtain ⟨z1, n1⟩ := LowT.bd WD.U WD.sh hL'
        exact ⟨va, vb, t1.dat, rfl, dp_ter _ _ (TmAt.mono s4.tups _ _ hva), dp_ter _ _ hvb, pln_ter t1 79 (by omega) (by omega), _, rfl, iteF ⟨rfl, s3.trans s4⟩⟩
    obtain ⟨rfl, sG⟩ := h
    have JG := J2.same sG
    refine ⟨_, rfl, _, rfl, _, _, _, pa, v, R, t, u, n, rfl, WD, JG.r2, TmAt.mono sG.tups _ _ hvt2, hL, hn, fun v3 F3 s3 hv3 _ => ?_⟩
    have sG3 := sG.trans s3
    have J3 := JG.same s3
    refine ⟨_, rfl, v3, v2, u.dat, rfl, dp_ter _ _ hv3, dp_ter _ _ (TmAt.mono sG3.tups _ _ hv2), pln_ter u 79 (by omega) (by omega), _, rfl, iteF ?_⟩
    obtain ⟨fs, ef, zf⟩ := J3.fo
    obtain ⟨ts, et, zt'⟩ := J3.te
    have lf := zf.len
    have lt := zt'.len
    refine ⟨_, rfl, tyl ef, _, rfl, fo, fs, _, rfl, rfl, ef, small6' (by omega), ?_⟩
    have b4 : But fo F3 (upd F3 fo (.lst (fs ++ [v2]))) := But.upd
    have m4 := b4.tups ef
    have et4 := b4 _ _ N.tf et
    refine ⟨_, rfl, tyl et4, _, rfl, te, ts, _, rfl, rfl, et4, small6' (by omega), ?_⟩
    have b5 : But te (upd F3 fo (.lst (fs ++ [v2]))) (upd (upd F3 fo (.lst (fs ++ [v2]))) te (.lst (ts ++ [v]))) := But.upd
    have m5 := b5.tups et4
    have m45 := m4.trans m5
    have keep : ∀ a o, a ≠ fo → a ≠ te → F3 a = some o → (upd (upd F3 fo (.lst (fs ++ [v2]))) te (.lst (ts ++ [v]))) a = some o := fun a o n1 n2 e => b5 _ _ n2 (b4 _ _ n1 e)
    obtain ⟨rs, e1, e2⟩ := J3.rr
    have hv2' := TmAt.mono (sG3.tups.trans m45) _ _ hv2
    have hv' := TmAt.mono (sG3.tups.trans m45) _ _ hvt2
    refine ⟨_, _, _, L ++ [(t, u)], rfl, ⟨(J3.dk.but b4 N.df N.cf).but b5 N.dt N.ct, keep _ _ N.lf N.lt J3.hl, J3.r1.mt (fun rs e => keep _ _ N.rf N.rt e) m45, J3.r2.mt (fun rs e => keep _ _ N.pf N.pt e) m45, ⟨rs, keep _ _ N.rf N.rt e1, keep _ _ N.pf N.pt e2⟩, ⟨_, b5 _ _ N.ft upd_same, (zf.mono fun v x h => ⟨TmAt.mono m45 _ _ h.1, h.2⟩).app (.cons ⟨hv2', hLu, hu, n, hn⟩ .nil)⟩, ⟨_, upd_same, (zt'.mono fun v x h => ⟨TmAt.mono m45 _ _ h.1, h.2⟩).app (.cons ⟨hv', hL⟩ .nil)⟩⟩, by rw [List.length_append, List.length_singleton, lL]⟩
  · obtain ⟨y9, y10, y11, L, rfl, J, lL⟩ := h
    obtain ⟨fs, ef, zf⟩ := J.fo
    obtain ⟨ts, et, zt⟩ := J.te
    match L, lL with
    | [(t0, u0), (t1, u1)], _ =>
    cases zf with
    | @cons f0v fs' _ _ hf0 zf' =>
    cases zf' with
    | @cons f1v fs'' _ _ hf1 zf'' =>
    cases zf''
    cases zt with
    | @cons t0v ts' _ _ ht0 zt' =>
    cases zt' with
    | @cons t1v ts'' _ _ ht1 zt'' =>
    cases zt''
    obtain ⟨hf0, hLu0, on0, nn0, hn0⟩ := hf0
    obtain ⟨hf1, hLu1, on1, nn1, hn1⟩ := hf1
    obtain ⟨ht0, hLt0⟩ := ht0
    obtain ⟨ht1, hLt1⟩ := ht1
    obtain ⟨zu0, nu0⟩ := LowT.bd WD.U WD.sh hLu0
    have i0 : ∀ {a b : V}, atI [a, b] 0 = some a := atI_nat (j := 0) rfl
    have i1 : ∀ {a b : V}, atI [a, b] 1 = some b := atI_nat (j := 1) rfl
    refine ⟨_, rfl, _, rfl, te, _, 0, t0v, rfl, rfl, .inl (.inl et), i0, _, rfl, te, _, 1, t1v, rfl, rfl, .inl (.inl et), i1, _, _, _, pa, t0v, t1v, R, t0, t1, u0, u1, nn0, nn1, rfl, WD, J.r2, ht0, hLt0, ht1, hLt1, hn0, hn1, fun F2 s2 => ?_⟩
    have J2 := J.same s2
    have ef2 := s2 _ _ ef
    obtain ⟨c0, d0⟩ := SF.lay hLu0.1
    have d0 : u0.dat.depth ≤ u0.nest := d0
    have nu0 : u0.nest ≤ 77 := nu0
    obtain ⟨c1, d1⟩ := SF.lay hLu1.1
    refine ⟨_, rfl, fo, _, 0, f0v, rfl, rfl, .inl (.inl ef2), i0, _, rfl, fo, _, 1, f1v, rfl, rfl, .inl (.inl ef2), i1, u0.dat, u1.dat, dp_ter _ _ (TmAt.mono s2.tups _ _ hf0), dp_ter _ _ (TmAt.mono s2.tups _ _ hf1), c0, c1, Nat.le_trans d0 (Nat.le_trans nu0 (by decide)), _, _, .bool (eT u0 u1), rfl, .bl _, .bl _, trivial, _, rfl, iteF ?_⟩
    have et2 := s2 _ _ et
    refine ⟨_, rfl, _, rfl, te, _, 0, t0v, rfl, rfl, .inl (.inl et2), i0, _, rfl, fo, _, 0, f0v, rfl, rfl, .inl (.inl ef2), i0, _, _, _, pa, t0v, f0v, R, t0, u0, u0, u0, nn0, 1, rfl, WD, J2.r2, TmAt.mono s2.tups _ _ ht0, hLt0, TmAt.mono s2.tups _ _ hf0, hLu0, hn0, nf_fix on0, fun F3 s3 => ?_⟩
    rw [eT_refl]
    refine ⟨_, _, .bool true, rfl, .bl _, .bl _, trivial, _, rfl, iteF ?_⟩
    have J3 := J2.same s3
    obtain ⟨rs, er1, er2⟩ := J3.rr
    obtain ⟨rs', er', zr⟩ := J3.r1.at_
    have : rs' = rs := by rw [er1] at er'; cases er'; rfl
    subst this
    have hsh := rls_shp SF J3.r1.ok
    refine ⟨_, rfl, _, rfl, .list (R.map fun e => .tuple [e.1.dat, e.2.dat]), .list (R.map fun e => .tuple [e.1.dat, e.2.dat]), .lst (.inl (.inl er2)) (rls_dp zr), .lst (.inl (.inl er1)) (rls_dp zr), hsh, hsh, _, rfl, ?_⟩
    have ev : PyData.eqv (.list (R.map fun e => PyData.tuple [e.1.dat, e.2.dat])) (.list (R.map fun e => .tuple [e.1.dat, e.2.dat])) = true := by rw [PyData.eqv]; exact eqv_rls R
    rw [ev]
    refine iteT ?_
    refine ⟨Nat.zero_le _, fun ea nea => ?_⟩
    have s4 := same_new nea (.lst [])
    have et4 := s4 _ _ (s3 _ _ et2)
    have emp : ∀ {G : Hp} {a : Addr}, G a = some (.lst []) → RlsAt (ws.getD 3 "") (wtOf W) (symW ws) G a [] := fun e => ⟨⟨[], e, .nil⟩, (fun _ h => by cases h), Nat.zero_le _⟩
    have ht04 := TmAt.mono (s2.tups.trans (s3.tups.trans s4.tups)) _ _ ht0
    refine ⟨_, rfl, te, _, 0, t0v, rfl, rfl, .inl (.inl et4), i0, _, _, _, ea, t0v, [], t0, rfl, WD, emp upd_same, ht04, hLt0, fun _ F5 s5 => ?_, fun t' z => by rw [once_nil] at z; cases z⟩
    refine ⟨_, _, .none, rfl, .non, .non, trivial, _, rfl, iteT ?_⟩
    refine ⟨Nat.zero_le _, fun eb neb => ?_⟩
    have s6 := same_new neb (.lst [])
    have h7 : LowT (ws.getD 3 "") (wtOf W) (symW ws) (.var (.inl 7)) := ⟨⟨7, rfl, by decide⟩, by
      show (1 : Int) ≤ _
      unfold lowB
      split <;> decide⟩
    refine ⟨_, _, _, eb, .int 7, [], .var (.inl 7), .var (.inl 7), 1, rfl, WD, emp upd_same, .int 7, h7, nf_fix (once_nil _), fun v7 F7 s7 hv7 _ => ?_⟩
    exact ⟨_, _, .int 7, rfl, dp_ter _ _ hv7, .int 7, trivial, q F7⟩
end

end K76
set_option maxHeartbeats 8000000
namespace K76
open PySem PySem.Spec PyProof.Rows L2 Own HT
theorem all_mk {l : PySem.W.OpenLaw} {w : World} {K : PySem.W.Frag} {h : Heap} {mg : Str → Option Value} {fa f_is_integer f_decimal f_worded f_is_variable f_fits f_arguments_of f_positions f_subterm_at f_replace_at f_path_to f_replace_variables f_apply f_match f_match_all f_matches f_rewrite f_fitting f_normalize f_joined f__law_deck f__law_draw f__law_same f__law_names f__law_weights f__law_precedence f__law_term f__law_leaves f__law_apply f__law_vars f__law_count f__law_weight f__law_higher f__law_greater f__law_compare f__law_match f__law_places f__law_at f__law_put f__law_rule f__law_step_at f__law_once f__law_normal_form f__law_rules f__law_start f_law : Addr}
     {t_LA t_DE : Tok}
    (X : K.In h) (G : h.Ns mainGlobals mg) (hfa : mg "law" = some (.ref fa))
    {od_is_integer an_is_integer od_decimal an_decimal od_worded an_worded od_is_variable an_is_variable od_fits an_fits od_arguments_of an_arguments_of od_positions an_positions od_subterm_at an_subterm_at od_replace_at an_replace_at od_path_to an_path_to od_replace_variables an_replace_variables od_apply an_apply od_match an_match od_match_all an_match_all od_matches an_matches od_rewrite an_rewrite od_fitting an_fitting od_normalize an_normalize od_joined an_joined od__law_deck an__law_deck od__law_draw an__law_draw od__law_same an__law_same od__law_names an__law_names od__law_weights an__law_weights od__law_precedence an__law_precedence od__law_term an__law_term od__law_leaves an__law_leaves od__law_apply an__law_apply od__law_vars an__law_vars od__law_count an__law_count od__law_weight an__law_weight od__law_higher an__law_higher od__law_greater an__law_greater od__law_compare an__law_compare od__law_match an__law_match od__law_places an__law_places od__law_at an__law_at od__law_put an__law_put od__law_rule an__law_rule od__law_step_at an__law_step_at od__law_once an__law_once od__law_normal_form an__law_normal_form od__law_rules an__law_rules od__law_start an__law_start od_law an_law : Option Addr} {sl_is_integer sl_decimal sl_worded sl_is_variable sl_fits sl_arguments_of sl_positions sl_subterm_at sl_replace_at sl_path_to sl_replace_variables sl_apply sl_match sl_match_all sl_matches sl_rewrite sl_fitting sl_normalize sl_joined sl__law_deck sl__law_draw sl__law_same sl__law_names sl__law_weights sl__law_precedence sl__law_term sl__law_leaves sl__law_apply sl__law_vars sl__law_count sl__law_weight sl__law_higher sl__law_greater sl__law_compare sl__law_match sl__law_places sl__law_at sl__law_put sl__law_rule sl__law_step_at sl__law_once sl__law_normal_form sl__law_rules sl__law_start sl_law : Array (Option Value)} {oc_is_integer kV_is_integer dc_is_integer pm_is_integer cd_is_integer ct_is_integer oc_decimal kV_decimal dc_decimal pm_decimal cd_decimal ct_decimal oc_worded kV_worded dc_worded pm_worded cd_worded ct_worded oc_is_variable kV_is_variable dc_is_variable pm_is_variable cd_is_variable ct_is_variable oc_fits kV_fits dc_fits pm_fits cd_fits ct_fits oc_arguments_of kV_arguments_of dc_arguments_of pm_arguments_of cd_arguments_of ct_arguments_of oc_positions dc_positions pm_positions cd_positions ct_positions oc_subterm_at kV_subterm_at dc_subterm_at pm_subterm_at cd_subterm_at ct_subterm_at oc_replace_at kV_replace_at dc_replace_at pm_replace_at cd_replace_at ct_replace_at oc_path_to kV_path_to dc_path_to pm_path_to cd_path_to ct_path_to oc_replace_variables kV_replace_variables dc_replace_variables pm_replace_variables cd_replace_variables ct_replace_variables oc_apply kV_apply dc_apply pm_apply cd_apply ct_apply oc_match dc_match pm_match cd_match ct_match oc_match_all dc_match_all pm_match_all cd_match_all ct_match_all oc_matches kV_matches dc_matches pm_matches cd_matches ct_matches oc_rewrite kV_rewrite dc_rewrite pm_rewrite cd_rewrite ct_rewrite oc_fitting kV_fitting dc_fitting pm_fitting cd_fitting ct_fitting oc_normalize kV_normalize dc_normalize pm_normalize cd_normalize ct_normalize oc_joined kV_joined dc_joined pm_joined cd_joined ct_joined oc__law_deck kV__law_deck dc__law_deck pm__law_deck cd__law_deck ct__law_deck oc__law_draw kV__law_draw dc__law_draw pm__law_draw cd__law_draw ct__law_draw oc__law_same kV__law_same dc__law_same pm__law_same cd__law_same ct__law_same oc__law_names kV__law_names dc__law_names pm__law_names cd__law_names ct__law_names oc__law_weights kV__law_weights dc__law_weights pm__law_weights cd__law_weights ct__law_weights oc__law_precedence kV__law_precedence dc__law_precedence pm__law_precedence cd__law_precedence ct__law_precedence oc__law_term kV__law_term dc__law_term pm__law_term cd__law_term ct__law_term oc__law_leaves kV__law_leaves dc__law_leaves pm__law_leaves cd__law_leaves ct__law_leaves oc__law_apply kV__law_apply dc__law_apply pm__law_apply cd__law_apply ct__law_apply oc__law_vars kV__law_vars dc__law_vars pm__law_vars cd__law_vars ct__law_vars oc__law_count kV__law_count dc__law_count pm__law_count cd__law_count ct__law_count oc__law_weight kV__law_weight dc__law_weight pm__law_weight cd__law_weight ct__law_weight oc__law_higher kV__law_higher dc__law_higher pm__law_higher cd__law_higher ct__law_higher oc__law_greater kV__law_greater dc__law_greater pm__law_greater cd__law_greater ct__law_greater oc__law_compare kV__law_compare dc__law_compare pm__law_compare cd__law_compare ct__law_compare oc__law_match kV__law_match dc__law_match pm__law_match cd__law_match ct__law_match oc__law_places kV__law_places dc__law_places pm__law_places cd__law_places ct__law_places oc__law_at kV__law_at dc__law_at pm__law_at cd__law_at ct__law_at oc__law_put kV__law_put dc__law_put pm__law_put cd__law_put ct__law_put oc__law_rule kV__law_rule dc__law_rule pm__law_rule cd__law_rule ct__law_rule oc__law_step_at kV__law_step_at dc__law_step_at pm__law_step_at cd__law_step_at ct__law_step_at oc__law_once kV__law_once dc__law_once pm__law_once cd__law_once ct__law_once oc__law_normal_form kV__law_normal_form dc__law_normal_form pm__law_normal_form cd__law_normal_form ct__law_normal_form oc__law_rules kV__law_rules dc__law_rules pm__law_rules cd__law_rules ct__law_rules oc__law_start kV__law_start dc__law_start pm__law_start cd__law_start ct__law_start oc_law kV_law dc_law pm_law cd_law ct_law : Value} {kd_match_all kd_match kd_positions : Addr}
    (a_is_integer : PySem.W.nsIn K mainGlobals "is_integer" = some (some (.ref f_is_integer))) (l_is_integer : K.lookup f_is_integer = some ⟨oc_is_integer, od_is_integer, .func (PySem.W.fnOf "is_integer" "is_integer" (defArgs s_is_integer) (defBody s_is_integer) (defScope s_is_integer) .none kV_is_integer dc_is_integer pm_is_integer an_is_integer cd_is_integer ct_is_integer), sl_is_integer⟩) (c_is_integer : PySem.W.codeIn K cd_is_integer "is_integer" = true) (k_is_integer : PySem.W.keepIn K (.ref f_is_integer) = true)
    (a_decimal : PySem.W.nsIn K mainGlobals "decimal" = some (some (.ref f_decimal))) (l_decimal : K.lookup f_decimal = some ⟨oc_decimal, od_decimal, .func (PySem.W.fnOf "decimal" "decimal" (defArgs s_decimal) (defBody s_decimal) (defScope s_decimal) .none kV_decimal dc_decimal pm_decimal an_decimal cd_decimal ct_decimal), sl_decimal⟩) (c_decimal : PySem.W.codeIn K cd_decimal "decimal" = true) (k_decimal : PySem.W.keepIn K (.ref f_decimal) = true)
    (a_worded : PySem.W.nsIn K mainGlobals "worded" = some (some (.ref f_worded))) (l_worded : K.lookup f_worded = some ⟨oc_worded, od_worded, .func (PySem.W.fnOf "worded" "worded" (defArgs s_worded) (defBody s_worded) (defScope s_worded) .none kV_worded dc_worded pm_worded an_worded cd_worded ct_worded), sl_worded⟩) (c_worded : PySem.W.codeIn K cd_worded "worded" = true) (k_worded : PySem.W.keepIn K (.ref f_worded) = true)
    (a_is_variable : PySem.W.nsIn K mainGlobals "is_variable" = some (some (.ref f_is_variable))) (l_is_variable : K.lookup f_is_variable = some ⟨oc_is_variable, od_is_variable, .func (PySem.W.fnOf "is_variable" "is_variable" (defArgs s_is_variable) (defBody s_is_variable) (defScope s_is_variable) .none kV_is_variable dc_is_variable pm_is_variable an_is_variable cd_is_variable ct_is_variable), sl_is_variable⟩) (c_is_variable : PySem.W.codeIn K cd_is_variable "is_variable" = true) (k_is_variable : PySem.W.keepIn K (.ref f_is_variable) = true)
    (a_fits : PySem.W.nsIn K mainGlobals "fits" = some (some (.ref f_fits))) (l_fits : K.lookup f_fits = some ⟨oc_fits, od_fits, .func (PySem.W.fnOf "fits" "fits" (defArgs s_fits) (defBody s_fits) (defScope s_fits) .none kV_fits dc_fits pm_fits an_fits cd_fits ct_fits), sl_fits⟩) (c_fits : PySem.W.codeIn K cd_fits "fits" = true) (k_fits : PySem.W.keepIn K (.ref f_fits) = true)
    (a_arguments_of : PySem.W.nsIn K mainGlobals "arguments_of" = some (some (.ref f_arguments_of))) (l_arguments_of : K.lookup f_arguments_of = some ⟨oc_arguments_of, od_arguments_of, .func (PySem.W.fnOf "arguments_of" "arguments_of" (defArgs s_arguments_of) (defBody s_arguments_of) (defScope s_arguments_of) .none kV_arguments_of dc_arguments_of pm_arguments_of an_arguments_of cd_arguments_of ct_arguments_of), sl_arguments_of⟩) (c_arguments_of : PySem.W.codeIn K cd_arguments_of "arguments_of" = true) (k_arguments_of : PySem.W.keepIn K (.ref f_arguments_of) = true)
    (d_positions : PySem.W.nsIn K kd_positions "with_variables" = some (some (Value.bool true)))
    (a_positions : PySem.W.nsIn K mainGlobals "positions" = some (some (.ref f_positions))) (l_positions : K.lookup f_positions = some ⟨oc_positions, od_positions, .func (PySem.W.fnOf "positions" "positions" (defArgs s_positions) (defBody s_positions) (defScope s_positions) .none (.ref kd_positions) dc_positions pm_positions an_positions cd_positions ct_positions), sl_positions⟩) (c_positions : PySem.W.codeIn K cd_positions "positions" = true) (k_positions : PySem.W.keepIn K (.ref f_positions) = true)
    (a_subterm_at : PySem.W.nsIn K mainGlobals "subterm_at" = some (some (.ref f_subterm_at))) (l_subterm_at : K.lookup f_subterm_at = some ⟨oc_subterm_at, od_subterm_at, .func (PySem.W.fnOf "subterm_at" "subterm_at" (defArgs s_subterm_at) (defBody s_subterm_at) (defScope s_subterm_at) .none kV_subterm_at dc_subterm_at pm_subterm_at an_subterm_at cd_subterm_at ct_subterm_at), sl_subterm_at⟩) (c_subterm_at : PySem.W.codeIn K cd_subterm_at "subterm_at" = true) (k_subterm_at : PySem.W.keepIn K (.ref f_subterm_at) = true)
    (a_replace_at : PySem.W.nsIn K mainGlobals "replace_at" = some (some (.ref f_replace_at))) (l_replace_at : K.lookup f_replace_at = some ⟨oc_replace_at, od_replace_at, .func (PySem.W.fnOf "replace_at" "replace_at" (defArgs s_replace_at) (defBody s_replace_at) (defScope s_replace_at) .none kV_replace_at dc_replace_at pm_replace_at an_replace_at cd_replace_at ct_replace_at), sl_replace_at⟩) (c_replace_at : PySem.W.codeIn K cd_replace_at "replace_at" = true) (k_replace_at : PySem.W.keepIn K (.ref f_replace_at) = true)
    (a_path_to : PySem.W.nsIn K mainGlobals "path_to" = some (some (.ref f_path_to))) (l_path_to : K.lookup f_path_to = some ⟨oc_path_to, od_path_to, .func (PySem.W.fnOf "path_to" "path_to" (defArgs s_path_to) (defBody s_path_to) (defScope s_path_to) .none kV_path_to dc_path_to pm_path_to an_path_to cd_path_to ct_path_to), sl_path_to⟩) (c_path_to : PySem.W.codeIn K cd_path_to "path_to" = true) (k_path_to : PySem.W.keepIn K (.ref f_path_to) = true)
    (a_replace_variables : PySem.W.nsIn K mainGlobals "replace_variables" = some (some (.ref f_replace_variables))) (l_replace_variables : K.lookup f_replace_variables = some ⟨oc_replace_variables, od_replace_variables, .func (PySem.W.fnOf "replace_variables" "replace_variables" (defArgs s_replace_variables) (defBody s_replace_variables) (defScope s_replace_variables) .none kV_replace_variables dc_replace_variables pm_replace_variables an_replace_variables cd_replace_variables ct_replace_variables), sl_replace_variables⟩) (c_replace_variables : PySem.W.codeIn K cd_replace_variables "replace_variables" = true) (k_replace_variables : PySem.W.keepIn K (.ref f_replace_variables) = true)
    (a_apply : PySem.W.nsIn K mainGlobals "apply" = some (some (.ref f_apply))) (l_apply : K.lookup f_apply = some ⟨oc_apply, od_apply, .func (PySem.W.fnOf "apply" "apply" (defArgs s_apply) (defBody s_apply) (defScope s_apply) .none kV_apply dc_apply pm_apply an_apply cd_apply ct_apply), sl_apply⟩) (c_apply : PySem.W.codeIn K cd_apply "apply" = true) (k_apply : PySem.W.keepIn K (.ref f_apply) = true)
    (d_match : PySem.W.nsIn K kd_match "known" = some (some Value.none))
    (a_match : PySem.W.nsIn K mainGlobals "match" = some (some (.ref f_match))) (l_match : K.lookup f_match = some ⟨oc_match, od_match, .func (PySem.W.fnOf "match" "match" (defArgs s_match) (defBody s_match) (defScope s_match) .none (.ref kd_match) dc_match pm_match an_match cd_match ct_match), sl_match⟩) (c_match : PySem.W.codeIn K cd_match "match" = true) (k_match : PySem.W.keepIn K (.ref f_match) = true)
    (d_match_all : PySem.W.nsIn K kd_match_all "known" = some (some Value.none))
    (a_match_all : PySem.W.nsIn K mainGlobals "match_all" = some (some (.ref f_match_all))) (l_match_all : K.lookup f_match_all = some ⟨oc_match_all, od_match_all, .func (PySem.W.fnOf "match_all" "match_all" (defArgs s_match_all) (defBody s_match_all) (defScope s_match_all) .none (.ref kd_match_all) dc_match_all pm_match_all an_match_all cd_match_all ct_match_all), sl_match_all⟩) (c_match_all : PySem.W.codeIn K cd_match_all "match_all" = true) (k_match_all : PySem.W.keepIn K (.ref f_match_all) = true)
    (a_matches : PySem.W.nsIn K mainGlobals "matches" = some (some (.ref f_matches))) (l_matches : K.lookup f_matches = some ⟨oc_matches, od_matches, .func (PySem.W.fnOf "matches" "matches" (defArgs s_matches) (defBody s_matches) (defScope s_matches) .none kV_matches dc_matches pm_matches an_matches cd_matches ct_matches), sl_matches⟩) (c_matches : PySem.W.codeIn K cd_matches "matches" = true) (k_matches : PySem.W.keepIn K (.ref f_matches) = true)
    (a_rewrite : PySem.W.nsIn K mainGlobals "rewrite" = some (some (.ref f_rewrite))) (l_rewrite : K.lookup f_rewrite = some ⟨oc_rewrite, od_rewrite, .func (PySem.W.fnOf "rewrite" "rewrite" (defArgs s_rewrite) (defBody s_rewrite) (defScope s_rewrite) .none kV_rewrite dc_rewrite pm_rewrite an_rewrite cd_rewrite ct_rewrite), sl_rewrite⟩) (c_rewrite : PySem.W.codeIn K cd_rewrite "rewrite" = true) (k_rewrite : PySem.W.keepIn K (.ref f_rewrite) = true)
    (a_fitting : PySem.W.nsIn K mainGlobals "fitting" = some (some (.ref f_fitting))) (l_fitting : K.lookup f_fitting = some ⟨oc_fitting, od_fitting, .func (PySem.W.fnOf "fitting" "fitting" (defArgs s_fitting) (defBody s_fitting) (defScope s_fitting) .none kV_fitting dc_fitting pm_fitting an_fitting cd_fitting ct_fitting), sl_fitting⟩) (c_fitting : PySem.W.codeIn K cd_fitting "fitting" = true) (k_fitting : PySem.W.keepIn K (.ref f_fitting) = true)
    (a_normalize : PySem.W.nsIn K mainGlobals "normalize" = some (some (.ref f_normalize))) (l_normalize : K.lookup f_normalize = some ⟨oc_normalize, od_normalize, .func (PySem.W.fnOf "normalize" "normalize" (defArgs s_normalize) (defBody s_normalize) (defScope s_normalize) .none kV_normalize dc_normalize pm_normalize an_normalize cd_normalize ct_normalize), sl_normalize⟩) (c_normalize : PySem.W.codeIn K cd_normalize "normalize" = true) (k_normalize : PySem.W.keepIn K (.ref f_normalize) = true)
    (a_joined : PySem.W.nsIn K mainGlobals "joined" = some (some (.ref f_joined))) (l_joined : K.lookup f_joined = some ⟨oc_joined, od_joined, .func (PySem.W.fnOf "joined" "joined" (defArgs s_joined) (defBody s_joined) (defScope s_joined) .none kV_joined dc_joined pm_joined an_joined cd_joined ct_joined), sl_joined⟩) (c_joined : PySem.W.codeIn K cd_joined "joined" = true) (k_joined : PySem.W.keepIn K (.ref f_joined) = true)
    (a__law_deck : PySem.W.nsIn K mainGlobals "_law_deck" = some (some (.ref f__law_deck))) (l__law_deck : K.lookup f__law_deck = some ⟨oc__law_deck, od__law_deck, .func (PySem.W.fnOf "_law_deck" "_law_deck" (defArgs s__law_deck) (defBody s__law_deck) (defScope s__law_deck) .none kV__law_deck dc__law_deck pm__law_deck an__law_deck cd__law_deck ct__law_deck), sl__law_deck⟩) (c__law_deck : PySem.W.codeIn K cd__law_deck "_law_deck" = true) (k__law_deck : PySem.W.keepIn K (.ref f__law_deck) = true)
    (a__law_draw : PySem.W.nsIn K mainGlobals "_law_draw" = some (some (.ref f__law_draw))) (l__law_draw : K.lookup f__law_draw = some ⟨oc__law_draw, od__law_draw, .func (PySem.W.fnOf "_law_draw" "_law_draw" (defArgs s__law_draw) (defBody s__law_draw) (defScope s__law_draw) .none kV__law_draw dc__law_draw pm__law_draw an__law_draw cd__law_draw ct__law_draw), sl__law_draw⟩) (c__law_draw : PySem.W.codeIn K cd__law_draw "_law_draw" = true) (k__law_draw : PySem.W.keepIn K (.ref f__law_draw) = true)
    (a__law_same : PySem.W.nsIn K mainGlobals "_law_same" = some (some (.ref f__law_same))) (l__law_same : K.lookup f__law_same = some ⟨oc__law_same, od__law_same, .func (PySem.W.fnOf "_law_same" "_law_same" (defArgs s__law_same) (defBody s__law_same) (defScope s__law_same) .none kV__law_same dc__law_same pm__law_same an__law_same cd__law_same ct__law_same), sl__law_same⟩) (c__law_same : PySem.W.codeIn K cd__law_same "_law_same" = true) (k__law_same : PySem.W.keepIn K (.ref f__law_same) = true)
    (a__law_names : PySem.W.nsIn K mainGlobals "_law_names" = some (some (.ref f__law_names))) (l__law_names : K.lookup f__law_names = some ⟨oc__law_names, od__law_names, .func (PySem.W.fnOf "_law_names" "_law_names" (defArgs s__law_names) (defBody s__law_names) (defScope s__law_names) .none kV__law_names dc__law_names pm__law_names an__law_names cd__law_names ct__law_names), sl__law_names⟩) (c__law_names : PySem.W.codeIn K cd__law_names "_law_names" = true) (k__law_names : PySem.W.keepIn K (.ref f__law_names) = true)
    (a__law_weights : PySem.W.nsIn K mainGlobals "_law_weights" = some (some (.ref f__law_weights))) (l__law_weights : K.lookup f__law_weights = some ⟨oc__law_weights, od__law_weights, .func (PySem.W.fnOf "_law_weights" "_law_weights" (defArgs s__law_weights) (defBody s__law_weights) (defScope s__law_weights) .none kV__law_weights dc__law_weights pm__law_weights an__law_weights cd__law_weights ct__law_weights), sl__law_weights⟩) (c__law_weights : PySem.W.codeIn K cd__law_weights "_law_weights" = true) (k__law_weights : PySem.W.keepIn K (.ref f__law_weights) = true)
    (a__law_precedence : PySem.W.nsIn K mainGlobals "_law_precedence" = some (some (.ref f__law_precedence))) (l__law_precedence : K.lookup f__law_precedence = some ⟨oc__law_precedence, od__law_precedence, .func (PySem.W.fnOf "_law_precedence" "_law_precedence" (defArgs s__law_precedence) (defBody s__law_precedence) (defScope s__law_precedence) .none kV__law_precedence dc__law_precedence pm__law_precedence an__law_precedence cd__law_precedence ct__law_precedence), sl__law_precedence⟩) (c__law_precedence : PySem.W.codeIn K cd__law_precedence "_law_precedence" = true) (k__law_precedence : PySem.W.keepIn K (.ref f__law_precedence) = true)
    (a__law_term : PySem.W.nsIn K mainGlobals "_law_term" = some (some (.ref f__law_term))) (l__law_term : K.lookup f__law_term = some ⟨oc__law_term, od__law_term, .func (PySem.W.fnOf "_law_term" "_law_term" (defArgs s__law_term) (defBody s__law_term) (defScope s__law_term) .none kV__law_term dc__law_term pm__law_term an__law_term cd__law_term ct__law_term), sl__law_term⟩) (c__law_term : PySem.W.codeIn K cd__law_term "_law_term" = true) (k__law_term : PySem.W.keepIn K (.ref f__law_term) = true)
    (a__law_leaves : PySem.W.nsIn K mainGlobals "_law_leaves" = some (some (.ref f__law_leaves))) (l__law_leaves : K.lookup f__law_leaves = some ⟨oc__law_leaves, od__law_leaves, .func (PySem.W.fnOf "_law_leaves" "_law_leaves" (defArgs s__law_leaves) (defBody s__law_leaves) (defScope s__law_leaves) .none kV__law_leaves dc__law_leaves pm__law_leaves an__law_leaves cd__law_leaves ct__law_leaves), sl__law_leaves⟩) (c__law_leaves : PySem.W.codeIn K cd__law_leaves "_law_leaves" = true) (k__law_leaves : PySem.W.keepIn K (.ref f__law_leaves) = true)
    (a__law_apply : PySem.W.nsIn K mainGlobals "_law_apply" = some (some (.ref f__law_apply))) (l__law_apply : K.lookup f__law_apply = some ⟨oc__law_apply, od__law_apply, .func (PySem.W.fnOf "_law_apply" "_law_apply" (defArgs s__law_apply) (defBody s__law_apply) (defScope s__law_apply) .none kV__law_apply dc__law_apply pm__law_apply an__law_apply cd__law_apply ct__law_apply), sl__law_apply⟩) (c__law_apply : PySem.W.codeIn K cd__law_apply "_law_apply" = true) (k__law_apply : PySem.W.keepIn K (.ref f__law_apply) = true)
    (a__law_vars : PySem.W.nsIn K mainGlobals "_law_vars" = some (some (.ref f__law_vars))) (l__law_vars : K.lookup f__law_vars = some ⟨oc__law_vars, od__law_vars, .func (PySem.W.fnOf "_law_vars" "_law_vars" (defArgs s__law_vars) (defBody s__law_vars) (defScope s__law_vars) .none kV__law_vars dc__law_vars pm__law_vars an__law_vars cd__law_vars ct__law_vars), sl__law_vars⟩) (c__law_vars : PySem.W.codeIn K cd__law_vars "_law_vars" = true) (k__law_vars : PySem.W.keepIn K (.ref f__law_vars) = true)
    (a__law_count : PySem.W.nsIn K mainGlobals "_law_count" = some (some (.ref f__law_count))) (l__law_count : K.lookup f__law_count = some ⟨oc__law_count, od__law_count, .func (PySem.W.fnOf "_law_count" "_law_count" (defArgs s__law_count) (defBody s__law_count) (defScope s__law_count) .none kV__law_count dc__law_count pm__law_count an__law_count cd__law_count ct__law_count), sl__law_count⟩) (c__law_count : PySem.W.codeIn K cd__law_count "_law_count" = true) (k__law_count : PySem.W.keepIn K (.ref f__law_count) = true)
    (a__law_weight : PySem.W.nsIn K mainGlobals "_law_weight" = some (some (.ref f__law_weight))) (l__law_weight : K.lookup f__law_weight = some ⟨oc__law_weight, od__law_weight, .func (PySem.W.fnOf "_law_weight" "_law_weight" (defArgs s__law_weight) (defBody s__law_weight) (defScope s__law_weight) .none kV__law_weight dc__law_weight pm__law_weight an__law_weight cd__law_weight ct__law_weight), sl__law_weight⟩) (c__law_weight : PySem.W.codeIn K cd__law_weight "_law_weight" = true) (k__law_weight : PySem.W.keepIn K (.ref f__law_weight) = true)
    (a__law_higher : PySem.W.nsIn K mainGlobals "_law_higher" = some (some (.ref f__law_higher))) (l__law_higher : K.lookup f__law_higher = some ⟨oc__law_higher, od__law_higher, .func (PySem.W.fnOf "_law_higher" "_law_higher" (defArgs s__law_higher) (defBody s__law_higher) (defScope s__law_higher) .none kV__law_higher dc__law_higher pm__law_higher an__law_higher cd__law_higher ct__law_higher), sl__law_higher⟩) (c__law_higher : PySem.W.codeIn K cd__law_higher "_law_higher" = true) (k__law_higher : PySem.W.keepIn K (.ref f__law_higher) = true)
    (a__law_greater : PySem.W.nsIn K mainGlobals "_law_greater" = some (some (.ref f__law_greater))) (l__law_greater : K.lookup f__law_greater = some ⟨oc__law_greater, od__law_greater, .func (PySem.W.fnOf "_law_greater" "_law_greater" (defArgs s__law_greater) (defBody s__law_greater) (defScope s__law_greater) .none kV__law_greater dc__law_greater pm__law_greater an__law_greater cd__law_greater ct__law_greater), sl__law_greater⟩) (c__law_greater : PySem.W.codeIn K cd__law_greater "_law_greater" = true) (k__law_greater : PySem.W.keepIn K (.ref f__law_greater) = true)
    (a__law_compare : PySem.W.nsIn K mainGlobals "_law_compare" = some (some (.ref f__law_compare))) (l__law_compare : K.lookup f__law_compare = some ⟨oc__law_compare, od__law_compare, .func (PySem.W.fnOf "_law_compare" "_law_compare" (defArgs s__law_compare) (defBody s__law_compare) (defScope s__law_compare) .none kV__law_compare dc__law_compare pm__law_compare an__law_compare cd__law_compare ct__law_compare), sl__law_compare⟩) (c__law_compare : PySem.W.codeIn K cd__law_compare "_law_compare" = true) (k__law_compare : PySem.W.keepIn K (.ref f__law_compare) = true)
    (a__law_match : PySem.W.nsIn K mainGlobals "_law_match" = some (some (.ref f__law_match))) (l__law_match : K.lookup f__law_match = some ⟨oc__law_match, od__law_match, .func (PySem.W.fnOf "_law_match" "_law_match" (defArgs s__law_match) (defBody s__law_match) (defScope s__law_match) .none kV__law_match dc__law_match pm__law_match an__law_match cd__law_match ct__law_match), sl__law_match⟩) (c__law_match : PySem.W.codeIn K cd__law_match "_law_match" = true) (k__law_match : PySem.W.keepIn K (.ref f__law_match) = true)
    (a__law_places : PySem.W.nsIn K mainGlobals "_law_places" = some (some (.ref f__law_places))) (l__law_places : K.lookup f__law_places = some ⟨oc__law_places, od__law_places, .func (PySem.W.fnOf "_law_places" "_law_places" (defArgs s__law_places) (defBody s__law_places) (defScope s__law_places) .none kV__law_places dc__law_places pm__law_places an__law_places cd__law_places ct__law_places), sl__law_places⟩) (c__law_places : PySem.W.codeIn K cd__law_places "_law_places" = true) (k__law_places : PySem.W.keepIn K (.ref f__law_places) = true)
    (a__law_at : PySem.W.nsIn K mainGlobals "_law_at" = some (some (.ref f__law_at))) (l__law_at : K.lookup f__law_at = some ⟨oc__law_at, od__law_at, .func (PySem.W.fnOf "_law_at" "_law_at" (defArgs s__law_at) (defBody s__law_at) (defScope s__law_at) .none kV__law_at dc__law_at pm__law_at an__law_at cd__law_at ct__law_at), sl__law_at⟩) (c__law_at : PySem.W.codeIn K cd__law_at "_law_at" = true) (k__law_at : PySem.W.keepIn K (.ref f__law_at) = true)
    (a__law_put : PySem.W.nsIn K mainGlobals "_law_put" = some (some (.ref f__law_put))) (l__law_put : K.lookup f__law_put = some ⟨oc__law_put, od__law_put, .func (PySem.W.fnOf "_law_put" "_law_put" (defArgs s__law_put) (defBody s__law_put) (defScope s__law_put) .none kV__law_put dc__law_put pm__law_put an__law_put cd__law_put ct__law_put), sl__law_put⟩) (c__law_put : PySem.W.codeIn K cd__law_put "_law_put" = true) (k__law_put : PySem.W.keepIn K (.ref f__law_put) = true)
    (a__law_rule : PySem.W.nsIn K mainGlobals "_law_rule" = some (some (.ref f__law_rule))) (l__law_rule : K.lookup f__law_rule = some ⟨oc__law_rule, od__law_rule, .func (PySem.W.fnOf "_law_rule" "_law_rule" (defArgs s__law_rule) (defBody s__law_rule) (defScope s__law_rule) .none kV__law_rule dc__law_rule pm__law_rule an__law_rule cd__law_rule ct__law_rule), sl__law_rule⟩) (c__law_rule : PySem.W.codeIn K cd__law_rule "_law_rule" = true) (k__law_rule : PySem.W.keepIn K (.ref f__law_rule) = true)
    (a__law_step_at : PySem.W.nsIn K mainGlobals "_law_step_at" = some (some (.ref f__law_step_at))) (l__law_step_at : K.lookup f__law_step_at = some ⟨oc__law_step_at, od__law_step_at, .func (PySem.W.fnOf "_law_step_at" "_law_step_at" (defArgs s__law_step_at) (defBody s__law_step_at) (defScope s__law_step_at) .none kV__law_step_at dc__law_step_at pm__law_step_at an__law_step_at cd__law_step_at ct__law_step_at), sl__law_step_at⟩) (c__law_step_at : PySem.W.codeIn K cd__law_step_at "_law_step_at" = true) (k__law_step_at : PySem.W.keepIn K (.ref f__law_step_at) = true)
    (a__law_once : PySem.W.nsIn K mainGlobals "_law_once" = some (some (.ref f__law_once))) (l__law_once : K.lookup f__law_once = some ⟨oc__law_once, od__law_once, .func (PySem.W.fnOf "_law_once" "_law_once" (defArgs s__law_once) (defBody s__law_once) (defScope s__law_once) .none kV__law_once dc__law_once pm__law_once an__law_once cd__law_once ct__law_once), sl__law_once⟩) (c__law_once : PySem.W.codeIn K cd__law_once "_law_once" = true) (k__law_once : PySem.W.keepIn K (.ref f__law_once) = true)
    (a__law_normal_form : PySem.W.nsIn K mainGlobals "_law_normal_form" = some (some (.ref f__law_normal_form))) (l__law_normal_form : K.lookup f__law_normal_form = some ⟨oc__law_normal_form, od__law_normal_form, .func (PySem.W.fnOf "_law_normal_form" "_law_normal_form" (defArgs s__law_normal_form) (defBody s__law_normal_form) (defScope s__law_normal_form) .none kV__law_normal_form dc__law_normal_form pm__law_normal_form an__law_normal_form cd__law_normal_form ct__law_normal_form), sl__law_normal_form⟩) (c__law_normal_form : PySem.W.codeIn K cd__law_normal_form "_law_normal_form" = true) (k__law_normal_form : PySem.W.keepIn K (.ref f__law_normal_form) = true)
    (a__law_rules : PySem.W.nsIn K mainGlobals "_law_rules" = some (some (.ref f__law_rules))) (l__law_rules : K.lookup f__law_rules = some ⟨oc__law_rules, od__law_rules, .func (PySem.W.fnOf "_law_rules" "_law_rules" (defArgs s__law_rules) (defBody s__law_rules) (defScope s__law_rules) .none kV__law_rules dc__law_rules pm__law_rules an__law_rules cd__law_rules ct__law_rules), sl__law_rules⟩) (c__law_rules : PySem.W.codeIn K cd__law_rules "_law_rules" = true) (k__law_rules : PySem.W.keepIn K (.ref f__law_rules) = true)
    (a__law_start : PySem.W.nsIn K mainGlobals "_law_start" = some (some (.ref f__law_start))) (l__law_start : K.lookup f__law_start = some ⟨oc__law_start, od__law_start, .func (PySem.W.fnOf "_law_start" "_law_start" (defArgs s__law_start) (defBody s__law_start) (defScope s__law_start) .none kV__law_start dc__law_start pm__law_start an__law_start cd__law_start ct__law_start), sl__law_start⟩) (c__law_start : PySem.W.codeIn K cd__law_start "_law_start" = true) (k__law_start : PySem.W.keepIn K (.ref f__law_start) = true)
    (a_law : PySem.W.nsIn K mainGlobals "law" = some (some (.ref f_law))) (l_law : K.lookup f_law = some ⟨oc_law, od_law, .func (PySem.W.fnOf "law" "law" (defArgs s_law) (defBody s_law) (defScope s_law) .none kV_law dc_law pm_law an_law cd_law ct_law), sl_law⟩) (c_law : PySem.W.codeIn K cd_law "law" = true) (k_law : PySem.W.keepIn K (.ref f_law) = true)
     (gLA : PySem.W.nsIn K mainGlobals "LARGEST_SIZE" = some (some (.int 1000 t_LA)))
    (gDE : PySem.W.nsIn K mainGlobals "DEEPEST_NESTING" = some (some (.int 100 t_DE)))
   
    (z_len : PySem.W.nsIn K mainGlobals "len" = some none)
    (z_int : PySem.W.nsIn K mainGlobals "int" = some none)
    (z_range : PySem.W.nsIn K mainGlobals "range" = some none)
    (z_list : PySem.W.nsIn K mainGlobals "list" = some none)
    (z_tuple : PySem.W.nsIn K mainGlobals "tuple" = some none)
    (z_isinstance : PySem.W.nsIn K mainGlobals "isinstance" = some none)
    (z_bool : PySem.W.nsIn K mainGlobals "bool" = some none)
    (z_str : PySem.W.nsIn K mainGlobals "str" = some none)
    (z_dict : PySem.W.nsIn K mainGlobals "dict" = some none)
    (z_zip : PySem.W.nsIn K mainGlobals "zip" = some none)
    (z_sum : PySem.W.nsIn K mainGlobals "sum" = some none)
    : ∃ fd : FuncData, (∀ (s : Shared) (v : Value), BindsTo s fd ⟨[v], []⟩ [("script", v)]) ∧ ∀ base : Heap, K.In base → base.Ns mainGlobals mg → FnOk l.prog w K mg base CX0 82 fa fd ["script"] (spLaw K) := by
  have e := hfa.symm.trans (PySem.W.mg_of X G a_law); cases e
  have F_is_integer := fun_mk (st := s_is_integer) l_is_integer c_is_integer k_is_integer
  have D_is_integer : Df K mg "is_integer" s_is_integer ["value"] _ _ := ⟨F_is_integer, F_is_integer.binds (ps := ["value"]) (fun _ _ _ _ _ _ us hl => match us, hl with | [_], _ => rfl), PySem.W.mg_of X G a_is_integer⟩
  have F_decimal := fun_mk (st := s_decimal) l_decimal c_decimal k_decimal
  have D_decimal : Df K mg "decimal" s_decimal ["number"] _ _ := ⟨F_decimal, F_decimal.binds (ps := ["number"]) (fun _ _ _ _ _ _ us hl => match us, hl with | [_], _ => rfl), PySem.W.mg_of X G a_decimal⟩
  have F_worded := fun_mk (st := s_worded) l_worded c_worded k_worded
  have D_worded : Df K mg "worded" s_worded ["value"] _ _ := ⟨F_worded, F_worded.binds (ps := ["value"]) (fun _ _ _ _ _ _ us hl => match us, hl with | [_], _ => rfl), PySem.W.mg_of X G a_worded⟩
  have F_is_variable := fun_mk (st := s_is_variable) l_is_variable c_is_variable k_is_variable
  have D_is_variable : Df K mg "is_variable" s_is_variable ["term"] _ _ := ⟨F_is_variable, F_is_variable.binds (ps := ["term"]) (fun _ _ _ _ _ _ us hl => match us, hl with | [_], _ => rfl), PySem.W.mg_of X G a_is_variable⟩
  have F_fits := fun_mk (st := s_fits) l_fits c_fits k_fits
  have D_fits : Df K mg "fits" s_fits ["term"] _ _ := ⟨F_fits, F_fits.binds (ps := ["term"]) (fun _ _ _ _ _ _ us hl => match us, hl with | [_], _ => rfl), PySem.W.mg_of X G a_fits⟩
  have F_arguments_of := fun_mk (st := s_arguments_of) l_arguments_of c_arguments_of k_arguments_of
  have D_arguments_of : Df K mg "arguments_of" s_arguments_of ["terms"] _ _ := ⟨F_arguments_of, F_arguments_of.binds (ps := ["terms"]) (fun _ _ _ _ _ _ us hl => match us, hl with | [_], _ => rfl), PySem.W.mg_of X G a_arguments_of⟩
  have F_positions := fun_mk (st := s_positions) l_positions c_positions k_positions
  have FD_positions : FunD K "positions" "positions" (defArgs s_positions) (defBody s_positions) (defScope s_positions) [] [("with_variables", V.bl true)] f_positions _ := ⟨⟨_, _, _, _, _, _, _, _, _, _, rfl, l_positions, c_positions, .inl ⟨rfl, rfl⟩, .inr ⟨_, rfl, fun q hq => by cases List.mem_singleton.mp hq; exact ⟨_, d_positions, rfl⟩⟩⟩, k_positions⟩
  have D_positions : DkG K mg "positions" s_positions ["term", "with_variables"] 1 "with_variables" (V.bl true) _ _ := ⟨F_positions, FD_positions.binds0 1 (by decide) rfl (fun D doc pm an cdv ct us ks h1 h2 => match us, ks, h1, h2 with | [_], [_], _, _ => ⟨_, _, _, _, _, _, rfl, rfl, rfl⟩), ⟨fun s us ws X h1 h2 => match us, ws, h1, h2 with | [_], [_], _, _ => .of_eq rfl, fun r1 r2 => r1.append r2⟩, PySem.W.mg_of X G a_positions⟩
  have F_subterm_at := fun_mk (st := s_subterm_at) l_subterm_at c_subterm_at k_subterm_at
  have D_subterm_at : Df K mg "subterm_at" s_subterm_at ["term", "position"] _ _ := ⟨F_subterm_at, F_subterm_at.binds (ps := ["term", "position"]) (fun _ _ _ _ _ _ us hl => match us, hl with | [_, _], _ => rfl), PySem.W.mg_of X G a_subterm_at⟩
  have F_replace_at := fun_mk (st := s_replace_at) l_replace_at c_replace_at k_replace_at
  have D_replace_at : Df K mg "replace_at" s_replace_at ["term", "position", "new"] _ _ := ⟨F_replace_at, F_replace_at.binds (ps := ["term", "position", "new"]) (fun _ _ _ _ _ _ us hl => match us, hl with | [_, _, _], _ => rfl), PySem.W.mg_of X G a_replace_at⟩
  have F_path_to := fun_mk (st := s_path_to) l_path_to c_path_to k_path_to
  have D_path_to : Df K mg "path_to" s_path_to ["term", "position"] _ _ := ⟨F_path_to, F_path_to.binds (ps := ["term", "position"]) (fun _ _ _ _ _ _ us hl => match us, hl with | [_, _], _ => rfl), PySem.W.mg_of X G a_path_to⟩
  have F_replace_variables := fun_mk (st := s_replace_variables) l_replace_variables c_replace_variables k_replace_variables
  have D_replace_variables : Df K mg "replace_variables" s_replace_variables ["term", "new"] _ _ := ⟨F_replace_variables, F_replace_variables.binds (ps := ["term", "new"]) (fun _ _ _ _ _ _ us hl => match us, hl with | [_, _], _ => rfl), PySem.W.mg_of X G a_replace_variables⟩
  have F_apply := fun_mk (st := s_apply) l_apply c_apply k_apply
  have D_apply : Df K mg "apply" s_apply ["substitution", "term"] _ _ := ⟨F_apply, F_apply.binds (ps := ["substitution", "term"]) (fun _ _ _ _ _ _ us hl => match us, hl with | [_, _], _ => rfl), PySem.W.mg_of X G a_apply⟩
  have F_match := fun_mk (st := s_match) l_match c_match k_match
  have FD_match : FunD K "match" "match" (defArgs s_match) (defBody s_match) (defScope s_match) [] [("known", V.non)] f_match _ := ⟨⟨_, _, _, _, _, _, _, _, _, _, rfl, l_match, c_match, .inl ⟨rfl, rfl⟩, .inr ⟨_, rfl, fun q hq => by cases List.mem_singleton.mp hq; exact ⟨_, d_match, rfl⟩⟩⟩, k_match⟩
  have D_match : Dk K mg "match" s_match ["pattern", "term", "known"] 2 _ _ := ⟨F_match, FD_match.binds0 2 (by decide) rfl (fun D doc pm an cdv ct us ks h1 h2 => match us, ks, h1, h2 with | [_, _], [_], _, _ => ⟨_, _, _, _, _, _, rfl, rfl, rfl⟩), ⟨fun s us ws X h1 h2 => match us, ws, h1, h2 with | [_, _], [_], _, _ => .of_eq rfl, fun r1 r2 => r1.append r2⟩, PySem.W.mg_of X G a_match⟩
  have F_match_all := fun_mk (st := s_match_all) l_match_all c_match_all k_match_all
  have FD_match_all : FunD K "match_all" "match_all" (defArgs s_match_all) (defBody s_match_all) (defScope s_match_all) [] [("known", V.non)] f_match_all _ := ⟨⟨_, _, _, _, _, _, _, _, _, _, rfl, l_match_all, c_match_all, .inl ⟨rfl, rfl⟩, .inr ⟨_, rfl, fun q hq => by cases List.mem_singleton.mp hq; exact ⟨_, d_match_all, rfl⟩⟩⟩, k_match_all⟩
  have D_match_all : Dk K mg "match_all" s_match_all ["pairs", "known"] 1 _ _ := ⟨F_match_all, FD_match_all.binds0 1 (by decide) rfl (fun D doc pm an cdv ct us ks h1 h2 => match us, ks, h1, h2 with | [_], [_], _, _ => ⟨_, _, _, _, _, _, rfl, rfl, rfl⟩), ⟨fun s us ws X h1 h2 => match us, ws, h1, h2 with | [_], [_], _, _ => .of_eq rfl, fun r1 r2 => r1.append r2⟩, PySem.W.mg_of X G a_match_all⟩
  have F_matches := fun_mk (st := s_matches) l_matches c_matches k_matches
  have D_matches : Df K mg "matches" s_matches ["pattern", "term", "bound"] _ _ := ⟨F_matches, F_matches.binds (ps := ["pattern", "term", "bound"]) (fun _ _ _ _ _ _ us hl => match us, hl with | [_, _, _], _ => rfl), PySem.W.mg_of X G a_matches⟩
  have F_rewrite := fun_mk (st := s_rewrite) l_rewrite c_rewrite k_rewrite
  have D_rewrite : Df K mg "rewrite" s_rewrite ["rules", "term"] _ _ := ⟨F_rewrite, F_rewrite.binds (ps := ["rules", "term"]) (fun _ _ _ _ _ _ us hl => match us, hl with | [_, _], _ => rfl), PySem.W.mg_of X G a_rewrite⟩
  have F_fitting := fun_mk (st := s_fitting) l_fitting c_fitting k_fitting
  have D_fitting : Df K mg "fitting" s_fitting ["term"] _ _ := ⟨F_fitting, F_fitting.binds (ps := ["term"]) (fun _ _ _ _ _ _ us hl => match us, hl with | [_], _ => rfl), PySem.W.mg_of X G a_fitting⟩
  have F_normalize := fun_mk (st := s_normalize) l_normalize c_normalize k_normalize
  have D_normalize : Df K mg "normalize" s_normalize ["rules", "term"] _ _ := ⟨F_normalize, F_normalize.binds (ps := ["rules", "term"]) (fun _ _ _ _ _ _ us hl => match us, hl with | [_, _], _ => rfl), PySem.W.mg_of X G a_normalize⟩
  have F_joined := fun_mk (st := s_joined) l_joined c_joined k_joined
  have D_joined : Df K mg "joined" s_joined ["rules", "first", "second"] _ _ := ⟨F_joined, F_joined.binds (ps := ["rules", "first", "second"]) (fun _ _ _ _ _ _ us hl => match us, hl with | [_, _, _], _ => rfl), PySem.W.mg_of X G a_joined⟩
  have F__law_deck := fun_mk (st := s__law_deck) l__law_deck c__law_deck k__law_deck
  have D__law_deck : Df K mg "_law_deck" s__law_deck ["script"] _ _ := ⟨F__law_deck, F__law_deck.binds (ps := ["script"]) (fun _ _ _ _ _ _ us hl => match us, hl with | [_], _ => rfl), PySem.W.mg_of X G a__law_deck⟩
  have F__law_draw := fun_mk (st := s__law_draw) l__law_draw c__law_draw k__law_draw
  have D__law_draw : Df K mg "_law_draw" s__law_draw ["deck", "most"] _ _ := ⟨F__law_draw, F__law_draw.binds (ps := ["deck", "most"]) (fun _ _ _ _ _ _ us hl => match us, hl with | [_, _], _ => rfl), PySem.W.mg_of X G a__law_draw⟩
  have F__law_same := fun_mk (st := s__law_same) l__law_same c__law_same k__law_same
  have D__law_same : Df K mg "_law_same" s__law_same ["actual", "due"] _ _ := ⟨F__law_same, F__law_same.binds (ps := ["actual", "due"]) (fun _ _ _ _ _ _ us hl => match us, hl with | [_, _], _ => rfl), PySem.W.mg_of X G a__law_same⟩
  have F__law_names := fun_mk (st := s__law_names) l__law_names c__law_names k__law_names
  have D__law_names : Df K mg "_law_names" s__law_names ["deck"] _ _ := ⟨F__law_names, F__law_names.binds (ps := ["deck"]) (fun _ _ _ _ _ _ us hl => match us, hl with | [_], _ => rfl), PySem.W.mg_of X G a__law_names⟩
  have F__law_weights := fun_mk (st := s__law_weights) l__law_weights c__law_weights k__law_weights
  have D__law_weights : Df K mg "_law_weights" s__law_weights ["deck", "names"] _ _ := ⟨F__law_weights, F__law_weights.binds (ps := ["deck", "names"]) (fun _ _ _ _ _ _ us hl => match us, hl with | [_, _], _ => rfl), PySem.W.mg_of X G a__law_weights⟩
  have F__law_precedence := fun_mk (st := s__law_precedence) l__law_precedence c__law_precedence k__law_precedence
  have D__law_precedence : Df K mg "_law_precedence" s__law_precedence ["deck", "names"] _ _ := ⟨F__law_precedence, F__law_precedence.binds (ps := ["deck", "names"]) (fun _ _ _ _ _ _ us hl => match us, hl with | [_, _], _ => rfl), PySem.W.mg_of X G a__law_precedence⟩
  have F__law_term := fun_mk (st := s__law_term) l__law_term c__law_term k__law_term
  have D__law_term : Df K mg "_law_term" s__law_term ["deck", "depth", "leaves", "names"] _ _ := ⟨F__law_term, F__law_term.binds (ps := ["deck", "depth", "leaves", "names"]) (fun _ _ _ _ _ _ us hl => match us, hl with | [_, _, _, _], _ => rfl), PySem.W.mg_of X G a__law_term⟩
  have F__law_leaves := fun_mk (st := s__law_leaves) l__law_leaves c__law_leaves k__law_leaves
  have D__law_leaves : Df K mg "_law_leaves" s__law_leaves ["names", "many"] _ _ := ⟨F__law_leaves, F__law_leaves.binds (ps := ["names", "many"]) (fun _ _ _ _ _ _ us hl => match us, hl with | [_, _], _ => rfl), PySem.W.mg_of X G a__law_leaves⟩
  have F__law_apply := fun_mk (st := s__law_apply) l__law_apply c__law_apply k__law_apply
  have D__law_apply : Df K mg "_law_apply" s__law_apply ["sub", "term"] _ _ := ⟨F__law_apply, F__law_apply.binds (ps := ["sub", "term"]) (fun _ _ _ _ _ _ us hl => match us, hl with | [_, _], _ => rfl), PySem.W.mg_of X G a__law_apply⟩
  have F__law_vars := fun_mk (st := s__law_vars) l__law_vars c__law_vars k__law_vars
  have D__law_vars : Df K mg "_law_vars" s__law_vars ["term"] _ _ := ⟨F__law_vars, F__law_vars.binds (ps := ["term"]) (fun _ _ _ _ _ _ us hl => match us, hl with | [_], _ => rfl), PySem.W.mg_of X G a__law_vars⟩
  have F__law_count := fun_mk (st := s__law_count) l__law_count c__law_count k__law_count
  have D__law_count : Df K mg "_law_count" s__law_count ["term", "name"] _ _ := ⟨F__law_count, F__law_count.binds (ps := ["term", "name"]) (fun _ _ _ _ _ _ us hl => match us, hl with | [_, _], _ => rfl), PySem.W.mg_of X G a__law_count⟩
  have F__law_weight := fun_mk (st := s__law_weight) l__law_weight c__law_weight k__law_weight
  have D__law_weight : Df K mg "_law_weight" s__law_weight ["term", "weights"] _ _ := ⟨F__law_weight, F__law_weight.binds (ps := ["term", "weights"]) (fun _ _ _ _ _ _ us hl => match us, hl with | [_, _], _ => rfl), PySem.W.mg_of X G a__law_weight⟩
  have F__law_higher := fun_mk (st := s__law_higher) l__law_higher c__law_higher k__law_higher
  have D__law_higher : Df K mg "_law_higher" s__law_higher ["first", "second", "precedence"] _ _ := ⟨F__law_higher, F__law_higher.binds (ps := ["first", "second", "precedence"]) (fun _ _ _ _ _ _ us hl => match us, hl with | [_, _, _], _ => rfl), PySem.W.mg_of X G a__law_higher⟩
  have F__law_greater := fun_mk (st := s__law_greater) l__law_greater c__law_greater k__law_greater
  have D__law_greater : Df K mg "_law_greater" s__law_greater ["first", "second", "weights", "precedence"] _ _ := ⟨F__law_greater, F__law_greater.binds (ps := ["first", "second", "weights", "precedence"]) (fun _ _ _ _ _ _ us hl => match us, hl with | [_, _, _, _], _ => rfl), PySem.W.mg_of X G a__law_greater⟩
  have F__law_compare := fun_mk (st := s__law_compare) l__law_compare c__law_compare k__law_compare
  have D__law_compare : Df K mg "_law_compare" s__law_compare ["first", "second", "weights", "precedence"] _ _ := ⟨F__law_compare, F__law_compare.binds (ps := ["first", "second", "weights", "precedence"]) (fun _ _ _ _ _ _ us hl => match us, hl with | [_, _, _, _], _ => rfl), PySem.W.mg_of X G a__law_compare⟩
  have F__law_match := fun_mk (st := s__law_match) l__law_match c__law_match k__law_match
  have D__law_match : Df K mg "_law_match" s__law_match ["pattern", "term", "known"] _ _ := ⟨F__law_match, F__law_match.binds (ps := ["pattern", "term", "known"]) (fun _ _ _ _ _ _ us hl => match us, hl with | [_, _, _], _ => rfl), PySem.W.mg_of X G a__law_match⟩
  have F__law_places := fun_mk (st := s__law_places) l__law_places c__law_places k__law_places
  have D__law_places : Df K mg "_law_places" s__law_places ["term"] _ _ := ⟨F__law_places, F__law_places.binds (ps := ["term"]) (fun _ _ _ _ _ _ us hl => match us, hl with | [_], _ => rfl), PySem.W.mg_of X G a__law_places⟩
  have F__law_at := fun_mk (st := s__law_at) l__law_at c__law_at k__law_at
  have D__law_at : Df K mg "_law_at" s__law_at ["term", "place"] _ _ := ⟨F__law_at, F__law_at.binds (ps := ["term", "place"]) (fun _ _ _ _ _ _ us hl => match us, hl with | [_, _], _ => rfl), PySem.W.mg_of X G a__law_at⟩
  have F__law_put := fun_mk (st := s__law_put) l__law_put c__law_put k__law_put
  have D__law_put : Df K mg "_law_put" s__law_put ["term", "place", "new"] _ _ := ⟨F__law_put, F__law_put.binds (ps := ["term", "place", "new"]) (fun _ _ _ _ _ _ us hl => match us, hl with | [_, _, _], _ => rfl), PySem.W.mg_of X G a__law_put⟩
  have F__law_rule := fun_mk (st := s__law_rule) l__law_rule c__law_rule k__law_rule
  have D__law_rule : Df K mg "_law_rule" s__law_rule ["deck", "names", "weights", "precedence"] _ _ := ⟨F__law_rule, F__law_rule.binds (ps := ["deck", "names", "weights", "precedence"]) (fun _ _ _ _ _ _ us hl => match us, hl with | [_, _, _, _], _ => rfl), PySem.W.mg_of X G a__law_rule⟩
  have F__law_step_at := fun_mk (st := s__law_step_at) l__law_step_at c__law_step_at k__law_step_at
  have D__law_step_at : Df K mg "_law_step_at" s__law_step_at ["rules", "term", "place"] _ _ := ⟨F__law_step_at, F__law_step_at.binds (ps := ["rules", "term", "place"]) (fun _ _ _ _ _ _ us hl => match us, hl with | [_, _, _], _ => rfl), PySem.W.mg_of X G a__law_step_at⟩
  have F__law_once := fun_mk (st := s__law_once) l__law_once c__law_once k__law_once
  have D__law_once : Df K mg "_law_once" s__law_once ["rules", "term"] _ _ := ⟨F__law_once, F__law_once.binds (ps := ["rules", "term"]) (fun _ _ _ _ _ _ us hl => match us, hl with | [_, _], _ => rfl), PySem.W.mg_of X G a__law_once⟩
  have F__law_normal_form := fun_mk (st := s__law_normal_form) l__law_normal_form c__law_normal_form k__law_normal_form
  have D__law_normal_form : Df K mg "_law_normal_form" s__law_normal_form ["rules", "term"] _ _ := ⟨F__law_normal_form, F__law_normal_form.binds (ps := ["rules", "term"]) (fun _ _ _ _ _ _ us hl => match us, hl with | [_, _], _ => rfl), PySem.W.mg_of X G a__law_normal_form⟩
  have F__law_rules := fun_mk (st := s__law_rules) l__law_rules c__law_rules k__law_rules
  have D__law_rules : Df K mg "_law_rules" s__law_rules ["deck", "names", "weights", "precedence", "most"] _ _ := ⟨F__law_rules, F__law_rules.binds (ps := ["deck", "names", "weights", "precedence", "most"]) (fun _ _ _ _ _ _ us hl => match us, hl with | [_, _, _, _, _], _ => rfl), PySem.W.mg_of X G a__law_rules⟩
  have F__law_start := fun_mk (st := s__law_start) l__law_start c__law_start k__law_start
  have D__law_start : Df K mg "_law_start" s__law_start ["deck", "rules", "names"] _ _ := ⟨F__law_start, F__law_start.binds (ps := ["deck", "rules", "names"]) (fun _ _ _ _ _ _ us hl => match us, hl with | [_, _, _], _ => rfl), PySem.W.mg_of X G a__law_start⟩
  have F_law := fun_mk (st := s_law) l_law c_law k_law
  have D_law : Df K mg "law" s_law ["script"] _ _ := ⟨F_law, F_law.binds (ps := ["script"]) (fun _ _ _ _ _ _ us hl => match us, hl with | [_], _ => rfl), PySem.W.mg_of X G a_law⟩
  have m_len := PySem.W.mg_none_of X G z_len
  have m_int := PySem.W.mg_none_of X G z_int
  have m_range := PySem.W.mg_none_of X G z_range
  have m_list := PySem.W.mg_none_of X G z_list
  have m_tuple := PySem.W.mg_none_of X G z_tuple
  have m_isinstance := PySem.W.mg_none_of X G z_isinstance
  have m_bool := PySem.W.mg_none_of X G z_bool
  have m_str := PySem.W.mg_none_of X G z_str
  have m_dict := PySem.W.mg_none_of X G z_dict
  have m_zip := PySem.W.mg_none_of X G z_zip
  have m_sum := PySem.W.mg_none_of X G z_sum
  refine ⟨PySem.W.fnOf "law" "law" (defArgs s_law) (defBody s_law) (defScope s_law) .none kV_law dc_law pm_law an_law cd_law ct_law, fun s v => .of_eq rfl, fun base _ _ => ?_⟩
  have G_is_variable := ok_is_variable (P := l.prog) (w := w) (base := base) D_is_variable m_isinstance m_tuple
  have G_law_deck := ok_law_deck (P := l.prog) (w := w) (base := base) D__law_deck m_list
  have G_law_draw := ok_law_draw (P := l.prog) (w := w) (base := base) D__law_draw m_len m_int
  have G_law_names := ok_law_names (P := l.prog) (w := w) (base := base) D__law_names D__law_draw G_law_draw m_list
  have G_law_weights := ok_law_weights (P := l.prog) (w := w) (base := base) D__law_weights D__law_draw G_law_draw
  have G_law_precedence := ok_law_precedence (P := l.prog) (w := w) (base := base) D__law_precedence D__law_draw G_law_draw m_list m_len m_range
  have G_law_leaves := ok_law_leaves (P := l.prog) (w := w) (base := base) D__law_leaves m_range
  have G_law_term := ok_law_term (P := l.prog) (w := w) (base := base) D__law_term D__law_draw G_law_draw m_len 5
  have G_law_weight := ok_law_weight (P := l.prog) (w := w) (base := base) D__law_weight m_isinstance m_tuple m_sum 8
  have G_law_count := ok_law_count (P := l.prog) (w := w) (base := base) D__law_count m_isinstance m_tuple m_sum m_int 8
  have G_law_vars := ok_law_vars (P := l.prog) (w := w) (base := base) D__law_vars m_isinstance m_tuple 8
  have G_law_higher := ok_law_higher (P := l.prog) (w := w) (base := base) D__law_higher
  have G_law_greater := ok_law_greater (P := l.prog) (w := w) (base := base) D__law_greater D__law_vars G_law_vars D__law_count G_law_count D__law_weight G_law_weight D__law_higher G_law_higher m_isinstance m_tuple m_len m_range 8
  have G_law_compare := ok_law_compare (P := l.prog) (w := w) (base := base) D__law_compare D__law_greater G_law_greater
  have G_law_apply := ok_law_apply (P := l.prog) (w := w) (base := base) D__law_apply m_isinstance m_tuple 8
  have G_arguments_of := ok_arguments_of (P := l.prog) (w := w) (base := base) D_arguments_of D_is_variable G_is_variable
  have G_fits := ok_fits (P := l.prog) (w := w) (base := base) D_fits D_arguments_of G_arguments_of m_len (PySem.W.mg_of X G gLA) (PySem.W.mg_of X G gDE)
  have G_rv := ok_rv (P := l.prog) (w := w) (base := base) D_replace_variables D_is_variable G_is_variable m_tuple 8
  have G_apply := ok_apply (P := l.prog) (w := w) (base := base) D_apply D_replace_variables G_rv D_fits G_fits
  have G_positions := ok_positions (P := l.prog) (w := w) (base := base) D_positions D_is_variable G_is_variable m_len m_range
  have G_path_to := ok_path_to (P := l.prog) (w := w) (base := base) D_path_to D_is_variable G_is_variable m_len
  have G_subterm_at := ok_subterm_at (P := l.prog) (w := w) (base := base) D_subterm_at D_path_to G_path_to
  have G_replace_at := ok_replace_at (P := l.prog) (w := w) (base := base) D_replace_at D_path_to G_path_to m_len m_range
  have G_law_places := ok_law_places (P := l.prog) (w := w) (base := base) D__law_places m_isinstance m_tuple m_len m_range 77
  have G_law_at := ok_law_at (P := l.prog) (w := w) (base := base) D__law_at
  have G_law_put := ok_law_put (P := l.prog) (w := w) (base := base) D__law_put 78
  have G_matches := fun (S : Str → Nat → Prop) (SF : SymF S) => ok_matches (P := l.prog) (w := w) (base := base) SF D_matches D_is_variable G_is_variable m_len m_zip 5
  have G_match_all := fun (S : Str → Nat → Prop) (SF : SymF S) => ok_match_all (P := l.prog) (w := w) (base := base) D_match_all D_matches (G_matches S SF) m_dict
  have G_match := fun (S : Str → Nat → Prop) (SF : SymF S) => ok_match (P := l.prog) (w := w) (base := base) D_match D_match_all (G_match_all S SF)
  have G_law_match := fun (S : Str → Nat → Prop) (SF : SymF S ∧ ∀ f n, S f n → n ≤ 1000) => ok_law_match (P := l.prog) (w := w) (base := base) SF.1 SF.2 D__law_match m_isinstance m_tuple m_len m_range m_dict 5
  have G_law_sameP := ok_law_sameP (P := l.prog) (w := w) (base := base) D__law_same m_isinstance m_tuple m_len m_range m_bool m_int m_str 79
  have G_fitting := ok_fitting (P := l.prog) (w := w) (base := base) D_fitting D_fits G_fits
  have G_rewrite := ok_rewrite (P := l.prog) (w := w) (base := base) D_rewrite D_positions G_positions D_subterm_at G_subterm_at D_match G_match D_replace_at G_replace_at D_apply G_apply D_fitting G_fitting
  have G_normalize := ok_normalize (P := l.prog) (w := w) (base := base) D_normalize D_rewrite G_rewrite
  have G_joined := ok_joined (P := l.prog) (w := w) (base := base) D_joined D_normalize G_normalize
  have G_law_step_at := ok_law_step_at (P := l.prog) (w := w) (base := base) D__law_step_at D__law_at G_law_at D__law_match G_law_match D__law_apply G_law_apply D__law_put G_law_put
  have G_law_once := ok_law_once (P := l.prog) (w := w) (base := base) D__law_once D__law_places G_law_places D__law_step_at G_law_step_at
  have G_law_normal_form := ok_law_normal_form (P := l.prog) (w := w) (base := base) D__law_normal_form D__law_once G_law_once m_range
  have G_law_rule := ok_law_rule (P := l.prog) (w := w) (base := base) D__law_rule D__law_leaves G_law_leaves D__law_term G_law_term D__law_vars G_law_vars D__law_compare G_law_compare
  have G_law_rules := ok_law_rules (P := l.prog) (w := w) (base := base) D__law_rules D__law_rule G_law_rule D__law_draw G_law_draw D__law_compare G_law_compare m_range m_isinstance m_tuple
  have G_law_start := ok_law_start (P := l.prog) (w := w) (base := base) D__law_start D__law_leaves G_law_leaves D__law_term G_law_term D__law_draw G_law_draw D__law_apply G_law_apply m_len
  exact ok_law D_law D__law_deck G_law_deck D__law_names G_law_names D__law_weights G_law_weights D__law_precedence G_law_precedence D__law_rules G_law_rules D__law_start G_law_start D__law_normal_form G_law_normal_form D__law_same G_law_sameP D_rewrite G_rewrite D__law_once G_law_once D_normalize G_normalize D_joined G_joined m_list m_range
end K76
open PySem PySem.W PyProof.Rows
set_option maxRecDepth 100000 in
set_option maxHeartbeats 0 in
theorem PySem.Challenge.cw_elenchus_k76_rewriting_and_normal_forms_holds : PySem.Challenge.rw_elenchus_k76_rewriting_and_normal_forms.Holds := by
  w_on; o_law; k_head; (case hw => w_witness2)
  k_fill
  refine L2.walk_of (l := PySem.Challenge.rw_elenchus_k76_rewriting_and_normal_forms) (n := 63) (k := 82) (x := "script") (CX := fun _ => L2.CX0) (sp := fun w => K76.spLaw _) rfl (by decide) rfl ⟨rfl, by decide, by decide⟩ (fun w h Y => PySem.W.kIn_of Y) ?F (fun _ _ a ns hl _ hS => ⟨a, ns, rfl, hS, hl, fun _ => rfl⟩) (fun _ _ _ _ _ h => h)
  case F =>
    intro w mg fa h KX G hmg
    refine' K76.all_mk (l := PySem.Challenge.rw_elenchus_k76_rewriting_and_normal_forms) KX G hmg ?a_is_integer ?l_is_integer ?c_is_integer ?k_is_integer ?a_decimal ?l_decimal ?c_decimal ?k_decimal ?a_worded ?l_worded ?c_worded ?k_worded ?a_is_variable ?l_is_variable ?c_is_variable ?k_is_variable ?a_fits ?l_fits ?c_fits ?k_fits ?a_arguments_of ?l_arguments_of ?c_arguments_of ?k_arguments_of ?d_positions ?a_positions ?l_positions ?c_positions ?k_positions ?a_subterm_at ?l_subterm_at ?c_subterm_at ?k_subterm_at ?a_replace_at ?l_replace_at ?c_replace_at ?k_replace_at ?a_path_to ?l_path_to ?c_path_to ?k_path_to ?a_replace_variables ?l_replace_variables ?c_replace_variables ?k_replace_variables ?a_apply ?l_apply ?c_apply ?k_apply ?d_match ?a_match ?l_match ?c_match ?k_match ?d_match_all ?a_match_all ?l_match_all ?c_match_all ?k_match_all ?a_matches ?l_matches ?c_matches ?k_matches ?a_rewrite ?l_rewrite ?c_rewrite ?k_rewrite ?a_fitting ?l_fitting ?c_fitting ?k_fitting ?a_normalize ?l_normalize ?c_normalize ?k_normalize ?a_joined ?l_joined ?c_joined ?k_joined ?a__law_deck ?l__law_deck ?c__law_deck ?k__law_deck ?a__law_draw ?l__law_draw ?c__law_draw ?k__law_draw ?a__law_same ?l__law_same ?c__law_same ?k__law_same ?a__law_names ?l__law_names ?c__law_names ?k__law_names ?a__law_weights ?l__law_weights ?c__law_weights ?k__law_weights ?a__law_precedence ?l__law_precedence ?c__law_precedence ?k__law_precedence ?a__law_term ?l__law_term ?c__law_term ?k__law_term ?a__law_leaves ?l__law_leaves ?c__law_leaves ?k__law_leaves ?a__law_apply ?l__law_apply ?c__law_apply ?k__law_apply ?a__law_vars ?l__law_vars ?c__law_vars ?k__law_vars ?a__law_count ?l__law_count ?c__law_count ?k__law_count ?a__law_weight ?l__law_weight ?c__law_weight ?k__law_weight ?a__law_higher ?l__law_higher ?c__law_higher ?k__law_higher ?a__law_greater ?l__law_greater ?c__law_greater ?k__law_greater ?a__law_compare ?l__law_compare ?c__law_compare ?k__law_compare ?a__law_match ?l__law_match ?c__law_match ?k__law_match ?a__law_places ?l__law_places ?c__law_places ?k__law_places ?a__law_at ?l__law_at ?c__law_at ?k__law_at ?a__law_put ?l__law_put ?c__law_put ?k__law_put ?a__law_rule ?l__law_rule ?c__law_rule ?k__law_rule ?a__law_step_at ?l__law_step_at ?c__law_step_at ?k__law_step_at ?a__law_once ?l__law_once ?c__law_once ?k__law_once ?a__law_normal_form ?l__law_normal_form ?c__law_normal_form ?k__law_normal_form ?a__law_rules ?l__law_rules ?c__law_rules ?k__law_rules ?a__law_start ?l__law_start ?c__law_start ?k__law_start ?a_law ?l_law ?c_law ?k_law ?gLA ?gDE ?z_len ?z_int ?z_range ?z_list ?z_tuple ?z_isinstance ?z_bool ?z_str ?z_dict ?z_zip ?z_sum
    (case a_is_integer => k_is)
    (case l_is_integer => k_is)
    (case c_is_integer => k_is)
    (case k_is_integer => k_is)
    (case a_decimal => k_is)
    (case l_decimal => k_is)
    (case c_decimal => k_is)
    (case k_decimal => k_is)
    (case a_worded => k_is)
    (case l_worded => k_is)
    (case c_worded => k_is)
    (case k_worded => k_is)
    (case a_is_variable => k_is)
    (case l_is_variable => k_is)
    (case c_is_variable => k_is)
    (case k_is_variable => k_is)
    (case a_fits => k_is)
    (case l_fits => k_is)
    (case c_fits => k_is)
    (case k_fits => k_is)
    (case a_arguments_of => k_is)
    (case l_arguments_of => k_is)
    (case c_arguments_of => k_is)
    (case k_arguments_of => k_is)
    (case a_positions => k_is)
    (case l_positions => k_is)
    (case c_positions => k_is)
    (case k_positions => k_is)
    (case a_subterm_at => k_is)
    (case l_subterm_at => k_is)
    (case c_subterm_at => k_is)
    (case k_subterm_at => k_is)
    (case a_replace_at => k_is)
    (case l_replace_at => k_is)
    (case c_replace_at => k_is)
    (case k_replace_at => k_is)
    (case a_path_to => k_is)
    (case l_path_to => k_is)
    (case c_path_to => k_is)
    (case k_path_to => k_is)
    (case a_replace_variables => k_is)
    (case l_replace_variables => k_is)
    (case c_replace_variables => k_is)
    (case k_replace_variables => k_is)
    (case a_apply => k_is)
    (case l_apply => k_is)
    (case c_apply => k_is)
    (case k_apply => k_is)
    (case a_match => k_is)
    (case l_match => k_is)
    (case c_match => k_is)
    (case k_match => k_is)
    (case a_match_all => k_is)
    (case l_match_all => k_is)
    (case c_match_all => k_is)
    (case k_match_all => k_is)
    (case a_matches => k_is)
    (case l_matches => k_is)
    (case c_matches => k_is)
    (case k_matches => k_is)
    (case a_rewrite => k_is)
    (case l_rewrite => k_is)
    (case c_rewrite => k_is)
    (case k_rewrite => k_is)
    (case a_fitting => k_is)
    (case l_fitting => k_is)
    (case c_fitting => k_is)
    (case k_fitting => k_is)
    (case a_normalize => k_is)
    (case l_normalize => k_is)
    (case c_normalize => k_is)
    (case k_normalize => k_is)
    (case a_joined => k_is)
    (case l_joined => k_is)
    (case c_joined => k_is)
    (case k_joined => k_is)
    (case a__law_deck => k_is)
    (case l__law_deck => k_is)
    (case c__law_deck => k_is)
    (case k__law_deck => k_is)
    (case a__law_draw => k_is)
    (case l__law_draw => k_is)
    (case c__law_draw => k_is)
    (case k__law_draw => k_is)
    (case a__law_same => k_is)
    (case l__law_same => k_is)
    (case c__law_same => k_is)
    (case k__law_same => k_is)
    (case a__law_names => k_is)
    (case l__law_names => k_is)
    (case c__law_names => k_is)
    (case k__law_names => k_is)
    (case a__law_weights => k_is)
    (case l__law_weights => k_is)
    (case c__law_weights => k_is)
    (case k__law_weights => k_is)
    (case a__law_precedence => k_is)
    (case l__law_precedence => k_is)
    (case c__law_precedence => k_is)
    (case k__law_precedence => k_is)
    (case a__law_term => k_is)
    (case l__law_term => k_is)
    (case c__law_term => k_is)
    (case k__law_term => k_is)
    (case a__law_leaves => k_is)
    (case l__law_leaves => k_is)
    (case c__law_leaves => k_is)
    (case k__law_leaves => k_is)
    (case a__law_apply => k_is)
    (case l__law_apply => k_is)
    (case c__law_apply => k_is)
    (case k__law_apply => k_is)
    (case a__law_vars => k_is)
    (case l__law_vars => k_is)
    (case c__law_vars => k_is)
    (case k__law_vars => k_is)
    (case a__law_count => k_is)
    (case l__law_count => k_is)
    (case c__law_count => k_is)
    (case k__law_count => k_is)
    (case a__law_weight => k_is)
    (case l__law_weight => k_is)
    (case c__law_weight => k_is)
    (case k__law_weight => k_is)
    (case a__law_higher => k_is)
    (case l__law_higher => k_is)
    (case c__law_higher => k_is)
    (case k__law_higher => k_is)
    (case a__law_greater => k_is)
    (case l__law_greater => k_is)
    (case c__law_greater => k_is)
    (case k__law_greater => k_is)
    (case a__law_compare => k_is)
    (case l__law_compare => k_is)
    (case c__law_compare => k_is)
    (case k__law_compare => k_is)
    (case a__law_match => k_is)
    (case l__law_match => k_is)
    (case c__law_match => k_is)
    (case k__law_match => k_is)
    (case a__law_places => k_is)
    (case l__law_places => k_is)
    (case c__law_places => k_is)
    (case k__law_places => k_is)
    (case a__law_at => k_is)
    (case l__law_at => k_is)
    (case c__law_at => k_is)
    (case k__law_at => k_is)
    (case a__law_put => k_is)
    (case l__law_put => k_is)
    (case c__law_put => k_is)
    (case k__law_put => k_is)
    (case a__law_rule => k_is)
    (case l__law_rule => k_is)
    (case c__law_rule => k_is)
    (case k__law_rule => k_is)
    (case a__law_step_at => k_is)
    (case l__law_step_at => k_is)
    (case c__law_step_at => k_is)
    (case k__law_step_at => k_is)
    (case a__law_once => k_is)
    (case l__law_once => k_is)
    (case c__law_once => k_is)
    (case k__law_once => k_is)
    (case a__law_normal_form => k_is)
    (case l__law_normal_form => k_is)
    (case c__law_normal_form => k_is)
    (case k__law_normal_form => k_is)
    (case a__law_rules => k_is)
    (case l__law_rules => k_is)
    (case c__law_rules => k_is)
    (case k__law_rules => k_is)
    (case a__law_start => k_is)
    (case l__law_start => k_is)
    (case c__law_start => k_is)
    (case k__law_start => k_is)
    (case a_law => k_is)
    (case l_law => k_is)
    (case c_law => k_is)
    (case k_law => k_is)
    (case gLA => k_is)
    (case gDE => k_is)
    (case z_len => k_is)
    (case z_int => k_is)
    (case z_range => k_is)
    (case z_list => k_is)
    (case z_tuple => k_is)
    (case z_isinstance => k_is)
    (case z_bool => k_is)
    (case z_str => k_is)
    (case z_dict => k_is)
    (case z_zip => k_is)
    (case z_sum => k_is)
    (case d_positions => k_is)
    (case d_match => k_is)
    (case d_match_all => k_is)
