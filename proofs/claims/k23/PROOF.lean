import PyProof.Rows.All
import Wide.All
import OpenK.AllK
import Wide.FinOn
import HandS.ForMost
import HandS.Rev
import HandS.RevTup
import HandS.IsInst
import HandS.Style
import HandS.Conv
import HandS.Wide
import HandS.Flow
import HandS.ListEq
import HandS.More
import HandS.Codes
import HandS.FStr
import HandS.Zip
import HandS.Defaults
import HandS.DeepEq
import KE.SortData
import KE.DataCmp
import KE.KDictSum
import HandS.Deep
import KE.DatumOrd
import KE.KSortTupAny
import HandS.ExcInit
import HandS.ExcIs
import HandS.ExcField
import HandS.ForSpec
import HandS.Nested
import HandS.Struct
import KE.KExcSuper
import HandS.ExcInitHot
import HandS.FStrTup
import HandS.HotCalls
import KE.KExcIs
import HandS.TupAny
import HandS.Iter
import HandS.DictComp
import HandS.Walk
import HandS.ExcCtx
import PyProof.Rows.TupDisplay
import KE.GoesEnum
import HandS.SortKw
import HandS.Property
import HandS.SetFor
import KE.DataFind
import PyProof.FString2
import HandS.MakeKwOnly
import HandS.IterVal
import HandS.TupSets
import KE.DatumIndex
import HandS.StrMore
import HandS.CallLocal
import KE.KDictZip
import HandS.GenYield
import HandS.GenCall
import HandS.GenList
import HandS.Flt
import PySem.Challenge.RW_elenchus_k23_clauses_of_a_matrix
set_option Elab.async false
set_option linter.all false
set_option maxRecDepth 100000
namespace Own
open PySem PySem.Spec PyProof.Rows L2 RT
theorem ext_meets (l b : Addr) (xs ys : Array Value) (n m : Nat) (dd : Option Addr) (sl : Array (Option Value)) (long : ¬(!xs.isEmpty && Builtin.List.listTooLong (xs.size + ys.size)) = true) (hx : xs.size ≤ sizeLine) (hxy : xs.size + ys.size ≤ sizeLine + 1) :
    Meets (Builtin.«list.extend» ⟨[.ref l, .ref b], []⟩) (fun _ R s => s.heap.get? l = some { cls := .type "list", dict := none, data := .seq xs n, slots := #[] } ∧
      s.heap.get? b = some { cls := .type "tuple", dict := dd, data := .seq ys m, slots := sl } ∧ R (.ok (.ret Value.none)) { s with heap := s.heap.update l (Obj.mapSeq fun x => x ++ ys), toks := s.toks }) :=
  .of_wp fun prog w A R s h => by
    obtain ⟨hp, g, d, tk, os⟩ := s
    obtain ⟨h1, h2, h3⟩ := h
    have g1 := AutoSeq1.idx_int; have g2 := AutoSeq1.sub_tuple_tuple; have g3 := AutoSeq1.sub_list_list; have g4 := AutoSeq1.sub_tuple_list; have g5 := AutoSeq1.sub_list_tuple
    have fit : (xs ++ ys).size ≤ sizeLine + 1 := Array.size_append ▸ hxy
    wp_walk using (wpAny_updateSeq h1 rfl (hz := hx) (_hz' := fit)), AutoSeq1.wpAny_loadPart' h1, AutoSeq1.wpAny_loadPart' h2
    exact ⟨_, rfl, h3⟩
def rExtendT (K : PySem.W.Frag) : V → List V → Hp → VK → Prop := fun x vs H Q => ∃ l b xs zs, x = .ref l ∧ vs = [.ref b] ∧ H l = some (.lst xs) ∧ SqT K H b zs ∧ xs.length + zs.length ≤ sizeLine ∧ Q .non (upd H l (.lst (xs ++ zs)))
theorem mt_extendT {X : Cx} : MtR X "list.extend" (rExtendT X.K) := by
  intro pins s σ H x vs v us Q I rx rv h
  obtain ⟨l, b, xs, zs, rfl, rfl, hl, hb, fit, q⟩ := h
  cases rx
  obtain ⟨u, rfl, ru⟩ := rv.one
  cases ru
  obtain ⟨z, its, n, r, hlen, e⟩ := I.lstM hl
  obtain ⟨its2, r2, p2, z2⟩ := I.tuple hb
  obtain ⟨⟨c2, d2, dt2, sl2⟩, ho2, hc2, m2, hd2⟩ := id p2
  simp only at hc2 hd2
  subst hc2 hd2
  have e2 := r2.length
  have tot : its.toArray.size + its2.toArray.size ≤ sizeLine := by rw [List.size_toArray, List.size_toArray]; omega
  have notlong : ¬ (!its.toArray.isEmpty && Builtin.List.listTooLong (its.toArray.size + its2.toArray.size)) = true := by rw [notLongL tot, Bool.and_false]; exact Bool.false_ne_true
  refine call_meets PySem.F.slot_list_extend ⟨_, e, rfl⟩ PySem.F.entry_list_extend (PySem.F.args_list_extend_2 _ _) (ext_meets l b its.toArray its2.toArray n m2 d2 sl2 notlong (by rw [List.size_toArray]; omega) (by omega)) ⟨e, ho2, ?_⟩
  exact ⟨.non, _, I.lset (its' := its ++ its2) hl e (by simp) (r.append r2) (by rw [List.length_append]; omega), rfl, q⟩

end Own
namespace Own
open PySem PySem.Spec PyProof.Rows L2 RT HT
theorem adjust_back (n : Nat) (h : 0 < n) : Builtin.Slice.sliceAdjust none (some 0) (-1) (n : Int) = ((n : Int) - 1, 0) := by
  unfold Builtin.Slice.sliceAdjust
  have h1 : (-1 : Int) < 0 := by decide
  have h2 : ¬ ((0 : Int) < 0) := by decide
  simp only [h1, h2, if_true, if_false]
  refine Prod.ext rfl ?_
  show min (0 : Int) ((n : Int) - 1) = 0
  omega
theorem places_back (n : Nat) (h : 0 < n) : Builtin.Slice.slicePlaces ((n : Int) - 1) 0 (-1) = n - 1 := by
  unfold Builtin.Slice.slicePlaces
  have h1 : ¬ ((-1 : Int) > 0) := by decide
  simp only [h1, if_false]
  have e : (- -1 : Int) = 1 := by decide
  rw [e, Int.ediv_one]
  split <;> omega
theorem fm_congr {α β : Type} {f g : α → Option β} : ∀ l : List α, (∀ a ∈ l, f a = g a) → l.filterMap f = l.filterMap g
  | [], _ => rfl
  | a :: r, h => by
    rw [List.filterMap_cons, List.filterMap_cons, h a List.mem_cons_self, fm_congr r fun b hb => h b (List.mem_cons_of_mem _ hb)]
theorem pick_back (xs : Array Value) : ((List.range (xs.size - 1)).filterMap fun (m : Nat) => xs[(((xs.size : Int) - 1) + (m : Int) * (-1)).toNat]?).toArray = xs.toList.tail.reverse.toArray := by
  have e1 : (fun (m : Nat) => xs[(((xs.size : Int) - 1) + (m : Int) * (-1)).toNat]?) = fun m => xs[xs.size - 1 - m]? := by
    funext m
    have : (((xs.size : Int) - 1) + (m : Int) * (-1)).toNat = xs.size - 1 - m := by omega
    rw [this]
  rw [e1]
  congr 1
  have e2 : (List.range (xs.size - 1)).filterMap (fun m => xs[xs.size - 1 - m]?) = (List.range (xs.size - 1)).filterMap (fun m => xs.toList.tail.reverse[m]?) := by
    apply fm_congr
    intro m hm
    have hm := List.mem_range.mp hm
    have hl : xs.toList.tail.length = xs.size - 1 := by rw [List.length_tail, Array.length_toList]
    rw [List.getElem?_reverse (by omega), hl, List.getElem?_tail, Array.getElem?_toList]
    try (congr 1; omega)
  rw [e2]
  have hl : xs.toList.tail.reverse.length = xs.size - 1 := by rw [List.length_reverse, List.length_tail, Array.length_toList]
  rw [← hl]
  generalize xs.toList.tail.reverse = ys
  have q := PySem.W.krv_all ys.toArray
  simpa using q
section
variable {prog : Program} {w : World} {A : Around} {E : Value → Shared → Prop} {s : Shared}
theorem sliceApplied_back {sl : Addr} {vl vu vs : Value} {n : Nat} {Q : Int × Int × Nat → Shared → Prop} (hn : 0 < n) (hs : s.heap.IsSliceOf sl vl vu vs) (pl : IsPart vl none) (pu : IsPart vu (some 0)) (ps : IsPart vs (some (-1)))
    (h : Q ((n : Int) - 1, -1, n - 1) s) : wpAny (model prog w) A (Builtin.Slice.sliceApplied (.ref sl) (pure (n : Int))) Q E s := by
  obtain ⟨os, hos, hcs, hds⟩ := id hs
  unfold Builtin.Slice.sliceApplied Builtin.Slice.sliceFields
  refine wpAny_bind (wpAny_bind (wpAny_field hos hds (x := vl) rfl (wpAny_bind (wpAny_field hos hds (x := vu) rfl (wpAny_bind (wpAny_field hos hds (x := vs) rfl (wpAny_pure ?_)))))))
  refine wpAny_bind (slicePart_ ps ?_); show wpAny _ _ (if ((-1 : Int) == 0) = true then _ else _) _ _ s; rw [if_neg (by decide)]
  refine wpAny_bind (slicePart_ pl (wpAny_bind (slicePart_ pu (wpAny_bind (wpAny_pure ?_)))))
  show wpAny _ _ (match Builtin.Slice.sliceAdjust none (some 0) (-1) (n : Int) with | (lo, hi) => pure (lo, (-1 : Int), Builtin.Slice.slicePlaces lo hi (-1))) _ _ s
  rw [adjust_back n hn]
  show wpAny _ _ (pure ((n : Int) - 1, (-1 : Int), Builtin.Slice.slicePlaces ((n : Int) - 1) 0 (-1))) _ _ s
  rw [places_back n hn]
  exact wpAny_pure h
theorem getItem_tuple_back {t sl : Addr} {items : Array Value} {vl vu vs : Value} {Q : Value → Shared → Prop} (ht : IsTup s.heap t items) (hs : s.heap.IsSliceOf sl vl vu vs) (pl : IsPart vl none) (pu : IsPart vu (some 0)) (ps : IsPart vs (some (-1)))
    (hn : 0 < items.size) (h : Q (.ref s.heap.objs.size) { s with heap := s.heap.push { cls := .type "tuple", data := .seq items.toList.tail.reverse.toArray } })
    (hsz : items.size ≤ sizeLine) : wpAny (model prog w) A (getItem (.ref t) (.ref sl)) Q E s := by
  have fit : sizeOk (.seq items.toList.tail.reverse.toArray) := by
    show items.toList.tail.reverse.toArray.size ≤ sizeLine
    rw [List.size_toArray, List.length_reverse, List.length_tail, Array.length_toList]; omega
  obtain ⟨os, hos, hcs, hds⟩ := id hs
  have hTs : s.TypeIs (.ref sl) "slice" := ⟨os, hos, hcs⟩
  unfold getItem
  try with_reducible refine wpAny_holding ?_
  first | refine wpAny_bind (wpAny_pure ?_) | skip
  refine wpAny_bind (wpAny_sequenceKey ht.typeIs (by decide) ?_)
  refine wpAny_bind (wpAny_callSpecial?_slot (name := Str.ofString "__getitem__") ht.typeIs slot_tuple_getitem (wpAny_call_entry slot_tuple_getitem ht.typeIs entry_tuple_getitem ?_ (args_tuple_getitem _ _)))
  show wpAny _ _ (Builtin.Tuple.tupleItemsOf (.ref t) >>= _) _ _ s; refine wpAny_bind (tupleItemsOf_ ht ?_)
  refine wpAny_bind (wpAny_typeOf hTs ?_); rw [if_pos (by decide)]
  refine wpAny_bind (sliceApplied_back hn hs pl pu ps ?_)
  show wpAny _ _ (if (((items.size : Int) - 1) == 0 && (-1 : Int) == 1 && (items.size - 1) == items.size) = true then _ else _) _ _ s
  rw [if_neg (by simp), pick_back]
  first
    | exact wpAny_bind (m := Builtin.Tuple.tupleExact _) (wpAny_newObj_type (wpAny_pure ⟨_, rfl, wpAny_pure h⟩) fit)
    | exact wpAny_bind (m := Builtin.Tuple.tupleExact _) (wpAny_newObj_type (wpAny_bind (wpAny_pure (wpAny_pure ⟨_, rfl, wpAny_pure h⟩))) fit)
    | exact wpAny_bind (wpAny_bind (m := Builtin.Tuple.tupleExact _) (wpAny_newObj_type (wpAny_pure (wpAny_pure ⟨_, rfl, wpAny_pure h⟩)) fit))
    | exact wpAny_bind (wpAny_bind (m := Builtin.Tuple.tupleExact _) (wpAny_newObj_type (wpAny_pure ⟨_, rfl, wpAny_pure h⟩) fit))
end
def tSlBack (K : PySem.W.Frag) (te : TE) : TE := fun σ H Q => te σ H fun x H1 => ∃ a y xs, x = .ref a ∧ SqT K H1 a (y :: xs) ∧ ∀ p, H1 p = none → Q (.ref p) (upd H1 p (.tup xs.reverse))
theorem pe_slBack {X : Cx} {e : Expr} {te : TE} {k0 k1 : Nat} {p0 p1 p2 p3 pos : Pos} (he : PE X e te) :
    PE X (.Subscript e (.Slice none (some (.Constant (.int 0) k0 p0)) (some (.UnaryOp .USub (.Constant (.int 1) k1 p1) p2)) p3) pos) (tSlBack X.K te) := by
  refine ⟨fun pins s σ H Q I h => ?_⟩
  refine Subscript_ (thn (he.run pins s σ H _ I h) fun v s1 ⟨x, H1, I1, r1, q1⟩ => ?_)
  obtain ⟨a, y, xs, ex, hx, q⟩ := q1
  subst ex
  cases r1
  have hhi : PO X (some (.Constant (.int 0) k0 p0)) (tPart (tC (.int 0))) := po_some pe_int
  have hst : PO X (some (.UnaryOp .USub (.Constant (.int 1) k1 p1) p2)) (tPart (tUn (rU fun i => .int (-i)) (tC (.int 1)))) := po_some (pe_un un_neg pe_int)
  refine wpAny_Slice (thn (po_none.run pins s1 σ H1 (fun o H2 => o = none ∧ H2 = H1) I1 ⟨rfl, rfl⟩) fun vl s2 ⟨l, H2, I2, pl, el, e2⟩ => ?_)
  subst el e2
  refine thn (hhi.run pins s2 σ H2 (fun o H3 => o = some 0 ∧ H3 = H2) I2 ⟨0, rfl, rfl, rfl⟩) fun vu s3 ⟨u, H3, I3, pu, eu, e3⟩ => ?_
  subst eu e3
  refine thn (hst.run pins s3 σ H3 (fun o H4 => o = some (-1) ∧ H4 = H3) I3 ⟨1, rfl, -1, rfl, rfl, rfl⟩) fun vs s4 ⟨o, H4, I4, ps, eo, e4⟩ => ?_
  subst eo e4
  have I5 : Inv X pins σ H4 { s4 with heap := s4.heap.push { cls := .type "slice", data := .fields #[vl, vu, vs] } } := I4.kept (t' := s4.toks) fun b ob q => Heap.get?_push_of_some _ q
  obtain ⟨its, r, ht, hz⟩ := I5.tuple hx
  have hlen := r.length
  rw [List.length_cons] at hlen hz
  show wpAny (model X.prog X.w) X.A (subscriptTail e (.Slice none (some (.Constant (.int 0) k0 p0)) (some (.UnaryOp .USub (.Constant (.int 1) k1 p1) p2)) p3) (.ref a) (.ref s4.heap.objs.size)) (EP X pins σ Q) X.xe { s4 with heap := s4.heap.push { cls := .type "slice", data := .fields #[vl, vu, vs] } }
  refine tail_any (ops := [.ref a, .ref s4.heap.objs.size]) ht.typeIs slot_tuple_getitem.lookup ?_ (by with_unfolding_all rfl)
  refine getItem_tuple_back ht (Heap.IsSliceOf.new _ vl vu vs) pl pu ps (by rw [List.size_toArray]; omega) ?_ (by rw [List.size_toArray]; omega)
  have rt : Vals xs its.tail := by
    cases r with
    | cons _ t => exact t
  refine ⟨.ref _, _, I5.laid (t' := s4.toks) (o := .tup xs.reverse) (fun b ob q => Heap.get?_push_of_some _ q) (Nat.le_refl _) ?_, rfl, q _ (I5.hok.fresh (Nat.le_refl _))⟩
  exact ⟨by rw [List.length_reverse]; omega, _, rt.reverse, IsTup.new _ _⟩
end Own
namespace Own
open PySem PySem.Spec PyProof.Rows L2 RT HT
def But (d : Addr) (H H' : Hp) : Prop := ∀ b o, b ≠ d → H b = some o → H' b = some o
theorem But.refl (d : Addr) (H : Hp) : But d H H := fun _ _ _ e => e
theorem But.trans {d : Addr} {H H1 H2 : Hp} (a : But d H H1) (b : But d H1 H2) : But d H H2 := fun c o n e => b c o n (a c o n e)
theorem But.upd {d : Addr} {H : Hp} {o : HO} : But d H (upd H d o) := fun b u n e => by rw [upd_ne n]; exact e
theorem same_new {H : Hp} {p : Addr} (h : H p = none) (o : HO) : Same H (upd H p o) := fun b u e => by rw [upd_ne (ne_of_none e h)]; exact e
theorem _root_.L2.Same.but {d : Addr} {H H' : Hp} (a : Same H H') : But d H H' := fun b o _ e => a b o e
theorem But.same {d : Addr} {H H1 H2 : Hp} (n : H d = none) (a : Same H H1) (b : But d H1 H2) : Same H H2 := fun c o e => b c o (ne_of_none e n) (a c o e)
theorem But.free {d : Addr} {H H' : Hp} (a : But d H H') {p : Addr} (n : p ≠ d) (h : H' p = none) : H p = none := by
  cases e : H p with
  | none => rfl
  | some o => rw [a p o n e] at h; cases h
def Tups (H H' : Hp) : Prop := ∀ b xs, H b = some (.tup xs) → H' b = some (.tup xs)
theorem Tups.trans {H H1 H2 : Hp} (a : Tups H H1) (b : Tups H1 H2) : Tups H H2 := fun c xs e => b c xs (a c xs e)
theorem Tups.refl (H : Hp) : Tups H H := fun _ _ e => e
theorem _root_.L2.Same.tups {H H' : Hp} (a : Same H H') : Tups H H' := fun b xs e => a b _ e
theorem But.tups {d : Addr} {H H' : Hp} {ys : List V} (a : But d H H') (h : H d = some (.lst ys)) : Tups H H' := fun b xs e => a b _ (ne_of e h (by intro z; cases z)) e
theorem tups_updD {H : Hp} {d : Addr} {ys : List (Key × V)} {o : HO} (h : H d = some (.dK ys)) : Tups H (upd H d o) := fun b xs e => by rw [upd_ne (ne_of e h (by intro z; cases z))]; exact e

inductive Ter where
  | var (k : Key)
  | ap (f : Str) (as : List Ter)
mutual
def Ter.size : Ter → Nat
  | .var _ => 1
  | .ap _ as => Ter.sizes as + 1
def Ter.sizes : List Ter → Nat
  | [] => 0
  | a :: r => a.size + Ter.sizes r
end
mutual
def Ter.nest : Ter → Nat
  | .var _ => 1
  | .ap _ as => Ter.nests as + 1
def Ter.nests : List Ter → Nat
  | [] => 0
  | a :: r => max a.nest (Ter.nests r)
end
def Ter.isVar : Ter → Bool
  | .var _ => true
  | .ap _ _ => false
theorem Ter.size_pos : ∀ t : Ter, 1 ≤ t.size
  | .var _ => Nat.le_refl _
  | .ap _ _ => Nat.le_add_left _ _
theorem Ter.sizes_len : ∀ ts : List Ter, ts.length ≤ Ter.sizes ts
  | [] => Nat.zero_le _
  | a :: r => by
    have h1 := a.size_pos
    have h2 := Ter.sizes_len r
    show r.length + 1 ≤ a.size + Ter.sizes r
    omega
theorem Ter.sizes_app : ∀ (as bs : List Ter), Ter.sizes (as ++ bs) = Ter.sizes as + Ter.sizes bs
  | [], bs => by show Ter.sizes bs = 0 + Ter.sizes bs; omega
  | a :: r, bs => by
    show a.size + Ter.sizes (r ++ bs) = a.size + Ter.sizes r + Ter.sizes bs
    rw [Ter.sizes_app r bs]
    omega
mutual
inductive TmAt (H : Hp) : V → Ter → Prop
  | int (i : Int) : TmAt H (.int i) (.var (.inl i))
  | str (x : Str) : TmAt H (.str x) (.var (.inr x))
  | ap {p : Addr} {f : Str} {xs : List V} {as : List Ter} : H p = some (.tup (.str f :: xs)) → TmAll H xs as → TmAt H (.ref p) (.ap f as)
inductive TmAll (H : Hp) : List V → List Ter → Prop
  | nil : TmAll H [] []
  | cons {v : V} {vs : List V} {t : Ter} {ts : List Ter} : TmAt H v t → TmAll H vs ts → TmAll H (v :: vs) (t :: ts)
end
mutual
theorem TmAt.mono {H H' : Hp} (m : Tups H H') : ∀ (t : Ter) (v : V), TmAt H v t → TmAt H' v t
  | .var _, _, h => by
    cases h with
    | int i => exact .int i
    | str x => exact .str x
  | .ap f as, _, h => by
    cases h with
    | ap e hs => exact .ap (m _ _ e) (TmAll.mono m as _ hs)
theorem TmAll.mono {H H' : Hp} (m : Tups H H') : ∀ (ts : List Ter) (vs : List V), TmAll H vs ts → TmAll H' vs ts
  | [], _, h => by cases h; exact .nil
  | t :: ts, _, h => by
    cases h with
    | cons h1 h2 => exact .cons (TmAt.mono m t _ h1) (TmAll.mono m ts _ h2)
end
theorem TmAll.len {H : Hp} : ∀ {vs : List V} {ts : List Ter}, TmAll H vs ts → vs.length = ts.length
  | _, _, .nil => rfl
  | _, _, .cons _ t => congrArg (· + 1) t.len
theorem TmAll.app {H : Hp} : ∀ {vs ws : List V} {ts us : List Ter}, TmAll H vs ts → TmAll H ws us → TmAll H (vs ++ ws) (ts ++ us)
  | _, _, _, _, .nil, h => h
  | _, _, _, _, .cons a r, h => .cons a (r.app h)
theorem TmAll.rev {H : Hp} : ∀ {vs : List V} {ts : List Ter}, TmAll H vs ts → TmAll H vs.reverse ts.reverse
  | _, _, .nil => .nil
  | _, _, .cons a r => by
    rw [List.reverse_cons, List.reverse_cons]
    exact r.rev.app (.cons a .nil)
theorem TmAll.get {H : Hp} : ∀ {vs : List V} {ts : List Ter} {i : Nat} {v : V}, TmAll H vs ts → vs[i]? = some v → ∃ t, ts[i]? = some t ∧ TmAt H v t
  | _, _, _, _, .nil, e => by simp at e
  | _, _, 0, _, .cons a r, e => by
    simp at e
    subst e
    exact ⟨_, rfl, a⟩
  | _, _, i + 1, v, .cons a r, e => by
    obtain ⟨t, h1, h2⟩ := TmAll.get (i := i) (v := v) r (by simpa using e)
    exact ⟨t, by simpa using h1, h2⟩
theorem TmAll.last {H : Hp} {vs : List V} {ts : List Ter} (h : TmAll H vs ts) (hv : vs ≠ []) : ∃ vs' v ts' t, vs = vs' ++ [v] ∧ ts = ts' ++ [t] ∧ TmAll H vs' ts' ∧ TmAt H v t := by
  have r := h.rev
  cases e1 : vs.reverse with
  | nil => exact absurd (List.reverse_eq_nil_iff.mp e1) hv
  | cons v vr =>
    cases e2 : ts.reverse with
    | nil => rw [e1, e2] at r; cases r
    | cons t tr =>
      rw [e1, e2] at r
      cases r with
      | cons a q =>
        refine ⟨vr.reverse, v, tr.reverse, t, ?_, ?_, q.rev, a⟩
        · rw [← List.reverse_reverse (as := vs), e1, List.reverse_cons]
        · rw [← List.reverse_reverse (as := ts), e2, List.reverse_cons]

def rIsiTer : List V → Hp → VK → Prop := fun xs H Q => ∃ (v : V) (t : Ter), xs = [v, .ty "tuple"] ∧ TmAt H v t ∧ Q (.bl (!t.isVar)) H
theorem call_isiTer {X : Cx} : CallR X (.builtin "isinstance") rIsiTer := by
  intro pins s σ H xs us Q I r h
  obtain ⟨v, t, rfl, h, q⟩ := h
  refine call_isi pins s σ H _ us Q I r ?_
  cases h with
  | int i => exact ⟨_, _, _, _, false, rfl, .ty _, .base (.int i), kit_ty (by decide +kernel), q⟩
  | str x => exact ⟨_, _, _, _, false, rfl, .ty _, .base (.str x), kit_ty (by decide +kernel), q⟩
  | ap e _ => exact ⟨_, _, _, _, true, rfl, .ty _, .base (.tup e), kit_ty (by decide +kernel), q⟩
theorem cut_1 (y : V) (ys : List V) : cutV (y :: ys) (some 1) none = ys := by
  unfold cutV
  rw [show HT.sIx (y :: ys).length 0 (some 1) = min 1 (y :: ys).length from HT.sIx_nat (y :: ys).length 0 1, HT.sIx_none, List.length_cons, show min 1 (ys.length + 1) = 1 by omega]
  show List.take (ys.length + 1 - 1) ys = ys
  rw [Nat.add_sub_cancel]
  exact List.take_length
def rSl1 (K : PySem.W.Frag) : V → Option Int → Option Int → Hp → VK → Prop := fun x lo hi H Q => ∃ a y ys, x = .ref a ∧ lo = some 1 ∧ hi = none ∧ SqT K H a (y :: ys) ∧ ∀ p, H p = none → Q (.ref p) (upd H p (.tup ys))
theorem sl_1 {X : Cx} : SlR X (rSl1 X.K) := by
  intro pins s σ H x v vl vu lo hi sl Q I rx hs pl pu h
  obtain ⟨a, y, ys, rfl, rfl, rfl, e, q⟩ := h
  refine sl_tup pins s σ H _ v vl vu _ _ sl Q I rx hs pl pu ⟨a, _, rfl, e, fun ⟨z, _⟩ => ?_, fun p hp => ?_⟩
  · rw [show HT.sIx (y :: ys).length 0 (some 1) = min 1 (y :: ys).length from HT.sIx_nat (y :: ys).length 0 1, List.length_cons] at z
    omega
  · rw [cut_1]
    exact q p hp
def rPopL : V → List V → Hp → VK → Prop := fun x xs H Q => ∃ (l : Addr) (vs : List V) (v : V), x = .ref l ∧ xs = [] ∧ H l = some (.lst (vs ++ [v])) ∧ Q v (upd H l (.lst vs))
theorem mt_popL {X : Cx} : MtR X "list.pop" rPopL := by
  intro pins s σ H x xs v us Q I rx rxs h
  obtain ⟨l, vs, y, rfl, rfl, e, q⟩ := h
  refine mt_pop pins s σ H _ _ v us Q I rx rxs ⟨l, _, y, rfl, rfl, e, ?_, ?_⟩
  · rw [List.length_append, List.length_singleton, Nat.add_sub_cancel]
    exact List.getElem?_concat_length
  · rw [List.dropLast_concat]
    exact q
theorem tyl {K : PySem.W.Frag} {H : Hp} {l : Addr} {vs : List V} (h : H l = some (.lst vs)) : tyV K "list" (.ref l) H := .inl ⟨rfl, _, .inl (.inl h)⟩
theorem tru_l {K : PySem.W.Frag} {H : Hp} {l : Addr} {vs : List V} (h : H l = some (.lst vs)) : TruV K (.ref l) H (!vs.isEmpty) := .inl ⟨vs, .inl (.inl h), rfl⟩
theorem small6 {n : Nat} (h : n ≤ 1000000) : n ≤ sizeLine := Nat.le_trans h (by decide)
theorem small6' {n : Nat} (h : n ≤ 1000000) : n < sizeLine := Nat.lt_of_le_of_lt h (by decide)
end Own
namespace Own
open PySem PySem.Spec PyProof.Rows L2 RT HT
theorem walk_l {K : PySem.W.Frag} {a : Addr} {xs : List V} {H0 : Hp} {Qd : Hp → Prop} {body : (Hp → Prop) → V → Hp → Prop} (Pv : Nat → Hp → Prop) (h0 : Pv 0 H0) (hl : ∀ i H, i ≤ xs.length → Pv i H → SqL K H a xs)
    (hs : ∀ i x H, xs[i]? = some x → Pv i H → body (Pv (i + 1)) x H) (hd : ∀ H, Pv xs.length H → Qd H) :
    ∃ W : Nat → Nat → Hp → Prop, (∃ m, W 0 m H0) ∧ ∀ i m H, W i m H → ((Itl K a).stop i H ∧ Qd H) ∨ ((Itl K a).go i H ∧ ∃ Nx : Hp → Prop, (∀ H', Nx H' → ∃ m', m' < m ∧ W (i + 1) m' H') ∧ ∀ x H', (Itl K a).yld i H x H' → body Nx x H') := by
  refine ⟨fun i m H => m = xs.length - i ∧ i ≤ xs.length ∧ Pv i H, ⟨xs.length, by simp, Nat.zero_le _, h0⟩, ?_⟩
  rintro i m H ⟨rfl, hi, p⟩
  have q := hl i H hi p
  by_cases hlt : i < xs.length
  · refine .inr ⟨⟨xs, xs[i], q, by simp [hlt]⟩, Pv (i + 1), fun H' p' => ⟨xs.length - (i + 1), by omega, rfl, hlt, p'⟩, fun x H' y => ?_⟩
    obtain ⟨e, y⟩ := y
    subst e
    exact hs i x _ (y xs q) p
  · have e : i = xs.length := by omega
    subst e
    exact .inl ⟨⟨xs, q, Nat.le_refl _⟩, hd H p⟩
theorem walk_t {K : PySem.W.Frag} {a : Addr} {xs : List V} {H0 : Hp} {Qd : Hp → Prop} {body : (Hp → Prop) → V → Hp → Prop} (Pv : Nat → Hp → Prop) (h0 : Pv 0 H0) (hl : ∀ i H, i ≤ xs.length → Pv i H → SqT K H a xs)
    (hs : ∀ i x H, xs[i]? = some x → Pv i H → body (Pv (i + 1)) x H) (hd : ∀ H, Pv xs.length H → Qd H) :
    ∃ W : Nat → Nat → Hp → Prop, (∃ m, W 0 m H0) ∧ ∀ i m H, W i m H → ((Itt K a).stop i H ∧ Qd H) ∨ ((Itt K a).go i H ∧ ∃ Nx : Hp → Prop, (∀ H', Nx H' → ∃ m', m' < m ∧ W (i + 1) m' H') ∧ ∀ x H', (Itt K a).yld i H x H' → body Nx x H') := by
  refine ⟨fun i m H => m = xs.length - i ∧ i ≤ xs.length ∧ Pv i H, ⟨xs.length, by simp, Nat.zero_le _, h0⟩, ?_⟩
  rintro i m H ⟨rfl, hi, p⟩
  have q := hl i H hi p
  by_cases hlt : i < xs.length
  · refine .inr ⟨⟨xs, xs[i], q, by simp [hlt]⟩, Pv (i + 1), fun H' p' => ⟨xs.length - (i + 1), by omega, rfl, hlt, p'⟩, fun x H' y => ?_⟩
    obtain ⟨e, y⟩ := y
    subst e
    exact hs i x _ (y xs q) p
  · have e : i = xs.length := by omega
    subst e
    exact .inl ⟨⟨xs, q, Nat.le_refl _⟩, hd H p⟩

def Ter.args : Ter → List Ter
  | .var _ => []
  | .ap _ as => as
theorem Ter.nest_pos : ∀ t : Ter, 1 ≤ t.nest
  | .var _ => Nat.le_refl _
  | .ap _ _ => Nat.le_add_left _ _
def hasK (acc : List Key) (k : Key) : Bool := acc.any fun x => decide (x = k)
theorem hasK_iff {acc : List Key} {k : Key} : hasK acc k = true ↔ k ∈ acc := by
  unfold hasK
  rw [List.any_eq_true]
  constructor
  · rintro ⟨x, hx, h⟩
    have h : x = k := of_decide_eq_true h
    exact h ▸ hx
  · intro h
    exact ⟨k, h, decide_eq_true rfl⟩
def addK (acc : List Key) (k : Key) : List Key := if hasK acc k = true then acc else acc ++ [k]
mutual
def Ter.into (acc : List Key) : Ter → List Key
  | .var k => addK acc k
  | .ap _ as => Ter.intos acc as
def Ter.intos (acc : List Key) : List Ter → List Key
  | [] => acc
  | a :: r => Ter.intos (Ter.into acc a) r
end
theorem intos_app : ∀ (as bs : List Ter) (acc : List Key), Ter.intos acc (as ++ bs) = Ter.intos (Ter.intos acc as) bs
  | [], _, _ => rfl
  | a :: r, bs, acc => intos_app r bs (Ter.into acc a)
def yes (k : Key) : Key × V := (k, .bl true)
theorem put_yes (acc : List Key) (k : Key) : putK (acc.map yes) k (.bl true) = (addK acc k).map yes := by
  unfold putK addK
  have e : ((acc.map yes).any fun kv => decide (kv.1 = k)) = hasK acc k := by
    rw [List.any_map]
    rfl
  rw [e]
  by_cases hk : hasK acc k = true
  · rw [if_pos hk, if_pos hk, List.map_map]
    apply List.map_congr_left
    intro x _
    show (if x = k then (x, V.bl true) else (x, V.bl true)) = (x, V.bl true)
    split <;> rfl
  · rw [if_neg hk, if_neg hk, List.map_append]
    rfl
theorem addK_len (acc : List Key) (k : Key) : (addK acc k).length ≤ acc.length + 1 := by
  unfold addK
  split
  · omega
  · rw [List.length_append, List.length_singleton]; omega
theorem yes_keys (acc : List Key) : (acc.map yes).map (fun kv => kV kv.1) = acc.map kV := by
  rw [List.map_map]
  rfl
end Own
namespace Own
open PySem PySem.Spec PyProof.Rows L2 RT HT
def Ints (H : Hp) (d : Addr) : Prop := ∃ ms : List Int, ms.length ≤ 100000 ∧ H d = some (.lst (ms.map V.int))
theorem Ints.lst {H : Hp} {d : Addr} (h : Ints H d) : ∃ vs, H d = some (.lst vs) := by
  obtain ⟨ms, _, e⟩ := h
  exact ⟨_, e⟩
theorem But.tupsI {d : Addr} {H H' : Hp} (a : But d H H') (h : Ints H d) : Tups H H' := by
  obtain ⟨ms, _, e⟩ := h
  exact a.tups e
theorem Ints.ne {H : Hp} {d p : Addr} (h : Ints H d) (n : H p = none) : p ≠ d := by
  obtain ⟨ms, _, e⟩ := h
  exact (ne_of_none e n).symm
theorem Ints.of_but {H H' : Hp} {d p : Addr} (h : Ints H d) (b : But p H H') (n : d ≠ p) : Ints H' d := by
  obtain ⟨ms, l, e⟩ := h
  exact ⟨ms, l, b d _ n e⟩
theorem Ints.same {H H' : Hp} {d : Addr} (h : Ints H d) (b : Same H H') : Ints H' d := by
  obtain ⟨ms, l, e⟩ := h
  exact ⟨ms, l, b d _ e⟩

def chOk (c : Nat) : Bool := (decide (97 ≤ c) && decide (c ≤ 122)) || (decide (65 ≤ c) && decide (c ≤ 90)) || (decide (48 ≤ c) && decide (c ≤ 57)) || decide (c = 95)
def isLow (c : Nat) : Bool := decide (97 ≤ c) && decide (c ≤ 122)
structure WordOk (x : Str) : Prop where
  head : ∃ c r, x.cps.toList = c :: r ∧ isLow c = true
  all : x.cps.toList.all chOk = true
  len : x.length ≤ 40
theorem app_cps (x y : Str) : (x ++ y).cps.toList = x.cps.toList ++ y.cps.toList := by
  show (x.cps ++ y.cps).toList = _
  rw [Array.toList_append]
theorem app_len (x y : Str) : (x ++ y).length = x.length + y.length := by
  show (x.cps ++ y.cps).size = x.cps.size + y.cps.size
  rw [Array.size_append]
structure WordIn (x : Str) (n : Nat) : Prop where
  head : ∃ c r, x.cps.toList = c :: r ∧ isLow c = true
  all : x.cps.toList.all chOk = true
  len : x.length ≤ n
theorem WordIn.ok {x : Str} {n : Nat} (h : WordIn x n) (l : n ≤ 40) : WordOk x := ⟨h.head, h.all, Nat.le_trans h.len l⟩
end Own
namespace Own
open PySem PySem.Spec PyProof.Rows L2 RT HT
mutual
def Ter.wf (W : Str → Nat → Prop) (U : Key → Prop) : Ter → Prop
  | .var k => U k
  | .ap f as => W f as.length ∧ Ter.wfs W U as
def Ter.wfs (W : Str → Nat → Prop) (U : Key → Prop) : List Ter → Prop
  | [] => True
  | a :: r => a.wf W U ∧ Ter.wfs W U r
end
theorem wfs_get {W : Str → Nat → Prop} {U : Key → Prop} : ∀ {as : List Ter} {i : Nat} {t : Ter}, Ter.wfs W U as → as[i]? = some t → t.wf W U
  | [], _, _, _, e => by simp at e
  | a :: r, 0, t, h, e => by
    simp at e
    exact e ▸ h.1
  | a :: r, i + 1, t, h, e => wfs_get (as := r) (i := i) h.2 (by simpa using e)
def numVar (k : Key) : Prop := ∃ r : Int, k = .inl r ∧ 0 ≤ r ∧ r < 900
mutual
theorem nest_size : ∀ t : Ter, t.nest ≤ t.size
  | .var _ => Nat.le_refl _
  | .ap _ as => Nat.succ_le_succ (nests_sizes as)
theorem nests_sizes : ∀ ts : List Ter, Ter.nests ts ≤ Ter.sizes ts
  | [] => Nat.le_refl _
  | a :: r => by
    have h1 := nest_size a
    have h2 := nests_sizes r
    show max a.nest (Ter.nests r) ≤ a.size + Ter.sizes r
    omega
end
theorem nest_le_of : ∀ {ts : List Ter} {i : Nat} {t : Ter}, ts[i]? = some t → t.nest ≤ Ter.nests ts
  | [], _, _, e => by simp at e
  | a :: r, 0, t, e => by
    simp at e
    subst e
    exact Nat.le_max_left _ _
  | a :: r, i + 1, t, e => Nat.le_trans (nest_le_of (ts := r) (i := i) (by simpa using e)) (Nat.le_max_right _ _)
theorem size_le_of : ∀ {ts : List Ter} {i : Nat} {t : Ter}, ts[i]? = some t → t.size ≤ Ter.sizes ts
  | [], _, _, e => by simp at e
  | a :: r, 0, t, e => by
    simp at e
    subst e
    exact Nat.le_add_right _ _
  | a :: r, i + 1, t, e => Nat.le_trans (size_le_of (ts := r) (i := i) (by simpa using e)) (Nat.le_add_left _ _)

def kindOf : PyData → String
  | .none => "NoneType"
  | .bool _ => "bool"
  | .int _ => "int"
  | .str _ => "str"
  | .list _ => "list"
  | .tuple _ => "tuple"
  | .dict _ => "dict"
theorem tyx_dp {K : PySem.W.Frag} {H : Hp} {v : V} {x : PyData} (h : Dp K H v x) : TyX K H v (.type (kindOf x)) := by
  cases h with
  | non => exact .base .non
  | bl b => exact .base (.bl b)
  | int i => exact .base (.int i)
  | str y => exact .base (.str y)
  | lst h _ =>
    rcases h with (h | ⟨o, h⟩) | ⟨o, its, n, h, c, _⟩
    · exact .base (.lst h)
    · exact .base (.frz h)
    · exact .kList h c
  | tup h _ =>
    rcases h with (h | ⟨o, h⟩) | ⟨o, its, n, h, c, _⟩
    · exact .base (.tup h)
    · exact .fTuple h
    · exact .kTuple h c
def rIsiDat (K : PySem.W.Frag) : List V → Hp → VK → Prop := fun xs H Q => ∃ (v : V) (x : PyData) (c : String) (b : Bool), xs = [v, .ty c] ∧ Dp K H v x ∧ kitB (kindOf x) c = some b ∧ Q (.bl b) H
theorem call_isiDat {X : Cx} : CallR X (.builtin "isinstance") (rIsiDat X.K) := by
  intro pins s σ H xs us Q I r h
  obtain ⟨v, x, c, b, rfl, h, e, q⟩ := h
  exact call_isi pins s σ H _ us Q I r ⟨v, .ty c, _, _, b, rfl, .ty c, tyx_dp h, kit_ty e, q⟩
theorem Dp.len {K : PySem.W.Frag} {H : Hp} : ∀ {vs : List V} {xs : List PyData}, DpAll K H vs xs → vs.length = xs.length
  | _, _, .nil => rfl
  | _, _, .cons _ t => congrArg (· + 1) (Dp.len t)
theorem Dp.get {K : PySem.W.Frag} {H : Hp} : ∀ {vs : List V} {xs : List PyData} {i : Nat} {v : V}, DpAll K H vs xs → vs[i]? = some v → ∃ x, xs[i]? = some x ∧ Dp K H v x
  | _, _, _, _, .nil, e => by simp at e
  | _, _, 0, _, .cons a r, e => by
    simp at e
    subst e
    exact ⟨_, rfl, a⟩
  | _, _, i + 1, v, .cons a r, e => by
    obtain ⟨t, h1, h2⟩ := Dp.get (i := i) (v := v) r (by simpa using e)
    exact ⟨t, by simpa using h1, h2⟩
mutual
theorem Dp.same {K : PySem.W.Frag} {H H' : Hp} (m : Same H H') : ∀ (x : PyData) (v : V), Dp K H v x → Dp K H' v x
  | .none, _, h => by cases h; exact .non
  | .bool b, _, h => by cases h; exact .bl b
  | .int i, _, h => by cases h; exact .int i
  | .str x, _, h => by cases h; exact .str x
  | .list ds, _, h => by
    cases h with
    | lst e hs => exact .lst (m.seq e) (Dp.sameA m ds _ hs)
  | .tuple ds, _, h => by
    cases h with
    | tup e hs =>
      refine .tup ?_ (Dp.sameA m ds _ hs)
      rcases e with (e | ⟨o, e⟩) | e
      · exact .inl (.inl (m _ _ e))
      · exact .inl (.inr ⟨o, m _ _ e⟩)
      · exact .inr e
  | .dict _, _, h => by cases h
theorem Dp.sameA {K : PySem.W.Frag} {H H' : Hp} (m : Same H H') : ∀ (xs : List PyData) (vs : List V), DpAll K H vs xs → DpAll K H' vs xs
  | [], _, h => by cases h; exact .nil
  | x :: xs, _, h => by
    cases h with
    | cons a r => exact .cons (Dp.same m x _ a) (Dp.sameA m xs _ r)
end
def isStrD : PyData → Bool
  | .str _ => true
  | _ => false
theorem k_str (x : PyData) : kitB (kindOf x) "str" = some (isStrD x) := by
  cases x <;> (unfold kindOf isStrD; dsimp only; decide +kernel)
end Own
namespace Own
open PySem PySem.Spec PyProof.Rows L2 RT HT
theorem addK_all {R : Key → Prop} {acc : List Key} {k : Key} (h : ∀ x ∈ acc, R x) (hk : R k) : ∀ x ∈ addK acc k, R x := by
  unfold addK
  split
  · exact h
  · intro x hx
    rcases List.mem_append.mp hx with hx | hx
    · exact h x hx
    · rw [List.mem_singleton.mp hx]; exact hk
mutual
theorem into_all {W : Str → Nat → Prop} {U R : Key → Prop} (ur : ∀ k, U k → R k) : ∀ (t : Ter) (acc : List Key), t.wf W U → (∀ x ∈ acc, R x) → ∀ x ∈ Ter.into acc t, R x
  | .var k, acc, h, a => addK_all a (ur k h)
  | .ap f as, acc, h, a => intos_all ur as acc h.2 a
theorem intos_all {W : Str → Nat → Prop} {U R : Key → Prop} (ur : ∀ k, U k → R k) : ∀ (ts : List Ter) (acc : List Key), Ter.wfs W U ts → (∀ x ∈ acc, R x) → ∀ x ∈ Ter.intos acc ts, R x
  | [], _, _, a => a
  | t :: r, acc, h, a => intos_all ur r _ h.2 (into_all ur t acc h.1 a)
end
def kD : Key → PyData
  | .inl i => .int i
  | .inr x => .str x
def keyFine : Key → Prop
  | .inl _ => True
  | .inr x => PyData.strOk x = true
end Own
namespace Own
open PySem PySem.Spec PyProof.Rows L2 RT HT
theorem flat_keys (ks : List Key) : (ks.map kV).all flatV = true := by
  rw [List.all_map, List.all_eq_true]
  intro k _
  cases k <;> rfl
theorem eqV_key (a b : Key) : eqV (kV a) (kV b) = decide (a = b) := by
  cases a with
  | inl i =>
    cases b with
    | inl j =>
      rw [key_ll]
      rfl
    | inr y => rw [key_lr]; rfl
  | inr x =>
    cases b with
    | inl j => rw [key_rl]; rfl
    | inr y =>
      rw [key_rr]
      show (x == y) = decide (x = y)
      rfl
theorem inV_key (k : Key) (ks : List Key) : inV (kV k) (ks.map kV) = hasK ks k := by
  unfold inV hasK
  rw [List.any_map]
  congr 1
  funext x
  exact eqV_key x k
mutual
theorem into_len : ∀ (t : Ter) (acc : List Key), (Ter.into acc t).length ≤ acc.length + t.size
  | .var k, acc => addK_len acc k
  | .ap _ as, acc => Nat.le_trans (intos_len as acc) (by show _ ≤ acc.length + (Ter.sizes as + 1); omega)
theorem intos_len : ∀ (ts : List Ter) (acc : List Key), (Ter.intos acc ts).length ≤ acc.length + Ter.sizes ts
  | [], acc => by show acc.length ≤ acc.length + 0; omega
  | t :: r, acc => by
    have h1 := into_len t acc
    have h2 := intos_len r (Ter.into acc t)
    show (Ter.intos (Ter.into acc t) r).length ≤ acc.length + (t.size + Ter.sizes r)
    omega
end
theorem head_at {f : V} {xs : List V} : atI (f :: xs) 0 = some f := atI_nat (j := 0) rfl
end Own
namespace Own
open PySem PySem.Spec PyProof.Rows L2 RT HT
theorem strE {a b : Str} (h : a.cps.toList = b.cps.toList) : a = b := by
  cases a with
  | mk x =>
    cases b with
    | mk y => exact congrArg Str.mk (Array.toList_inj.mp h)
theorem sApp (a b c : Str) : (a ++ b) ++ c = a ++ (b ++ c) := strE (by simp only [app_cps, List.append_assoc])
theorem sEmp (a : Str) : Str.empty ++ a = a := strE (by rw [app_cps]; rfl)
theorem eqS {a b : Str} {A B : Prop} (h : (a == b) = true) (k : A) : if decide (V.str a = V.str b) = true then A else B := by
  rw [dec_str, h]
  exact iteT k
theorem neS {a b : Str} {A B : Prop} (h : (a == b) = false) (k : B) : if decide (V.str a = V.str b) = true then A else B := by
  rw [dec_str, h]
  exact iteF k

mutual
def Ter.dat : Ter → PyData
  | .var k => kD k
  | .ap f as => .tuple (.str f :: Ter.dats as)
def Ter.dats : List Ter → List PyData
  | [] => []
  | a :: r => a.dat :: Ter.dats r
end
mutual
theorem dp_ter {K : PySem.W.Frag} {H : Hp} : ∀ (t : Ter) (v : V), TmAt H v t → Dp K H v t.dat
  | .var k, _, h => by
    cases h with
    | int i => exact .int i
    | str x => exact .str x
  | .ap f as, _, h => by
    cases h with
    | ap e hs => exact .tup (.inl (.inl e)) (.cons (.str f) (dp_ters as _ hs))
theorem dp_ters {K : PySem.W.Frag} {H : Hp} : ∀ (ts : List Ter) (vs : List V), TmAll H vs ts → DpAll K H vs (Ter.dats ts)
  | [], _, h => by cases h; exact .nil
  | t :: r, _, h => by
    cases h with
    | cons a b => exact .cons (dp_ter t _ a) (dp_ters r _ b)
end
def symFine (f : Str) (_ : Nat) : Prop := PyData.strOk f = true
mutual
theorem lay_ter : ∀ t : Ter, t.wf symFine keyFine → PyData.canLay0 t.dat = true ∧ PyData.depth t.dat ≤ t.nest
  | .var (.inl _), _ => ⟨rfl, Nat.zero_le _⟩
  | .var (.inr x), h => ⟨h, Nat.zero_le _⟩
  | .ap f as, h => by
    obtain ⟨h1, h2⟩ := lay_ters as h.2
    refine ⟨?_, ?_⟩
    · show (PyData.strOk f && PyData.canLayAll0 (Ter.dats as)) = true
      rw [show PyData.strOk f = true from h.1, h1]
      rfl
    · show max 0 (PyData.depthAll (Ter.dats as)) + 1 ≤ Ter.nests as + 1
      omega
theorem lay_ters : ∀ ts : List Ter, Ter.wfs symFine keyFine ts → PyData.canLayAll0 (Ter.dats ts) = true ∧ PyData.depthAll (Ter.dats ts) ≤ Ter.nests ts
  | [], _ => ⟨rfl, Nat.le_refl _⟩
  | t :: r, h => by
    obtain ⟨h1, h2⟩ := lay_ter t h.1
    obtain ⟨h3, h4⟩ := lay_ters r h.2
    refine ⟨?_, ?_⟩
    · show (PyData.canLay0 t.dat && PyData.canLayAll0 (Ter.dats r)) = true
      rw [h1, h3]
      rfl
    · show max t.dat.depth (PyData.depthAll (Ter.dats r)) ≤ max t.nest (Ter.nests r)
      omega
end
theorem shaped_ter {t : Ter} (h : t.wf symFine keyFine) (n : t.nest ≤ 64) : SeqAt.shaped t.dat = true := by
  obtain ⟨h1, h2⟩ := lay_ter t h
  unfold SeqAt.shaped
  rw [h1, decide_eq_true (Nat.le_trans h2 n)]
  rfl
mutual
theorem wf_mono {W W' : Str → Nat → Prop} {U U' : Key → Prop} (w : ∀ f n, W f n → W' f n) (u : ∀ k, U k → U' k) : ∀ t : Ter, t.wf W U → t.wf W' U'
  | .var k, h => u k h
  | .ap f as, h => ⟨w f _ h.1, wfs_mono w u as h.2⟩
theorem wfs_mono {W W' : Str → Nat → Prop} {U U' : Key → Prop} (w : ∀ f n, W f n → W' f n) (u : ∀ k, U k → U' k) : ∀ ts : List Ter, Ter.wfs W U ts → Ter.wfs W' U' ts
  | [], _ => trivial
  | t :: r, h => ⟨wf_mono w u t h.1, wfs_mono w u r h.2⟩
end
def trueT : Ter := .ap "true" []
def isTrueT (t : Ter) : Bool := PyData.eqv t.dat trueT.dat

def shSym (f : Str) (_ : Nat) : Prop := f.length ≤ 40 ∧ PyData.strOk f = true
def shKey : Key → Prop
  | .inl r => 0 ≤ r ∧ r < 900
  | .inr x => x.length ≤ 40 ∧ PyData.strOk x = true
theorem sh_fine : ∀ t : Ter, t.wf shSym shKey → t.wf symFine keyFine := wf_mono (fun _ _ h => h.2) (fun k h => by
  cases k with
  | inl r => trivial
  | inr x => exact h.2)
mutual
def showT : Ter → Str
  | .var (.inl i) => ("X" : Str) ++ (toString i : String)
  | .var (.inr x) => x
  | .ap f [] => f
  | .ap f (a :: r) => f ++ (("(" : Str) ++ (Txt.join "," (showTs (a :: r)) ++ (")" : Str)))
def showTs : List Ter → List Str
  | [] => []
  | a :: r => showT a :: showTs r
end
theorem showTs_len : ∀ ts : List Ter, (showTs ts).length = ts.length
  | [] => rfl
  | _ :: r => congrArg (· + 1) (showTs_len r)
theorem showTs_app : ∀ as bs : List Ter, showTs (as ++ bs) = showTs as ++ showTs bs
  | [], _ => rfl
  | a :: r, bs => congrArg (showT a :: ·) (showTs_app r bs)
theorem num_len (r : Int) (h0 : 0 ≤ r) (h1 : r < 900) : ((toString r : String) : Str).length ≤ 4 := by
  have a : ∀ r : Fin 900, (((toString ((r.val : Nat) : Int)) : String) : Str).length ≤ 4 := by decide +kernel
  have e : r = ((r.toNat : Nat) : Int) := by omega
  rw [e]
  exact a ⟨r.toNat, by omega⟩
end Own
namespace Own
open PySem PySem.Spec PyProof.Rows L2 RT HT
def tlen (ys : List Str) : Nat := (ys.map (·.length)).sum
theorem tlen_cons (y : Str) (ys : List Str) : tlen (y :: ys) = y.length + tlen ys := by
  unfold tlen
  rw [List.map_cons, List.sum_cons]
theorem join_len (sep : Str) : ∀ ys : List Str, (Txt.join sep ys).length ≤ tlen ys + ys.length * sep.length
  | [] => by rw [TL.join_eq]; exact Nat.zero_le _
  | [x] => by
    rw [TL.join_eq, tlen_cons]
    show x.length ≤ _
    omega
  | x :: y :: r => by
    have ih := join_len sep (y :: r)
    rw [TL.join_eq] at ih ⊢
    show (x ++ sep ++ Str.join sep (y :: r)).length ≤ _
    rw [app_len, app_len, tlen_cons, List.length_cons, Nat.succ_mul]
    omega
theorem len1 : ("X" : Str).length = 1 ∧ ("(" : Str).length = 1 ∧ (")" : Str).length = 1 ∧ ("," : Str).length = 1 := by decide +kernel
mutual
theorem showT_len : ∀ t : Ter, t.wf shSym shKey → (showT t).length + 1 ≤ 60 * t.size
  | .var (.inl i), h => by
    have q := num_len i h.1 h.2
    show (("X" : Str) ++ (toString i : String)).length + 1 ≤ 60
    rw [app_len, len1.1]
    omega
  | .var (.inr x), h => by
    have q : x.length ≤ 40 := h.1
    show x.length + 1 ≤ 60
    omega
  | .ap f [], h => by
    have q : f.length ≤ 40 := h.1.1
    show f.length + 1 ≤ 60
    omega
  | .ap f (a :: r), h => by
    have q : f.length ≤ 40 := h.1.1
    have q2 := showTs_len2 (a :: r) h.2
    have q3 := join_len "," (showTs (a :: r))
    rw [showTs_len, len1.2.2.2] at q3
    show (f ++ (("(" : Str) ++ (Txt.join "," (showTs (a :: r)) ++ (")" : Str)))).length + 1 ≤ 60 * (Ter.sizes (a :: r) + 1)
    rw [app_len, app_len, app_len, len1.2.1, len1.2.2.1]
    omega
theorem showTs_len2 : ∀ ts : List Ter, Ter.wfs shSym shKey ts → tlen (showTs ts) + ts.length ≤ 60 * Ter.sizes ts
  | [], _ => Nat.le_refl _
  | t :: r, h => by
    have q1 := showT_len t h.1
    have q2 := showTs_len2 r h.2
    show tlen (showT t :: showTs r) + (r.length + 1) ≤ 60 * (t.size + Ter.sizes r)
    rw [tlen_cons]
    omega
end
def showL (b : Bool) (l r : Ter) : Str :=
  if isTrueT r = true then (if b = true then showT l else ("~" : Str) ++ showT l) else showT l ++ ((if b = true then (" = " : Str) else (" != " : Str)) ++ showT r)
def Lit := Bool × Ter × Ter
def Lit.ok (x : Lit) : Prop := x.2.1.wf shSym shKey ∧ x.2.2.wf shSym shKey ∧ x.2.1.nest ≤ 60 ∧ x.2.2.nest ≤ 60 ∧ x.2.1.size ≤ 1000 ∧ x.2.2.size ≤ 1000
inductive LitAt (H : Hp) : V → Lit → Prop
  | mk {p : Addr} {b : Bool} {x y : V} {l r : Ter} : H p = some (.tup [.bl b, x, y]) → TmAt H x l → TmAt H y r → LitAt H (.ref p) (b, l, r)
theorem LitAt.mono {H H' : Hp} (m : Tups H H') {v : V} {x : Lit} (h : LitAt H v x) : LitAt H' v x := by
  cases h with
  | mk e a b => exact .mk (m _ _ e) (TmAt.mono m _ _ a) (TmAt.mono m _ _ b)
inductive LitAll (H : Hp) : List V → List Lit → Prop
  | nil : LitAll H [] []
  | cons {v : V} {vs : List V} {x : Lit} {xs : List Lit} : LitAt H v x → LitAll H vs xs → LitAll H (v :: vs) (x :: xs)
theorem LitAll.mono {H H' : Hp} (m : Tups H H') : ∀ {vs : List V} {xs : List Lit}, LitAll H vs xs → LitAll H' vs xs
  | _, _, .nil => .nil
  | _, _, .cons a r => .cons (a.mono m) (r.mono m)
theorem LitAll.app {H : Hp} : ∀ {vs ws : List V} {xs ys : List Lit}, LitAll H vs xs → LitAll H ws ys → LitAll H (vs ++ ws) (xs ++ ys)
  | _, _, _, _, .nil, h => h
  | _, _, _, _, .cons a r, h => .cons a (r.app h)
theorem LitAll.len {H : Hp} : ∀ {vs : List V} {xs : List Lit}, LitAll H vs xs → vs.length = xs.length
  | _, _, .nil => rfl
  | _, _, .cons _ t => congrArg (· + 1) t.len
theorem LitAll.get {H : Hp} : ∀ {vs : List V} {xs : List Lit} {i : Nat} {v : V}, LitAll H vs xs → vs[i]? = some v → ∃ x, xs[i]? = some x ∧ LitAt H v x
  | _, _, _, _, .nil, e => by simp at e
  | _, _, 0, _, .cons a r, e => by
    simp at e
    subst e
    exact ⟨_, rfl, a⟩
  | _, _, i + 1, v, .cons a r, e => by
    obtain ⟨t, h1, h2⟩ := LitAll.get (i := i) (v := v) r (by simpa using e)
    exact ⟨t, by simpa using h1, h2⟩
inductive Op | and | or | imp | iff
def Op.word : Op → Str
  | .and => "and"
  | .or => "or"
  | .imp => "implies"
  | .iff => "iff"
def Op.sign : Op → Str
  | .and => "&"
  | .or => "|"
  | .imp => "->"
  | .iff => "<->"
def qWord (a : Bool) : Str := if a = true then "all" else "some"
inductive Fm where
  | tt (b : Bool)
  | eq (l r : Ter)
  | neg (f : Fm)
  | bin (o : Op) (f g : Fm)
  | qu (a : Bool) (x : Str) (f : Fm)
def Fm.ter : Fm → Ter
  | .tt b => .ap (if b = true then "true" else "false") []
  | .eq l r => .ap "equal" [l, r]
  | .neg f => .ap "not" [f.ter]
  | .bin o f g => .ap o.word [f.ter, g.ter]
  | .qu a x f => .ap (qWord a) [.var (.inr x), f.ter]
def Fm.high : Fm → Nat
  | .tt _ => 1
  | .eq _ _ => 1
  | .neg f => f.high + 1
  | .bin _ f g => max f.high g.high + 1
  | .qu _ _ f => f.high + 1
def Fm.all (R : Ter → Prop) (S : Str → Prop) : Fm → Prop
  | .tt _ => True
  | .eq l r => R l ∧ R r
  | .neg f => f.all R S
  | .bin _ f g => f.all R S ∧ g.all R S
  | .qu _ x f => S x ∧ f.all R S
end Own
namespace Own
open PySem PySem.Spec PyProof.Rows L2 RT HT
def Fm.head : Fm → Str
  | .tt b => if b = true then "true" else "false"
  | .eq _ _ => "equal"
  | .neg _ => "not"
  | .bin o _ _ => o.word
  | .qu a _ _ => qWord a
def Fm.tail : Fm → List Ter
  | .tt _ => []
  | .eq l r => [l, r]
  | .neg f => [f.ter]
  | .bin _ f g => [f.ter, g.ter]
  | .qu _ x f => [.var (.inr x), f.ter]
theorem fm_ter (f : Fm) : f.ter = .ap f.head f.tail := by cases f <;> rfl
theorem fm_at {H : Hp} {v : V} {f : Fm} (h : TmAt H v f.ter) : ∃ a xs, v = .ref a ∧ H a = some (.tup (.str f.head :: xs)) ∧ TmAll H xs f.tail := by
  rw [fm_ter] at h
  cases h with
  | ap e hs => exact ⟨_, _, rfl, e, hs⟩
theorem headN {f : Fm} {s : Str} {b : Bool} (w : Str) (h : f.head = w) (d : (w == s) = b) : (f.head == s) = b := by
  rw [h]
  exact d
theorem all_two {H : Hp} {xs : List V} {a b : Ter} (h : TmAll H xs [a, b]) : ∃ x y, xs = [x, y] ∧ TmAt H x a ∧ TmAt H y b := by
  cases h with
  | cons h1 h2 =>
    cases h2 with
    | cons h3 h4 =>
      cases h4
      exact ⟨_, _, rfl, h1, h3⟩
theorem all_one {H : Hp} {xs : List V} {a : Ter} (h : TmAll H xs [a]) : ∃ x, xs = [x] ∧ TmAt H x a := by
  cases h with
  | cons h1 h2 =>
    cases h2
    exact ⟨_, rfl, h1⟩
theorem at_1 {x y : V} {zs : List V} : atI (x :: y :: zs) 1 = some y := atI_nat (j := 1) rfl
theorem at_2 {x y z : V} {zs : List V} : atI (x :: y :: z :: zs) 2 = some z := atI_nat (j := 2) rfl
end Own
namespace Own
open PySem PySem.Spec PyProof.Rows L2 RT HT
end Own
namespace Own
open PySem PySem.Spec PyProof.Rows L2 HT
inductive DTer where
  | var (k : Key)
  | ap (p : Addr) (f : Str) (as : List DTer)
def DTer.val : DTer → V
  | .var k => kV k
  | .ap p _ _ => .ref p
mutual
def DTer.ter : DTer → Ter
  | .var k => .var k
  | .ap _ f as => .ap f (DTer.ters as)
def DTer.ters : List DTer → List Ter
  | [] => []
  | a :: r => a.ter :: DTer.ters r
end
mutual
def DAt (H : Hp) : DTer → Prop
  | .var _ => True
  | .ap p f as => H p = some (.tup (.str f :: as.map DTer.val)) ∧ DAts H as
def DAts (H : Hp) : List DTer → Prop
  | [] => True
  | a :: r => DAt H a ∧ DAts H r
end
mutual
theorem DAt.mono {H H' : Hp} (m : Tups H H') : ∀ d : DTer, DAt H d → DAt H' d
  | .var _, _ => trivial
  | .ap p f as, h => ⟨m _ _ h.1, DAts.mono m as h.2⟩
theorem DAts.mono {H H' : Hp} (m : Tups H H') : ∀ ds : List DTer, DAts H ds → DAts H' ds
  | [], _ => trivial
  | a :: r, h => ⟨DAt.mono m a h.1, DAts.mono m r h.2⟩
end
theorem DAts.get {H : Hp} : ∀ {ds : List DTer} {i : Nat} {d : DTer}, DAts H ds → ds[i]? = some d → DAt H d
  | [], _, _, _, e => by simp at e
  | a :: r, 0, d, h, e => by simp at e; exact e ▸ h.1
  | a :: r, i + 1, d, h, e => DAts.get (ds := r) (i := i) h.2 (by simpa using e)
abbrev Bd := List (Key × DTer)
def look (B : Bd) (k : Key) : Option DTer := (B.find? fun e => decide (e.1 = k)).map (·.2)
theorem val_of_mem : ∀ {kvs : List (Key × V)} {e : Key × V}, (kvs.map (·.1)).Nodup → e ∈ kvs → valV kvs e.1 = some e.2
  | [], _, _, h => by cases h
  | p :: r, e, hn, h => by
    have hn : p.1 ∉ r.map (·.1) ∧ (r.map (·.1)).Nodup := List.nodup_cons.mp hn
    rcases List.mem_cons.mp h with rfl | h
    · exact valV_pos rfl
    · have n : ¬ p.1 = e.1 := fun z => hn.1 (z ▸ List.mem_map_of_mem h)
      rw [valV_neg n]
      exact val_of_mem hn.2 h
def s7 (f : Str) (n : Nat) : Prop := shSym f n ∧ n ≤ 2
theorem s7_sh : ∀ t : Ter, t.wf s7 numVar → t.wf shSym shKey := wf_mono (fun _ _ h => h.1) (fun k h => by
  obtain ⟨r, rfl, h1, h2⟩ := h
  exact ⟨h1, h2⟩)
structure Gd (H : Hp) (u : DTer) (N : Nat) : Prop where
  at_ : DAt H u
  wf : u.ter.wf s7 numVar
  ne : u.ter.nest ≤ N
theorem Gd.mono {H H' : Hp} {u : DTer} {N : Nat} (g : Gd H u N) (m : Tups H H') : Gd H' u N := ⟨DAt.mono m _ g.at_, g.wf, g.ne⟩
structure BOk (H : Hp) (B : Bd) (N : Nat) : Prop where
  nd : (B.map (·.1)).Nodup
  al : ∀ e ∈ B, (∃ i, e.1 = .inl i ∧ 0 ≤ i) ∧ Gd H e.2 N
theorem BOk.mono {H H' : Hp} {B : Bd} {N : Nat} (g : BOk H B N) (m : Tups H H') : BOk H' B N := ⟨g.nd, fun e h => ⟨(g.al e h).1, (g.al e h).2.mono m⟩⟩
theorem look_none {B : Bd} {k : Key} (h : look B k = none) : k ∉ B.map (·.1) := by
  intro z
  obtain ⟨e, he, h2⟩ := List.mem_map.mp z
  unfold look at h
  cases q : B.find? fun e => decide (e.1 = k) with
  | none =>
    have := List.find?_eq_none.mp q e he
    exact this (decide_eq_true h2)
  | some p => rw [q] at h; cases h
theorem BOk.snoc {H : Hp} {B : Bd} {N : Nat} (g : BOk H B N) {i : Int} (hi : 0 ≤ i) {u : DTer} (hu : Gd H u N) (h : look B (.inl i) = none) : BOk H (B ++ [(.inl i, u)]) N := by
  refine ⟨?_, fun e he => ?_⟩
  · rw [List.map_append]
    exact nd_snoc g.nd (look_none h)
  · rcases List.mem_append.mp he with he | he
    · exact g.al e he
    · rcases List.mem_cons.mp he with rfl | he
      · exact ⟨⟨i, rfl, hi⟩, hu⟩
      · cases he
mutual
theorem ter_refl : ∀ t : Ter, PyData.eqv t.dat t.dat = true
  | .var (.inl i) => by show PyData.eqv (.int i) (.int i) = true; simp [PyData.eqv]
  | .var (.inr x) => by show PyData.eqv (.str x) (.str x) = true; simp [PyData.eqv]
  | .ap f as => by
    show PyData.eqv (.tuple (.str f :: Ter.dats as)) (.tuple (.str f :: Ter.dats as)) = true
    rw [PyData.eqv, PyData.eqvAll, ters_refl as]
    simp [PyData.eqv]
theorem ters_refl : ∀ ts : List Ter, PyData.eqvAll (Ter.dats ts) (Ter.dats ts) = true
  | [] => rfl
  | t :: r => by
    show PyData.eqvAll (t.dat :: Ter.dats r) (t.dat :: Ter.dats r) = true
    rw [PyData.eqvAll, ter_refl t, ters_refl r]
    rfl
end
theorem Gd.fine {H : Hp} {u : DTer} (g : Gd H u 40) : SeqAt.shaped u.ter.dat = true := shaped_ter (sh_fine _ (s7_sh _ g.wf)) (by have := g.ne; omega)
theorem But.tupsK {d : Addr} {H H' : Hp} {kvs : List (Key × V)} (a : But d H H') (h : H d = some (.dK kvs)) : Tups H H' := fun b xs e => a b _ (ne_of e h (by intro z; cases z)) e
end Own
namespace Own
open PySem PySem.Spec PyProof.Rows L2 HT
end Own
namespace Own
open PySem PySem.Spec PyProof.Rows L2 HT
abbrev Pr := Str × Nat
def prV (p : Pr) : List V := [.str p.1, .int (p.2 : Int)]
inductive PrAt (H : Hp) : V → Pr → Prop
  | mk {a : Addr} {p : Pr} : H a = some (.tup (prV p)) → PrAt H (.ref a) p
inductive PrAll (H : Hp) : List V → List Pr → Prop
  | nil : PrAll H [] []
  | cons {v : V} {p : Pr} {vs : List V} {ps : List Pr} : PrAt H v p → PrAll H vs ps → PrAll H (v :: vs) (p :: ps)
theorem PrAt.mono {H H' : Hp} (m : Tups H H') {v : V} {p : Pr} (h : PrAt H v p) : PrAt H' v p := by
  cases h with
  | mk e => exact .mk (m _ _ e)
theorem PrAll.mono {H H' : Hp} (m : Tups H H') : ∀ {vs : List V} {ps : List Pr}, PrAll H vs ps → PrAll H' vs ps
  | _, _, .nil => .nil
  | _, _, .cons a r => .cons (a.mono m) (r.mono m)
theorem PrAll.len {H : Hp} : ∀ {vs : List V} {ps : List Pr}, PrAll H vs ps → vs.length = ps.length
  | _, _, .nil => rfl
  | _, _, .cons _ r => congrArg (· + 1) r.len
theorem PrAll.app {H : Hp} : ∀ {vs ws : List V} {ps qs : List Pr}, PrAll H vs ps → PrAll H ws qs → PrAll H (vs ++ ws) (ps ++ qs)
  | _, _, _, _, .nil, b => b
  | _, _, _, _, .cons a r, b => .cons a (r.app b)
theorem PrAll.get {H : Hp} : ∀ {vs : List V} {ps : List Pr} {i : Nat} {v : V}, PrAll H vs ps → vs[i]? = some v → ∃ p, ps[i]? = some p ∧ PrAt H v p
  | _, _, _, _, .nil, h => by cases h
  | _, _, 0, _, .cons a r, h => by
    cases (show some _ = some _ from h)
    exact ⟨_, rfl, a⟩
  | _, _, i + 1, _, .cons a r, h => r.get (i := i) h
theorem PrAll.erase {H : Hp} : ∀ {vs : List V} {ps : List Pr} (i : Nat), PrAll H vs ps → PrAll H (vs.eraseIdx i) (ps.eraseIdx i)
  | _, _, _, .nil => .nil
  | _, _, 0, .cons a r => r
  | _, _, i + 1, .cons a r => .cons a (r.erase i)
def anyNum (k : Key) : Prop := ∃ i : Int, k = .inl i
end Own
set_option maxHeartbeats 2000000
namespace Own
open PySem PySem.Spec PyProof.Rows L2 HT
section
variable {prog : Program} {w : World} {A : Around} {E : Value → Shared → Prop} {hp : Heap} {g : Array GenState} {dr : Drawn} {tk : Nat} {os : OsState}
variable {nm qn : Str} {C N : Addr} {bs bm : List Value} {hd : Bool} {sn : List Str} {sub : List Value} {ab : Bool} {col : Option Bool} {dd : Option Addr} {k0 k1 k2 k3 k5 : Option Value}
theorem vi_call {u x t0 : Addr} {vs : List Value} {Q : Value → Shared → Prop}
    (hC : hp.get? C = some (excClassObj nm qn C N bs bm hd sn sub ab col dd k0 k1 k2 k3 k5 "ValueError.__new__"))
    (hx : hp.get? x = some (PySem.HandSPX.excO C t0)) (hu : hp.get? u = some (PySem.W.kxs_mw "ValueError.__init__" x)) (hz : vs.length ≤ sizeLine)
    (hq : ∀ h' t1, (∀ b o, b ≠ x → hp.get? b = some o → h'.get? b = some o) → h'.get? x = some (PySem.HandSPX.excO C t1) → Q .none ⟨h', g, dr, tk, os⟩) :
    wpAny (model prog w) A (call (.ref u) vs) Q E ⟨hp, g, dr, tk, os⟩ := by
  have FB := F.excBase_ValueError
  refine wpAny_call (codeAny_of_tree ?_)
  show wpAny _ _ (callAny (.ref u) ⟨vs, []⟩) _ _ ⟨hp, g, dr, tk, os⟩
  simp only [callAny]
  refine wpAny_bind (wpAny_load hu ?_)
  have b1 : (Value.type "method-wrapper" == Value.type "method" || Value.type "method-wrapper" == Value.type "builtin_function_or_method" || Value.type "method-wrapper" == Value.type "method-wrapper") = true := by decide
  simp only [PySem.W.kxs_mw, b1, if_true]
  refine PySem.W.KFB.if_so b1 (wpAny_bind (PySem.W.check_bound_init FB.toExcCallFacts hC hx rfl (wpAny_bind (wpAny_pure (wpAny_pure ?_)))))
  refine ⟨plainId_quiet FB.init.plain _, codeAny_builtin FB.initEntry ?_⟩
  exact PySem.W.exc_init_tree (cls := .ref C) (t0 := t0) (dv := none) (c2 := .none) (c3 := .none) (b4 := .bool false) hx hz fun h' k e _ => hq h' _ k e
end
structure PSAt (X : Cx) (body : List Stmt) (st : Stmt) (t : TS) : Prop where
  run : ∀ (pins : List (Addr × Obj)) (s : Shared) (σ : L2.St) (H : Hp) (D : Ends), Inv X pins σ H s → t D σ H → PySem.wpAt (model X.prog X.w) X.A (.func body X.env) (exec st X.env) (SP X pins D) X.xe s
structure PSsAt (X : Cx) (body st : List Stmt) (t : TS) : Prop where
  run : ∀ (pins : List (Addr × Obj)) (s : Shared) (σ : L2.St) (H : Hp) (D : Ends), Inv X pins σ H s → t D σ H → PySem.wpAt (model X.prog X.w) X.A (.func body X.env) (execs st X.env) (SP X pins D) X.xe s
theorem pssAt_cons {X : Cx} {body : List Stmt} {st : Stmt} {rest : List Stmt} {t u : TS} (h1 : PSAt X body st t) (h2 : PSs X rest u) : PSsAt X body (st :: rest) (tSeq t u) := by
  refine ⟨fun pins s σ H D I h => ?_⟩
  refine ks_wpAt_execs_cons (PySem.ks_wpAt_mono (h1.run pins s σ H { D with nx := u D } I h) (fun f s1 q => ?_) fun _ _ z => z)
  cases f with
  | next =>
    obtain ⟨σ1, H1, J, q⟩ := q
    exact PySem.wpAt_of_wpAny (h2.run pins s1 σ1 H1 D J q)
  | ret u => exact q
  | brk => exact q
  | cont => exact q
structure SupX (X : Cx) (C cc : Addr) : Prop where
  ks : X.env.kindOf "super" = some .globalImplicit
  kc : X.env.kindOf "__class__" = some .free
  fn : ∃ f o fd, X.env.func = some f ∧ X.K.lookup f = some o ∧ o.data = .func fd ∧ ∃ ar, (fd.params.posonlyargs ++ fd.params.args).head? = some ar ∧ ar.arg = ("self" : Str)
  code : ∃ cda o vs file tf, X.env.code = .ref cda ∧ X.K.lookup cda = some o ∧ o.data = .fields vs ∧ vs[2]? = some (.str file tf) ∧ ((X.prog.main.file : Str) == file) = true
  top : (X.prog.main.scope.names.lookup ("super" : Str)).isSome = false
  cell : X.env.cells.lookup ("__class__" : Str) = some cc
  cellv : ∃ cl cld csl, X.K.lookup cc = some ⟨cl, cld, .cell (some (.ref C)), csl⟩
  glob : X.mg "super" = none
  self : X.env.kindOf "self" = some .local
  n0 : X.N[0]? = some ("self" : Str)
structure SupC (K : PySem.W.Frag) (C : Addr) : Prop where
  oex : OexC K C
  up : PySem.W.ks_superIn K C C "__init__" = some (some (.builtin "ValueError.__init__"))
  sub : PySem.W.subIn K (.ref C) (.type "ValueError") = some true
  own : PySem.W.mroIn K C (.ref C) = some true
  opq : PySem.W.nsIn K cStatics "thirdparty.any" = some none
def tSup (C : Addr) (ta : TA) : TS := fun D σ H => ∃ a, σ[0]? = some (some (.ref a)) ∧ H a = some (exo a C none) ∧ ta σ H fun vs H1 => vs.length ≤ 1000 ∧ H1 a = some (exo a C none) ∧ D.nx σ H1
theorem exo_get {X : Cx} {pins : List (Addr × Obj)} {σ : L2.St} {H : Hp} {s : Shared} {a C : Addr} (I : Inv X pins σ H s) (e : H a = some (exo a C none)) : ∃ t0, s.heap.get? a = some (PySem.HandSPX.excO C t0) := exo_at I.hok e
theorem ps_superAt {X : Cx} {body : List Stmt} {C cc : Addr} {p0 p1 p2 pos pos2 : Pos} {e : Expr} {es : List Expr} {ta : TA} (S : SupX X C cc) (T : SupC X.K C) (ha : PA X (e :: es) ta)
    (hev : eval (.Call (.Attribute (.Call (.Name "super" p0) [] [] p1) "__init__" p2) (e :: es) [] pos) X.env = (do
      let ov ← attributeBase (.Call (.Name "super" p0) [] [] p1) "__init__" X.env (eval (.Call (.Name "super" p0) [] [] p1) X.env)
      standAt p2.atName
      let (f, first) ← holding [ov] (getMethod ov "__init__" (pure false))
      callWith pos f first (backTo pos (starEach (e :: es) X.env)) []) := by rfl)
    (hi : interactive X.env = false := by rfl) (hs : swapsWith (.Call (.Attribute (.Call (.Name "super" p0) [] [] p1) "__init__" p2) (e :: es) [] pos) none pos2.line X.env = pure false := by rfl)
    (he : starEach (e :: es) X.env = (false, eval e X.env) :: starEach es X.env := by rfl) (hpl : (backTo pos (starEach es X.env)).any (·.1) = false := by rfl) :
    PSAt X body (.Expr (.Call (.Attribute (.Call (.Name "super" p0) [] [] p1) "__init__" p2) (e :: es) [] pos) pos2) (tSup C ta) := by
  refine ⟨fun pins s σ H D I h => ?_⟩
  obtain ⟨a, h0, hex, h⟩ := h
  obtain ⟨f, o, fd, hfu, hfl, hfd, ar, hhd, har⟩ := S.fn
  obtain ⟨cda, oc, fvs, file, tf, hco, hcl, hcd, hfv, hfile⟩ := S.code
  obtain ⟨cl, cld, csl, hcell⟩ := S.cellv
  obtain ⟨nm, qn, N, bs, bm, sn, sub, ab, col, dd, k0, k1, k2, k3, k5, hC, hbm⟩ := T.oex.cls
  have KX := I.kIn
  have hCg := KX _ _ hC
  obtain ⟨m, hns, hl⟩ := I.loc
  obtain ⟨u0, r0, lk⟩ := hl 0 "self" (.ref a) S.n0 h0 (.inl S.self)
  cases r0
  have hself : m "self" = some (.ref a) := by
    rcases lk with ⟨_, q⟩ | ⟨q, _⟩
    · exact q
    · rw [S.self] at q
      rcases q with q | q <;> cases q
  obtain ⟨t0, hox⟩ := exo_get I hex
  have hcls : PySem.W.clsIn X.K C = some { name := nm, bases := bs, mro := .ref C :: bm, ns := N, qualname := qn, hasDict := true, slotNames := sn, subclasses := sub, abstract := ab, collection := col, hasDel := false } := by unfold PySem.W.clsIn; rw [hC] <;> rfl
  have J : PySem.W.InstAt s.heap a (PySem.HandSPX.excO C t0) C none := ⟨hox, rfl, rfl, trivial⟩
  obtain ⟨mb, hb1, hb2⟩ := I.mod.blt
  refine PySem.ks_wpAt_Expr_any (PySem.ks_wpAt_MethodCall (pl := pure false) ?_ hev) hi hs
  refine PySem.ks_wpAt_super_base (env := X.env) S.ks S.kc rfl hfu (KX _ _ hfl) hfd hhd hco (KX _ _ hcl) hcd hfv hfile S.top ?_
  refine PySem.W.ks_loadName_global I.ok.kind S.ks ?_
  refine Calls.loadGlobal_builtin (by rw [I.ok.glob]; exact I.mod.glob.keeps I.bk) S.glob (by rw [I.ok.blt]; exact hb1.keeps I.bk) ((hb2 "super" (by decide)).trans (show bootBuiltins "super" = some (.type "super") by first | rfl | kernel_rfl)) ?_
  refine ⟨rfl, ?_⟩
  refine wpAny_loadName_free I.ok.kind S.kc S.cell ⟨_, KX _ _ hcell, rfl⟩ ?_
  rw [har]
  refine wpAny_loadName_local I.ok.kind S.self hns hself ?_
  obtain ⟨hh, gg, dr, tk, os⟩ := s
  refine PySem.ks_wpAny_isType_cls hCg rfl ⟨rfl, ?_⟩
  refine PySem.ks_wpAny_call_super hCg rfl hox rfl (fun c z => by cases z) (PySem.W.looks_mroIn KX T.own) (fun h1 ho1 k1 => ?_)
  -- the super object stands at hh.objs.size
  have KX1 : X.K.In h1 := KX.keeps k1
  have J1 : PySem.W.InstAt h1 a (PySem.HandSPX.excO C t0) C none := ⟨k1 _ _ hox, rfl, rfl, trivial⟩
  have I1 : Inv X pins σ H ⟨h1, gg, dr, tk, os⟩ := I.kept (t' := tk) k1
  have up := T.up
  unfold PySem.W.ks_superIn at up
  rw [hcls] at up
  refine PySem.W.kxs_getMethod PySem.W.kxs_ValueError ho1 (PySem.W.looks_opaque KX1 T.opq) (l₀ := .ref C :: bm) (fun A Q E s k q => wpAny_bind ((PySem.W.looks_clsIn KX1 hcls) A _ E s k (wpAny_pure q))) rfl KX1 up
    (J1.type.andThen (PySem.W.looks_subIn KX1 T.sub)) (PySem.W.ks_ne KX1 J1 hcls) rfl ?_
  have k2 : ∀ b ob, h1.get? b = some ob → (h1.push (PySem.W.kxs_mw "ValueError.__init__" a)).get? b = some ob := fun b ob q => Heap.get?_push_of_some _ q
  have I2 : Inv X pins σ H ⟨h1.push (PySem.W.kxs_mw "ValueError.__init__" a), gg, dr, tk + 1, os⟩ := I1.kept (t' := tk + 1) k2
  have hw : (h1.push (PySem.W.kxs_mw "ValueError.__init__" a)).get? h1.objs.size = some (PySem.W.kxs_mw "ValueError.__init__" a) := Heap.get?_push_at rfl rfl
  have hnew : H h1.objs.size = none := I1.hok.fresh (Nat.le_refl _)
  have I3 : Inv X (pins ++ [(h1.objs.size, PySem.W.kxs_mw "ValueError.__init__" a)]) σ H ⟨h1.push (PySem.W.kxs_mw "ValueError.__init__" a), gg, dr, tk + 1, os⟩ := I2.pins_of fun p hp => by
    rcases List.mem_append.mp hp with hp | hp
    · exact I2.pin p (List.mem_append_right _ hp)
    · rw [List.mem_singleton.mp hp]
      exact ⟨hw, hnew, Ne.symm (Nat.ne_of_lt I1.lt), I1.nofs (Nat.le_refl _), fun v z => by cases z⟩
  show wpAny _ _ (callWith pos (Value.ref h1.objs.size) [] (backTo pos (starEach (e :: es) X.env)) []) _ _ _
  rw [he]
  refine PySem.W.kxs_callWith (i := "ValueError.__init__") (x := a) (by show (false || (backTo pos (starEach es X.env)).any (·.1)) = false; rw [hpl]; rfl) ?_
  refine Calls.evalArgs_plain ?_
  have hr := ha.run pos _ _ σ H _ I3 h
  rw [he] at hr
  refine thn hr fun us s2 hq => ?_
  obtain ⟨vs, H2, I4, rv, hlen, hex2, hD⟩ := hq
  refine ⟨(I4.pin (h1.objs.size, _) (List.mem_append_right _ (List.mem_append_right _ (List.mem_singleton.mpr rfl)))).1, ?_⟩
  have hw4 := (I4.pin (h1.objs.size, PySem.W.kxs_mw "ValueError.__init__" a) (List.mem_append_right _ (List.mem_append_right _ (List.mem_singleton.mpr rfl)))).1
  obtain ⟨t4, hox4⟩ := exo_get I4 hex2
  have hC4 := I4.kIn _ _ hC
  have I5 : Inv X pins σ H2 s2 := I4.pins_of fun p hp => I4.pin p (List.mem_append_right _ (List.mem_append_left _ hp))
  obtain ⟨h4, g4, d4, tk4, os4⟩ := s2
  show wpAny _ _ (call (Value.ref h1.objs.size) ([] ++ us)) _ _ _
  refine vi_call hC4 hox4 hw4 (by rw [List.nil_append, ← Paired.length rv, sizeLine_eq]; omega) fun h' t1 kk hx' => ?_
  have J5 := I5.write (t' := tk4) (x := a) (e := a) (o := exo a C none) (by rw [hex2]; exact True.intro) (.inl rfl) kk ⟨_, hx'⟩ (exo_ok hx')
  have eu : upd H2 a (exo a C none) = H2 := by
    funext b
    by_cases hb : b = a
    · rw [hb, upd_same, hex2]
    · rw [upd_ne hb]
  rw [eu] at J5
  exact ⟨σ, H2, J5, hD⟩
end Own
set_option maxHeartbeats 2000000
namespace Own
open PySem PySem.Spec PyProof.Rows L2 HT NdefX
section
variable {CX : CXT} {P : Program} {w : World} {K : PySem.W.Frag} {mg : Str → Option Value} {base : Heap} {k : Nat} {fI cc cda C : Addr} {name qual : Str} {params : Arguments} {body : List Stmt} {scope : Scope} {dV kV doc pm ct oc : Value} {an od : Option Addr}
  {osl : Array (Option Value)} {N ps : List Str} {sp : Sp}
abbrev iNF (name qual : Str) (params : Arguments) (body : List Stmt) (scope : Scope) (cc cda : Addr) : NF := ⟨name, qual, params, body, scope, [("__class__", cc)], cda⟩
abbrev icx (CX : CXT) (P : Program) (w : World) (K : PySem.W.Frag) (mg : Str → Option Value) (base : Heap) (N : List Str) (name qual : Str) (params : Arguments) (body : List Stmt) (scope : Scope) (cc cda fI : Addr) (A : Around) (outer : List Env) (s : Shared) (H : Hp) (E : XK) : Cx :=
  ncx CX P w K mg base N (iNF name qual params body scope cc cda) fI A outer s H E
theorem init_of (lk : K.lookup fI = some ⟨oc, od, .func (PySem.W.fnX name qual params body scope [("__class__", cc)] dV kV doc pm an (.ref cda) ct), osl⟩) (hcd : PySem.W.codeIn K (.ref cda) qual = true)
    (hcell : ∃ cl cld csl, K.lookup cc = some ⟨cl, cld, .cell (some (.ref C)), csl⟩) (S : NScope N ps ["__class__"] scope) (len : ∀ vs H Q E, sp vs H Q E → vs.length = ps.length)
    (hb : ∀ (A : Around) (outer : List Env) (s : Shared) (H : Hp) (vs : List V) (Q : VK) (E : XK), Room k (A.deeper (envF (iNF name qual params body scope cc cda) fI s.heap.objs.size)) → sp vs H Q E →
      ∃ t, PSsAt (icx CX P w K mg base N name qual params body scope cc cda fI A outer s H E) body body t ∧ t { nx := fun _ H' => Q .non H', rt := Q } (startF N vs [some (.ref C)]) H) :
    FnOk P w K mg base CX (k + 1) fI (PySem.W.fnX name qual params body scope [("__class__", cc)] dV kV doc pm an (.ref cda) ct) ps sp := by
  refine ⟨len, fun A outer s H args us vs Q E hr e0 hbd rv hsp => ?_⟩
  have hlen := len _ _ _ _ hsp
  have kx : K.In s.heap := e0.mod.kin.keeps fun b o e => (e0.bs b o e).1
  have nolim : s.heap.NoLimit := e0.mod.nolimit.keeps fun b o e => (e0.bs b o e).1
  obtain ⟨cl, cld, csl, hcl⟩ := hcell
  refine PySem.ks_codeAny_call_defAt (body := body) (binds := ps.zip us) hr.depth (kx _ _ lk) rfl nolim (PySem.W.codeRec_of kx hcd) rfl hbd S.nocell (fun ⟨n, _⟩ hy => S.par n (List.of_mem_zip hy).1) (fun h1 hns kp => ?_) S.co S.gen S.kind
  have hcells : CellsAt [("__class__", cc)] ["__class__"] [some (V.ref C)] s.heap H := by
    refine ⟨rfl, fun y c e => ?_, fun x y c e1 e2 => ?_, fun i y hy => ?_⟩
    · have ec : c = cc := by
        by_cases hy : y = "__class__"
        · subst hy
          simpa [List.lookup] using e.symm
        · have : (y == ("__class__" : Str)) = false := by simpa using hy
          simp [List.lookup, this] at e
      subst ec
      exact ⟨(e0.bs _ _ (e0.mod.kin _ _ hcl)).2, _, _, kx _ _ hcl, rfl⟩
    · have key : ∀ {z : Str} {d : Addr}, List.lookup z [(("__class__" : Str), cc)] = some d → z = "__class__" := fun {z d} h => by
        by_cases hz : z = "__class__"
        · exact hz
        · have : (z == ("__class__" : Str)) = false := by simpa using hz
          simp [List.lookup, this] at h
      rw [key e1, key e2]
    · cases i with
      | zero =>
        cases (show some _ = some _ from hy)
        refine ⟨cc, by simp [List.lookup], fun v hv => ?_⟩
        cases (show some (some _) = some (some _) from hv)
        exact ⟨.ref C, rfl, _, kx _ _ hcl, rfl⟩
      | succ i => cases (show none = some _ from hy)
  have I : Inv (icx CX P w K mg base N name qual params body scope cc cda fI A outer s H E) [] (startF N vs [some (.ref C)]) H { s with heap := h1, toks := s.toks + (ps.zip us).length } := inv_startN S hr.hd e0 hlen rv hcells hns kp
  obtain ⟨t, ht, hq⟩ := hb A outer s H vs Q E (hr.deeper _) hsp
  refine PySem.ks_wpAt_mono (ht.run [] _ _ H _ I hq) (fun fl s' hs => ?_) fun e s' hs => hs
  have close : ∀ {σ' : L2.St} {H' : Hp} {v : V} {u : Value}, Inv (icx CX P w K mg base N name qual params body scope cc cda fI A outer s H E) [] σ' H' s' → L2.RelV v u → Q v H' → CE outer P w H s Q u s' :=
    fun {σ' H' v u} J r q => ⟨v, H', J.os, J.bare, J.base, J.hok, r, q⟩
  cases fl with
  | ret u =>
    obtain ⟨v, σ', H', J, r, q⟩ := hs
    exact close J r q
  | next =>
    obtain ⟨σ', H', J, q⟩ := hs
    exact close (v := V.non) (u := Value.none) J rfl q
  | brk => exact False.elim hs.choose_spec.choose_spec.2
  | cont => exact False.elim hs.choose_spec.choose_spec.2
structure InitC (P : Program) (K : PySem.W.Frag) (mg : Str → Option Value) (C fI cc cda : Addr) (name qual : Str) (params : Arguments) (body : List Stmt) (scope : Scope) (fd : FuncData) : Prop where
  sup : SupC K C
  fn : ∃ oc od dV kV doc pm an ct osl, fd = PySem.W.fnX name qual params body scope [("__class__", cc)] dV kV doc pm an (.ref cda) ct ∧ K.lookup fI = some ⟨oc, od, .func fd, osl⟩
  code : PySem.W.codeIn K (.ref cda) qual = true
  file : ∃ o vs file tf, K.lookup cda = some o ∧ o.data = .fields vs ∧ vs[2]? = some (.str file tf) ∧ ((P.main.file : Str) == file) = true
  top : (P.main.scope.names.lookup ("super" : Str)).isSome = false
  cell : ∃ cl cld csl, K.lookup cc = some ⟨cl, cld, .cell (some (.ref C)), csl⟩
  glob : mg "super" = none
  self : ∃ ar, (params.posonlyargs ++ params.args).head? = some ar ∧ ar.arg = ("self" : Str)
  k1 : scope.names.lookup ("super" : Str) = some .globalImplicit
  k2 : scope.names.lookup ("__class__" : Str) = some .free
  k3 : scope.names.lookup ("self" : Str) = some .local
  iC : PySem.W.findIn K (.ref C) "__init__" = some (some (.ref fI))
  tI : PySem.W.typeIn K (.ref fI) = some (.type "function")
theorem InitC.supX {fd : FuncData} {A : Around} {outer : List Env} {s : Shared} {H : Hp} {E : XK} (T : InitC P K mg C fI cc cda name qual params body scope fd) (h0 : N[0]? = some ("self" : Str)) :
    SupX (icx CX P w K mg base N name qual params body scope cc cda fI A outer s H E) C cc := by
  obtain ⟨oc, od, dV, kV, doc, pm, an, ct, osl, rfl, l⟩ := T.fn
  obtain ⟨o, vs, file, tf, e1, e2, e3, e4⟩ := T.file
  obtain ⟨ar, e5, e6⟩ := T.self
  exact ⟨T.k1, T.k2, ⟨fI, _, _, rfl, l, rfl, ar, e5, e6⟩, ⟨cda, o, vs, file, tf, rfl, e1, e2, e3, e4⟩, T.top, by show List.lookup _ [(("__class__" : Str), cc)] = _; simp [List.lookup], T.cell, T.glob, T.k3, h0⟩
def spInit (C : Addr) (fs : List Str) (ok : List V → Hp → Prop) : Sp := fun vs H Q _ => ∃ a ws, vs = .ref a :: ws ∧ ws.length = fs.length ∧ H a = some (exo a C none) ∧ ok ws H ∧
  ∀ H2 dx, (∀ b, b ≠ a → b ≠ dx → H2 b = H b) → H dx = none → dx ≠ a → H2 a = some (exo a C (some dx)) → H2 dx = some (exd dx (fs.zip ws).reverse) → Q .non H2
end
section
variable {X : Cx} {CX : CXT} {x : Str} {e : Expr} {es : List Expr} {ta : TA} {p pos : Pos} {C fI : Addr} {k : Nat} {fd : FuncData} {ps : List Str} {sp : Sp}
theorem pmkN_sup (T : OexC X.K C) (iC : PySem.W.findIn X.K (.ref C) "__init__" = some (some (.ref fI))) (tI : PySem.W.typeIn X.K (.ref fI) = some (.type "function"))
    (F1 : FnOk X.prog X.w X.K X.mg X.base CX k fI fd ps sp) (hr : Room (k + 1) X.A) (hb : Binds X.K fd ps []) (hx : Passes CX X (fun _ _ _ => False)) (hg : Gl X x) (hm : X.mg x = some (.ref C)) (ha : PA X (e :: es) ta)
    (hdb : (x == ("__debug__" : Str)) = false := by decide) (he : starEach (e :: es) X.env = (false, eval e X.env) :: starEach es X.env := by rfl) (hpl : (backTo pos (starEach es X.env)).any (·.1) = false := by rfl) :
    L2N.PMk X (.Call (.Name x p) (e :: es) [] pos) (tMkO C sp [] ta) := by
  intro pins s σ H Q I h
  obtain ⟨nm, qn, N, bs, bm, sn, sub, ab, col, dd, k0, k1, k2, k3, k5, hcl, hve⟩ := T.cls
  refine wpAny_Call_Name_kw (ld_glob I hg hm ?_ hdb)
  refine PySem.W.callWith_K (h₀ := X.base) I.ok.mod.kin T.kC (thn (ha.run pos pins s σ H _ I h) fun us s1 hq => ?_) he hpl
  obtain ⟨vs, H1, I1, rv, hlen, hsp⟩ := hq
  refine ⟨I1.kIn, ?_⟩
  show wpAny _ _ (call (.ref C) us) _ _ _
  obtain ⟨h1, g1, d1, tk1, os1⟩ := s1
  have free1 : H1 (h1.objs.size + 1) = none := I1.hok.fresh (Nat.le_succ _)
  have hsp := hsp _ free1
  rw [List.append_nil] at hsp
  have older : ∀ b o, h1.get? b = some o → ((h1.push (PySem.W.kdv_tup us)).push (PySem.HandSPX.excO C h1.objs.size)).get? b = some o := fun b o q => Heap.get?_push_of_some _ (Heap.get?_push_of_some _ q)
  have there : ((h1.push (PySem.W.kdv_tup us)).push (PySem.HandSPX.excO C h1.objs.size)).get? (h1.objs.size + 1) = some (PySem.HandSPX.excO C h1.objs.size) := by heap_get
  have I2 := I1.laid (t' := tk1) (a := h1.objs.size + 1) (o := exo (h1.objs.size + 1) C none) older (Nat.le_succ _) (exo_ok there)
  have rv2 : Vals (V.ref (h1.objs.size + 1) :: vs) (Value.ref (h1.objs.size + 1) :: us) := .cons rfl rv
  have elen : (Value.ref (h1.objs.size + 1) :: us ++ []).length = ps.length := by
    rw [List.append_nil, ← rv2.length]
    exact F1.len _ _ _ _ hsp
  have ulen : us.length ≤ sizeLine := by
    have := Paired.length rv
    rw [sizeLine_eq]
    omega
  have bind2 := hb _ (Value.ref (h1.objs.size + 1) :: us) I2.kIn elen
  rw [List.append_nil] at bind2
  have init := F1.run _ X.stack _ _ ⟨Value.ref (h1.objs.size + 1) :: us, []⟩ (Value.ref (h1.objs.size + 1) :: us) _ _ (fun _ _ _ => False) (hr.make C us []) (I2.env0.make C us []) bind2 rv2 hsp
  refine wpAny_call (PySem.HandSPX.call_own F.excBase_ValueError (fun Y => PySem.HandSPX.refsVE_contains Y bm hve) (I1.kIn _ _ hcl) (PySem.W.looks_findIn I1.kIn iC) (fun self => PySem.W.bind_fn I1.kIn self tI) ulen (codeAny_mono init fun r s' hq => ?_))
  cases r with
  | error er => exact hx pins σ _ _ er s' I2 hq
  | ok fl =>
    cases fl with
    | ret u =>
      obtain ⟨v, H2, hos, hbare, hun, hok2, hrel, ev, d, fs, ea, ed, free2, q⟩ := hq
      subst ev
      obtain ⟨h2, g2, d2, tk2, os2⟩ := s'
      obtain ⟨t0, G, J, kG, gone, hoe, nota⟩ := mk_end0 (d2 := d2) (t2 := tk2) I1 (Nat.le_succ _) older hun hok2 hos hbare ea ed free2
      refine ⟨hrel, h1.objs.size + 1, _, _, ⟨G, g2, d2, tk2, os2⟩, _, .ref C, some d, rfl, J, kG, gone, hoe, ⟨rfl, rfl, fun vs hv => ?_⟩, rfl, rfl, nota, rfl, hbare, raises_own T.exC T.tyC, q⟩
      cases hv
      rfl
    | next => exact hq.elim
    | brk => exact hq.elim
    | cont => exact hq.elim
def tMkS (C : Addr) (fs : List Str) (ok : List V → Hp → Prop) (ta : TA) : L2.St → Hp → XK → Prop := fun σ H Q => ta σ H fun vs H1 => vs.length = fs.length ∧ vs.length ≤ 1000 ∧ (∀ a, H1 a = none → ok vs (upd H1 a (exo a C none))) ∧
  ∀ d, H1 d = none → Q (.ref C) (some d) (upd H1 d (.xd (fs.zip vs).reverse))
theorem tMk_of {fs : List Str} {ok : List V → Hp → Prop} {σ : L2.St} {H : Hp} {Q : XK} (hm : ∀ {P Q : List V → Hp → Prop}, (∀ vs H, P vs H → Q vs H) → ∀ {σ H}, ta σ H P → ta σ H Q) (h : tMkS C fs ok ta σ H Q) : tMkO C (spInit C fs ok) [] ta σ H Q := by
  refine hm (fun vs H1 hq => ?_) h
  obtain ⟨h1, h2, h3, h4⟩ := hq
  refine ⟨h2, fun a na => ?_⟩
  rw [List.append_nil]
  refine ⟨a, vs, rfl, h1, upd_same, h3 a na, fun H2 dx same fx nx ea ed => ⟨rfl, dx, _, ea, ed, ?_, ?_⟩⟩
  · rw [← upd_ne (H := H1) (o := exo a C none) nx]
    exact fx
  · have e9 : upd (del H2 a) dx (.xd (fs.zip vs).reverse) = upd H1 dx (.xd (fs.zip vs).reverse) := by
      funext b
      by_cases hb : b = dx
      · rw [hb, upd_same, upd_same]
      · rw [upd_ne hb, upd_ne hb]
        by_cases hb2 : b = a
        · rw [hb2, del_same, na]
        · rw [del_ne hb2, same b hb2 hb, upd_ne hb2]
    rw [e9]
    refine h4 dx ?_
    rw [← upd_ne (H := H1) (o := exo a C none) nx]
    exact fx
end
end Own
set_option maxHeartbeats 2000000
namespace Own
open PySem PySem.Spec PyProof.Rows L2 HT NdefX
def clsAt (s : Stmt) (j : Nat) : Stmt := match s with
  | .ClassDef _ _ _ b _ _ _ _ _ _ _ => b.getD j (.Pass ⟨0, 0, 0, 0⟩)
  | _ => .Pass ⟨0, 0, 0, 0⟩
section
variable {P : Program} {w : World} {K : PySem.W.Frag} {mg : Str → Option Value} {base : Heap} {x qual : Str} {st : Stmt} {f : Addr} {fd : FuncData} {N ps : List Str} {k : Nat} {sp : Sp}
theorem _root_.L2.Fun.okN (F : Fun K x qual st f fd) (S : FnScope N ps (defScope st)) (len : ∀ vs H Q E, sp vs H Q E → vs.length = ps.length)
    (hb : ∀ (cdv : Value) (A : Around) (outer : List Env) (s : Shared) (H : Hp) (vs : List V) (Q : VK) (E : XK), Room k (A.deeper (envOfC qual (defScope st) s.heap.objs.size f cdv)) → sp vs H Q E →
      ∃ t, PSs (cxOf (L2N.CX P w) P w K mg base N qual (defScope st) f cdv A outer s H E) (defBody st) t ∧ t { nx := fun _ H' => Q .non H', rt := Q } (start N vs) H) : FnOk P w K mg base (L2N.CX P w) (k + 1) f fd ps sp := by
  obtain ⟨oc, od, kV, doc, pm, an, cdv, ct, osl, rfl, l, c⟩ := F.ex
  exact fn_of l c S len fun A outer s H vs Q E r q => hb cdv A outer s H vs Q E r q
end
theorem takesN0 {X : Cx} : L2N.Takes X (fun _ _ _ _ => False) := fun _ _ x => by
  obtain ⟨_, _, _, _, _, _, _, _, _, _, _, _, _, _, _, _, z⟩ := x
  exact z.elim
section
variable {X : Cx} {CX : CXT} {x : Str} {e : Expr} {es : List Expr} {ta : TA} {p pos pos2 : Pos} {C fI : Addr} {k : Nat} {fd : FuncData} {ps : List Str} {fs : List Str} {ok : List V → Hp → Prop} {W : WX}
theorem ps_raiseS (hc : X.calm = true) (tk : L2N.Takes X W) (T : OexC X.K C) (iC : PySem.W.findIn X.K (.ref C) "__init__" = some (some (.ref fI))) (tI : PySem.W.typeIn X.K (.ref fI) = some (.type "function"))
    (F1 : FnOk X.prog X.w X.K X.mg X.base CX k fI fd ps (spInit C fs ok)) (hr : Room (k + 1) X.A) (hb : Binds X.K fd ps []) (hx : Passes CX X (fun _ _ _ => False)) (hg : Gl X x) (hm : X.mg x = some (.ref C)) (ha : PA X (e :: es) ta)
    (mono : ∀ {P Q : List V → Hp → Prop}, (∀ vs H, P vs H → Q vs H) → ∀ {σ H}, ta σ H P → ta σ H Q)
    (hdb : (x == ("__debug__" : Str)) = false := by decide) (he : starEach (e :: es) X.env = (false, eval e X.env) :: starEach es X.env := by rfl) (hpl : (backTo pos (starEach es X.env)).any (·.1) = false := by rfl) :
    PS X (.Raise (some (.Call (.Name x p) (e :: es) [] pos)) none pos2) (fun _ σ H => tMkS C fs ok ta σ H fun cls d H' => W cls d σ H') := by
  have m := pmkN_sup (p := p) (pos := pos) T iC tI F1 hr hb hx hg hm ha hdb he hpl
  exact L2N.ps_raise (t := tMkS C fs ok ta) hc tk fun pins s σ H Q I h => m pins s σ H Q I (tMk_of mono h)
end
structure ErrC (K : PySem.W.Frag) (C : Addr) : Prop where
  ga : PySem.W.findIn K (.ref C) "__getattribute__" = some (some (.builtin "BaseException.__getattribute__"))
  gg : PySem.W.findIn K (.ref C) "__getattr__" = some none
  exC : PySem.W.subIn K (.ref C) (.type "BaseException") = some true
  hdC : PySem.W.hasDictIn K C = true
  ic : PySem.W.isClsIn K C = true
  ca : PySem.W.findIn K (.ref C) "__class__" = some (some (.builtin "object.__class__"))
  cn : PySem.W.specialIn K (.builtin "object.__class__") "__get__" = some (some (.builtin "getset_descriptor.__get__"))
  ct : PySem.W.takesIn K (.builtin "object.__class__") = some true
  mo : PySem.W.mroIn K C (.type "object") = some true
theorem ErrC.xf {K : PySem.W.Frag} {C : Addr} (T : ErrC K C) : XfC K C := ⟨T.ga, T.gg, T.exC, T.hdC⟩
theorem exm_self {K : PySem.W.Frag} {C : Addr} (h1 : PySem.W.subIn K (.ref C) (.type "BaseException") = some true) (h2 : PySem.W.isClsIn K C = true) (h3 : PySem.W.typeIn K (.ref C) = some (.type "type")) {cls : Value} {b : Bool} (h4 : PySem.W.subIn K cls (.ref C) = some b) : PySem.W.exmOne K cls (.ref C) = some b := by
  have e1 : (PySem.W.subIn K (.ref C) (.type "BaseException") == some true) = true := by rw [h1] <;> rfl
  have e2 : ((PySem.W.clsIn K C).isSome && PySem.W.typeIn K (.ref C) == some (.type "type")) = true := by
    have h5 : (PySem.W.clsIn K C).isSome = true := h2
    rw [h5, h3] <;> rfl
  show (if (PySem.W.subIn K (.ref C) (.type "BaseException") == some true) = true then (if ((PySem.W.clsIn K C).isSome && PySem.W.typeIn K (.ref C) == some (.type "type")) = true then PySem.W.subIn K cls (.ref C) else none) else none) = some b
  rw [if_pos e1, if_pos e2]
  exact h4
end Own
namespace Own
open PySem PySem.Spec PyProof.Rows L2 HT
theorem monoS {x : Str} {P Q : List V → Hp → Prop} (hm : ∀ vs H, P vs H → Q vs H) {σ : L2.St} {H : Hp} (h : tCons (tC (.str x)) tNil σ H P) : tCons (tC (.str x)) tNil σ H Q := hm _ _ h
end Own
namespace Own
open PySem PySem.Spec PyProof.Rows L2 HT
def Ter.step (n : Int) : Ter → Option Ter
  | .var _ => none
  | .ap _ as => if 1 ≤ n then as[(n - 1).toNat]? else none
def Ter.at : Ter → List Int → Option Ter
  | t, [] => some t
  | t, n :: r => (t.step n).bind fun u => u.at r
def Ter.put : Ter → Ter → List Int → Ter
  | _, s, [] => s
  | .var k, _, _ :: _ => .var k
  | .ap f as, s, n :: r => .ap f (as.modify (n - 1).toNat fun a => a.put s r)
theorem step_eq (f : Str) (as : List Ter) (n : Int) : (Ter.ap f as).step n = if 1 ≤ n then as[(n - 1).toNat]? else none := rfl
theorem step_ap {f : Str} {as : List Ter} {n : Int} {u : Ter} (h : (Ter.ap f as).step n = some u) : 1 ≤ n ∧ as[(n - 1).toNat]? = some u := by
  rw [step_eq] at h
  by_cases c : 1 ≤ n
  · rw [if_pos c] at h
    exact ⟨c, h⟩
  · rw [if_neg c] at h
    cases h
abbrev Row := List Int × Ter
def anyKey (_ : Key) : Prop := True
theorem at_wf {W : Str → Nat → Prop} {U : Key → Prop} : ∀ (ns : List Int) (t u : Ter), t.wf W U → t.at ns = some u → u.wf W U ∧ u.size ≤ t.size ∧ u.nest + ns.length ≤ t.nest
  | [], t, u, h, e => by
    cases (show some t = some u from e)
    exact ⟨h, Nat.le_refl _, Nat.le_refl _⟩
  | n :: r, .var k, u, h, e => by cases e
  | n :: r, .ap f as, u, h, e => by
    cases e2 : (Ter.ap f as).step n with
    | none => rw [show (Ter.ap f as).at (n :: r) = ((Ter.ap f as).step n).bind fun u => u.at r from rfl, e2] at e; cases e
    | some a =>
      have e : a.at r = some u := by rw [show (Ter.ap f as).at (n :: r) = ((Ter.ap f as).step n).bind fun u => u.at r from rfl, e2] at e; exact e
      obtain ⟨h1, h2⟩ := step_ap e2
      have hm := wfs_get h.2 h2
      obtain ⟨k1, k2, k3⟩ := at_wf r a u hm e
      have s1 := size_le_of h2
      have n1 := nest_le_of h2
      refine ⟨k1, ?_, ?_⟩
      · show _ ≤ Ter.sizes as + 1
        omega
      · show u.nest + (r.length + 1) ≤ Ter.nests as + 1
        omega
inductive RowAt (H : Hp) : V → Row → Prop
  | mk {r b : Addr} {x : V} {p : List Int} {u : Ter} : H r = some (.tup [.ref b, x]) → H b = some (.tup (p.map V.int)) → TmAt H x u → RowAt H (.ref r) (p, u)
inductive RowAll (H : Hp) : List V → List Row → Prop
  | nil : RowAll H [] []
  | cons {v : V} {p : Row} {vs : List V} {ps : List Row} : RowAt H v p → RowAll H vs ps → RowAll H (v :: vs) (p :: ps)
theorem RowAt.mono {H H' : Hp} (m : Tups H H') {v : V} {p : Row} (h : RowAt H v p) : RowAt H' v p := by
  cases h with
  | mk e1 e2 e3 => exact .mk (m _ _ e1) (m _ _ e2) (TmAt.mono m _ _ e3)
theorem RowAll.mono {H H' : Hp} (m : Tups H H') : ∀ {vs : List V} {ps : List Row}, RowAll H vs ps → RowAll H' vs ps
  | _, _, .nil => .nil
  | _, _, .cons a r => .cons (a.mono m) (r.mono m)
theorem RowAll.len {H : Hp} : ∀ {vs : List V} {ps : List Row}, RowAll H vs ps → vs.length = ps.length
  | _, _, .nil => rfl
  | _, _, .cons _ r => congrArg (· + 1) r.len
theorem RowAll.app {H : Hp} : ∀ {vs ws : List V} {ps qs : List Row}, RowAll H vs ps → RowAll H ws qs → RowAll H (vs ++ ws) (ps ++ qs)
  | _, _, _, _, .nil, b => b
  | _, _, _, _, .cons a r, b => .cons a (r.app b)
theorem RowAll.get {H : Hp} : ∀ {vs : List V} {ps : List Row} {i : Nat} {v : V}, RowAll H vs ps → vs[i]? = some v → ∃ p, ps[i]? = some p ∧ RowAt H v p
  | _, _, _, _, .nil, h => by cases h
  | _, _, 0, _, .cons a r, h => by
    cases (show some _ = some _ from h)
    exact ⟨_, rfl, a⟩
  | _, _, i + 1, _, .cons a r, h => r.get (i := i) h
end Own
namespace Own
open PySem PySem.Spec PyProof.Rows L2 HT
theorem cut_take (xs : List V) (i : Nat) (h : i ≤ xs.length) : cutV xs none (some (i : Int)) = xs.take i := by
  unfold cutV
  rw [HT.sIx_nat, HT.sIx_none, Nat.min_eq_left h]
  simp
theorem TmAll.take {H : Hp} : ∀ {vs : List V} {ts : List Ter} (i : Nat), TmAll H vs ts → TmAll H (vs.take i) (ts.take i)
  | _, _, 0, _ => .nil
  | _, _, i + 1, .nil => .nil
  | _, _, i + 1, .cons a r => .cons a (r.take i)
theorem TmAll.drop {H : Hp} : ∀ {vs : List V} {ts : List Ter} (i : Nat), TmAll H vs ts → TmAll H (vs.drop i) (ts.drop i)
  | _, _, 0, h => h
  | _, _, i + 1, .nil => .nil
  | _, _, i + 1, .cons a r => r.drop i
end Own
namespace Own
open PySem PySem.Spec PyProof.Rows L2 HT
end Own
namespace Own
open PySem PySem.Spec PyProof.Rows L2 HT
end Own
namespace Own
open PySem PySem.Spec PyProof.Rows L2 HT
inductive PosAt (H : Hp) : V → List Int → Prop
  | mk {b : Addr} {p : List Int} : H b = some (.tup (p.map V.int)) → PosAt H (.ref b) p
inductive PosAll (H : Hp) : List V → List (List Int) → Prop
  | nil : PosAll H [] []
  | cons {v : V} {p : List Int} {vs : List V} {ps : List (List Int)} : PosAt H v p → PosAll H vs ps → PosAll H (v :: vs) (p :: ps)
theorem PosAt.mono {H H' : Hp} (m : Tups H H') {v : V} {p : List Int} (h : PosAt H v p) : PosAt H' v p := by
  cases h with
  | mk e => exact .mk (m _ _ e)
theorem PosAll.mono {H H' : Hp} (m : Tups H H') : ∀ {vs : List V} {ps : List (List Int)}, PosAll H vs ps → PosAll H' vs ps
  | _, _, .nil => .nil
  | _, _, .cons a r => .cons (a.mono m) (r.mono m)
theorem PosAll.len {H : Hp} : ∀ {vs : List V} {ps : List (List Int)}, PosAll H vs ps → vs.length = ps.length
  | _, _, .nil => rfl
  | _, _, .cons _ r => congrArg (· + 1) r.len
theorem PosAll.app {H : Hp} : ∀ {vs ws : List V} {ps qs : List (List Int)}, PosAll H vs ps → PosAll H ws qs → PosAll H (vs ++ ws) (ps ++ qs)
  | _, _, _, _, .nil, b => b
  | _, _, _, _, .cons a r, b => .cons a (r.app b)
theorem PosAll.get {H : Hp} : ∀ {vs : List V} {ps : List (List Int)} {i : Nat} {v : V}, PosAll H vs ps → vs[i]? = some v → ∃ p, ps[i]? = some p ∧ PosAt H v p
  | _, _, _, _, .nil, h => by cases h
  | _, _, 0, _, .cons a r, h => by
    cases (show some _ = some _ from h)
    exact ⟨_, rfl, a⟩
  | _, _, i + 1, _, .cons a r, h => r.get (i := i) h
theorem RowAll.last {H : Hp} : ∀ {vs : List V} {rs : List Row}, RowAll H vs rs → vs ≠ [] → ∃ vs' v rs' r, vs = vs' ++ [v] ∧ rs = rs' ++ [r] ∧ RowAll H vs' rs' ∧ RowAt H v r
  | _, _, .nil, h => absurd rfl h
  | _, _, .cons a .nil, _ => ⟨[], _, [], _, rfl, rfl, .nil, a⟩
  | _, _, .cons a (.cons b r), _ => by
    obtain ⟨vs', v, rs', x, e1, e2, h1, h2⟩ := RowAll.last (.cons b r) (by simp)
    exact ⟨_ :: vs', v, _ :: rs', x, by rw [e1]; rfl, by rw [e2]; rfl, .cons a h1, h2⟩
end Own
set_option maxHeartbeats 2000000
namespace Own
open PySem PySem.Spec PyProof.Rows L2 HT
theorem dc_it {J : It} {n : Nat} {G : Hp → Prop} {Y : Nat → Hp → V → Hp → Prop} (w : Walk J n G Y) {g : TG} {tt : TT} {tk tv : TE} {vs : List Nat} {τ : L2.St} {F1 : Hp} {D : Addr} {Qd : Hp → Prop} (Pv : Nat → Hp → Prop) (h0 : Pv 0 (upd F1 D (.dK []))) (hG : ∀ i F, i ≤ n → Pv i F → G F)
    (hs : ∀ i x F F2, i < n → Pv i F → Y i F x F2 → g x (wipe τ vs) F2 fun τ3 F3 => wipe τ3 vs = wipe τ vs ∧ tt τ3 F3 fun b F4 =>
      if b = true then tk τ3 F4 fun y F5 => tv τ3 F5 fun z F6 => ∃ kvs k, y = kV k ∧ F6 D = some (.dK kvs) ∧ kvs.length < sizeLine ∧ Pv (i + 1) (upd F6 D (.dK (putK kvs k z))) else Pv (i + 1) F4) (hd : ∀ F, Pv n F → Qd F) :
    ∃ W : Nat → Nat → Hp → Prop, (∃ m, W 0 m (upd F1 D (.dK []))) ∧ ∀ i m F, W i m F →
      (J.stop i F ∧ Qd F) ∨ (J.go i F ∧ ∃ Nx : Hp → Prop, (∀ F2, Nx F2 → ∃ m', m' < m ∧ W (i + 1) m' F2) ∧ ∀ x F2, J.yld i F x F2 → g x (wipe τ vs) F2 fun τ3 F3 => wipe τ3 vs = wipe τ vs ∧ tt τ3 F3 fun b F4 =>
        if b = true then tk τ3 F4 fun y F5 => tv τ3 F5 fun z F6 => ∃ kvs k, y = kV k ∧ F6 D = some (.dK kvs) ∧ kvs.length < sizeLine ∧ Nx (upd F6 D (.dK (putK kvs k z))) else Nx F4) := by
  refine ⟨fun i m F => m = n - i ∧ i ≤ n ∧ Pv i F, ⟨n, (Nat.sub_zero n).symm, Nat.zero_le _, h0⟩, ?_⟩
  rintro i m F ⟨rfl, le, pv⟩
  have gf := hG i F le pv
  rcases Nat.lt_or_eq_of_le le with lt | rfl
  · exact .inr ⟨w.goes i F lt gf, Pv (i + 1), fun F2 p2 => ⟨_, by omega, rfl, lt, p2⟩, fun x F2 y => hs i x F F2 lt pv (w.yields i F x F2 lt gf y)⟩
  · exact .inl ⟨w.stops F gf, hd F pv⟩
abbrev HdT := Value × Option Nat × (Addr → Value → Option Addr → TS)
def wHds (K : PySem.W.Frag) (Wout : WX) (D : Ends) : List HdT → WX
  | [] => Wout
  | (c, none, ts) :: r => fun cls d σ H => ∃ b, PySem.W.exmOne K cls c = some b ∧ (b = true → ∀ a, H a = none → ts a cls d D σ H) ∧ (b = false → wHds K Wout D r cls d σ H)
  | (c, some i, ts) :: r => fun cls d σ H => ∃ b, PySem.W.exmOne K cls c = some b ∧ (b = true → ∀ a, H a = none → ts a cls d { nx := fun τ G => D.nx (τ.set i none) G, rt := D.rt, bk := fun τ G => D.bk (τ.set i none) G, ct := fun τ G => D.ct (τ.set i none) G } (σ.set i (some (.ref a))) H) ∧
      (b = false → wHds K Wout D r cls d σ H)
inductive Hds (X : Cx) : List ExceptHandler → List HdT → Prop
  | nil : Hds X [] []
  | one {x : Str} {c : Value} {ts : Addr → Value → Option Addr → TS} {b₀ : Stmt} {suite : List Stmt} {np pp : Pos} {hds : List ExceptHandler} {l : List HdT} (hc : Names X x c)
      (hsu : ∀ (a : Addr) (oe : Obj) (cls : Value) (d : Option Addr) (pn : List (Addr × Obj)), L2N.Zn cls d oe → (∃ vs, oe.data = .fields vs) → PSs (X.suite a ((a, oe) :: pn)) (b₀ :: suite) (ts a cls d)) (r : Hds X hds l) :
      Hds X (.ExceptHandler (some (.Name x np)) none (b₀ :: suite) pp :: hds) ((c, none, ts) :: l)
  | as {x n : Str} {c : Value} {i : Nat} {ts : Addr → Value → Option Addr → TS} {b₀ : Stmt} {suite : List Stmt} {np pp : Pos} {hds : List ExceptHandler} {l : List HdT} (hi : X.N[i]? = some n) (hln : X.env.kindOf n = some .local) (hc : Names X x c)
      (hsu : ∀ (a : Addr) (oe : Obj) (cls : Value) (d : Option Addr) (pn : List (Addr × Obj)), L2N.Zn cls d oe → (∃ vs, oe.data = .fields vs) → PSs (X.suite a ((a, oe) :: pn)) (b₀ :: suite) (ts a cls d)) (r : Hds X hds l) :
      Hds X (.ExceptHandler (some (.Name x np)) (some n) (b₀ :: suite) pp :: hds) ((c, some i, ts) :: l)
section
variable {X : Cx} {body : List Stmt} {h₀ : ExceptHandler} {hds : List ExceptHandler} {l : List HdT} {pos : Pos} {tb : WX → TS} {Wout : WX}
theorem ps_try_hds (hs : X.stack = X.env :: X.outer) (hf : X.env.frame = some X.env.locals) (nd : X.N.Nodup) (tk : L2N.Takes X Wout)
    (hb : ∀ (W : WX) (pn : List (Addr × Obj)) (xe : Value → Shared → Prop), L2N.Takes (X.tr pn xe) W → PassesOwn (model X.prog X.w) X.A X.env xe → PSs (X.tr pn xe) body (tb W))
    (hh : Hds X (h₀ :: hds) l) : PS X (.Try body (h₀ :: hds) [] [] pos) (fun D σ H => tb (wHds X.K Wout D l) D σ H) := by
  refine ⟨fun pn t τ G D J h => ?_⟩
  have okJ := J.ok
  have frs0 : X.A.frames = some (X.env :: X.outer) := okJ.frames.trans (congrArg some hs)
  refine wpAny_Try_except ?_
  have run := (hb (wHds X.K Wout D l) (X.pn ++ pn) (fun e t1 => wpAny (model X.prog X.w) X.A (noteFrame e X.env) (fun _ t2 => wpAny (model X.prog X.w) X.A (setFlight e none) (fun _ t3 => wpAny (model X.prog X.w) X.A (handleBy e X.env (h₀ :: hds)) (SP X pn D) X.xe t3) X.xe t2) X.xe t1) (fun u t9 air => ?_) PassesOwn.looking).run [] t τ G D (J.toTry _) h
  · refine wpAny_mono run (fun fl t1 sp => ?_) (fun _ _ z => z)
    cases fl with
    | next => obtain ⟨τ2, G2, J2, q⟩ := sp; exact wpAny_execs_nil ⟨_, _, J2.ofTry okJ, q⟩
    | brk => obtain ⟨τ2, G2, J2, q⟩ := sp; exact ⟨_, _, J2.ofTry okJ, q⟩
    | cont => obtain ⟨τ2, G2, J2, q⟩ := sp; exact ⟨_, _, J2.ofTry okJ, q⟩
    | ret u => obtain ⟨v, τ2, G2, J2, r, q⟩ := sp; exact ⟨v, _, _, J2.ofTry okJ, r, q⟩
  -- caught
  obtain ⟨x, B, t5, pn5, τ5, G5, cls, d, rfl, K5, newB, up5, sky5, nx5, os5, ag5, wish⟩ := air
  have J5 : Inv X pn τ5 G5 t5 := K5.ofTry okJ
  rw [show (X.tr (X.pn ++ pn) _).stack = X.env :: X.outer from hs] at sky5
  show wpAny (model X.prog X.w) X.A (noteFrame (.ref x) X.env) _ _ _
  refine L2N.Sky.land L2N.Zn.steady frs0 hf sky5 fun hp6 land6 up6 => ?_
  have J6 : Inv X pn τ5 G5 { t9 with heap := hp6 } := J5.landed newB land6.1 (up5.trans up6) os5 ag5
  obtain ⟨o6, w6, at6, z6, f6⟩ := land6.there
  have apart : x ∉ frs (X.env :: X.outer) := fun m => by
    obtain ⟨_, o8, at8, n8⟩ := land6.2.2.1.mem m
    cases at6.symm.trans at8
    exact n8 _ f6
  have apL : x ≠ X.env.locals := fun z => apart (List.mem_filterMap.mpr ⟨X.env, List.mem_cons_self, hf.trans (congrArg some z.symm)⟩)
  have apF : x ∉ X.fs := fun m => by
    obtain ⟨e, me, q⟩ := List.mem_filterMap.mp m
    exact apart (List.mem_filterMap.mpr ⟨e, List.mem_cons_of_mem _ me, q⟩)
  have S6 := J6.suite at6 f6 nx5 apL apF
  have test : ∀ {y : Str} {c : Value} {np : Pos} {Q E : Value → Shared → Prop}, Names X y c → Q c { t9 with heap := hp6 } → wpAny (model X.prog X.w) (X.A.mark (some (.ref x))) (eval (.Name y np) X.env) Q E { t9 with heap := hp6 } := fun {y c np Q E} nm q => by
    rcases nm with ⟨n1, n2, n3 | ⟨n3, n4, n5⟩⟩
    · exact ld_glob (X := X.suite x ((x, o6) :: (X.pn ++ pn))) S6 n1 n3 q n2
    · exact ld_blt (X := X.suite x ((x, o6) :: (X.pn ++ pn))) S6 n1 n3 n4 q n5 n2
  have looks : PySem.W.Looks (model X.prog X.w) hp6 (typeOf (.ref x)) cls := fun A Q E s k q => wpAny_typeOf_ref (k _ _ at6) (z6.1.symm ▸ q)
  have go : ∀ {hs2 : List ExceptHandler} {l2 : List HdT}, Hds X hs2 l2 → wHds X.K Wout D l2 cls d τ5 G5 → wpAny (model X.prog X.w) X.A (handleBy (.ref x) X.env hs2) (SP X pn D) X.xe { t9 with heap := hp6 } := by
    intro hs2 l2 hk
    induction hk with
    | nil =>
      intro out
      refine wpAny_handleBy_nil ?_
      obtain ⟨_, _, _, o7, w7, T, oT, _, at7, _, f7, tb7, _⟩ := id land6
      unfold PySem.passOn
      refine wpAny_bind (wpAny_field at7 f7 tb7 ?_)
      rw [if_neg (show ¬ ((Value.ref T == Value.none) = true) from fun z => by simp at z)]
      have leave : wpAny (model X.prog X.w) X.A (setFlight (.ref x) X.env.frame) (fun _ t8 => wpAny (model X.prog X.w) X.A (throw (.ref x) : Sem Flow) (SP X pn D) X.xe t8) X.xe { t9 with heap := hp6 } := by
        rw [hf]
        refine HandSPX.setFlight_upZ land6 fun hp8 in8 up8 => wpAny_throw (tk _ _ ⟨x, B, t5, pn, τ5, G5, cls, d, rfl, J5, newB, (up5.trans up6).trans up8, .inr (.inr (hs.symm ▸ in8)), nx5, os5, ag5, out⟩)
      first | exact wpAny_bind (wpAny_pure (wpAny_bind leave)) | exact wpAny_bind leave
    | @one y c ts b₀ suite np pp hds3 l3 hc hsu r ih =>
      rintro ⟨b, hb1, yes, no⟩
      refine wpAny_handleBy_cons (codeAny_handlers_test ?_) (by intro z; cases z)
      refine test hc ((PySem.W.exm_one (M := model X.prog X.w) J6.kIn looks hb1).here ?_)
      cases b with
      | false =>
        show wpAny _ X.A (handleBy (.ref x) X.env hds3) _ _ _
        exact ih (no rfl)
      | true =>
        refine codeAny_handlers_suite (HandSPX.lands_againZ land6 fun hp8 land8 up8 => ?_)
        have J8 : Inv X pn τ5 G5 { t9 with heap := hp8 } := J5.landed newB land8.1 ((up5.trans up6).trans up8) os5 ag5
        obtain ⟨o8, w8, at8, z8, f8⟩ := land8.there
        refine wpAny_mono ((hsu x o8 cls d (X.pn ++ pn) z8 ⟨w8, f8⟩).run [] _ _ G5 _ (J8.suite at8 f8 nx5 apL apF) (yes rfl x nx5)) (fun fl t1 sp => ?_) (fun _ _ z => z.elim)
        cases fl with
        | next => obtain ⟨τ2, G2, S2, q⟩ := sp; exact ⟨_, _, S2.unsuite okJ, q⟩
        | brk => obtain ⟨τ2, G2, S2, q⟩ := sp; exact ⟨_, _, S2.unsuite okJ, q⟩
        | cont => obtain ⟨τ2, G2, S2, q⟩ := sp; exact ⟨_, _, S2.unsuite okJ, q⟩
        | ret u => obtain ⟨v2, τ2, G2, S2, r2, q⟩ := sp; exact ⟨_, _, _, S2.unsuite okJ, r2, q⟩
    | @as y n c i ts b₀ suite np pp hds3 l3 hi hln hc hsu r ih =>
      rintro ⟨b, hb1, yes, no⟩
      refine wpAny_handleBy_cons (codeAny_handlers_test ?_) (by intro z; cases z)
      refine test hc ((PySem.W.exm_one (M := model X.prog X.w) J6.kIn looks hb1).here ?_)
      cases b with
      | false =>
        show wpAny _ X.A (handleBy (.ref x) X.env hds3) _ _ _
        exact ih (no rfl)
      | true =>
        refine codeAny_handlers_suite_as (HandSPX.lands_againZ land6 fun hp8 land8 up8 => ?_)
        have J8 : Inv X pn τ5 G5 { t9 with heap := hp8 } := J5.landed newB land8.1 ((up5.trans up6).trans up8) os5 ag5
        obtain ⟨o8, w8, at8, z8, f8⟩ := land8.there
        refine store_ok (X := X.suite x ((x, o8) :: (X.pn ++ pn))) (v := .ref x) (J8.suite at8 f8 nx5 apL apF) nd hi (.inl hln) rfl (fun t7 S7 => ?_) (.inr hln)
        refine wpAny_mono ((hsu x o8 cls d (X.pn ++ pn) z8 ⟨w8, f8⟩).run [] t7 _ G5 _ S7 (yes rfl x nx5)) (fun fl t1 sp => ?_) (fun _ _ z => z.elim)
        have fin : ∀ {τ2 : L2.St} {G2 : Hp} {Q : Shared → Prop}, Inv (X.suite x ((x, o8) :: (X.pn ++ pn))) [] τ2 G2 t1 → (∀ t2, Inv X pn (τ2.set i none) G2 t2 → Q t2) → wpAny (model X.prog X.w) X.A (do bindName X.env n .none; unbindBehindTheSuite X.env n pp) (fun _ t2 => Q t2) X.xe t1 := fun S2 hq => gone_ok (S2.unsuite okJ) nd hi hln hq
        cases fl with
        | next => obtain ⟨τ2, G2, S2, q⟩ := sp; exact fin S2 fun t2 J2 => ⟨_, _, J2, q⟩
        | brk => obtain ⟨τ2, G2, S2, q⟩ := sp; exact fin S2 fun t2 J2 => ⟨_, _, J2, q⟩
        | cont => obtain ⟨τ2, G2, S2, q⟩ := sp; exact fin S2 fun t2 J2 => ⟨_, _, J2, q⟩
        | ret u => obtain ⟨v2, τ2, G2, S2, r2, q⟩ := sp; exact fin S2 fun t2 J2 => ⟨_, _, _, J2, r2, q⟩
  exact go hh wish
end
end Own
set_option maxHeartbeats 2000000
namespace Own
open PySem PySem.Spec PyProof.Rows L2 HT
abbrev Sb := List (Key × Ter)
def Sb.look : Sb → Key → Option Ter
  | [], _ => none
  | e :: r, k => if e.1 = k then some e.2 else Sb.look r k
def Sb.keys (θ : Sb) : List Key := θ.map (·.1)
mutual
def Ter.sub (θ : Sb) : Ter → Ter
  | .var k => (Sb.look θ k).getD (.var k)
  | .ap f as => .ap f (Ter.subs θ as)
def Ter.subs (θ : Sb) : List Ter → List Ter
  | [] => []
  | a :: r => a.sub θ :: Ter.subs θ r
end
theorem slook_mem : ∀ {θ : Sb} {k : Key} {t : Ter}, Sb.look θ k = some t → (k, t) ∈ θ
  | e :: r, k, t, h => by
    obtain ⟨a, b⟩ := e
    unfold Sb.look at h
    by_cases c : a = k
    · rw [if_pos c] at h
      cases h
      subst c
      exact List.mem_cons_self
    · rw [if_neg c] at h
      exact List.mem_cons_of_mem _ (slook_mem h)
theorem look_not : ∀ {θ : Sb} {k : Key}, Sb.look θ k = none → k ∉ Sb.keys θ
  | [], _, _ => fun z => by cases z
  | e :: r, k, h => by
    unfold Sb.look at h
    by_cases c : e.1 = k
    · rw [if_pos c] at h; cases h
    · rw [if_neg c] at h
      intro z
      rcases List.mem_cons.mp z with z | z
      · exact c z.symm
      · exact look_not h z
theorem look_key : ∀ {θ : Sb} {k : Key}, k ∉ Sb.keys θ → Sb.look θ k = none
  | [], _, _ => rfl
  | e :: r, k, h => by
    unfold Sb.look
    have h1 : ¬ e.1 = k := fun z => h (z ▸ List.mem_cons_self)
    rw [if_neg h1]
    exact look_key fun z => h (List.mem_cons_of_mem _ z)
theorem look_at : ∀ {θ : Sb} {k : Key} {t : Ter}, (Sb.keys θ).Nodup → (k, t) ∈ θ → Sb.look θ k = some t
  | e :: r, k, t, nd, h => by
    have nd : e.1 ∉ Sb.keys r ∧ (Sb.keys r).Nodup := List.nodup_cons.mp nd
    unfold Sb.look
    rcases List.mem_cons.mp h with rfl | h
    · exact if_pos rfl
    · have : ¬ e.1 = k := fun z => nd.1 (z ▸ List.mem_map_of_mem (f := fun e : Key × Ter => e.1) h)
      rw [if_neg this]
      exact look_at nd.2 h
inductive SubT (H : Hp) : List (Key × V) → Sb → Prop
  | nil : SubT H [] []
  | cons {k : Key} {v : V} {t : Ter} {kvs : List (Key × V)} {θ : Sb} : TmAt H v t → SubT H kvs θ → SubT H ((k, v) :: kvs) ((k, t) :: θ)
theorem SubT.mono {H H' : Hp} (m : Tups H H') : ∀ {kvs : List (Key × V)} {θ : Sb}, SubT H kvs θ → SubT H' kvs θ
  | _, _, .nil => .nil
  | _, _, .cons a r => .cons (TmAt.mono m _ _ a) (r.mono m)
theorem SubT.len {H : Hp} : ∀ {kvs : List (Key × V)} {θ : Sb}, SubT H kvs θ → kvs.length = θ.length
  | _, _, .nil => rfl
  | _, _, .cons _ r => congrArg (· + 1) r.len
theorem SubT.keys {H : Hp} : ∀ {kvs : List (Key × V)} {θ : Sb}, SubT H kvs θ → kvs.map (·.1) = Sb.keys θ
  | _, _, .nil => rfl
  | _, _, .cons (k := k) _ r => congrArg (k :: ·) r.keys
theorem SubT.app {H : Hp} : ∀ {kvs ls : List (Key × V)} {θ η : Sb}, SubT H kvs θ → SubT H ls η → SubT H (kvs ++ ls) (θ ++ η)
  | _, _, _, _, .nil, h => h
  | _, _, _, _, .cons a r, h => .cons a (r.app h)
theorem SubT.get {H : Hp} : ∀ {kvs : List (Key × V)} {θ : Sb} {i : Nat} {k : Key} {v : V}, SubT H kvs θ → kvs[i]? = some (k, v) → ∃ t, θ[i]? = some (k, t) ∧ TmAt H v t
  | _, _, _, _, _, .nil, e => by simp at e
  | _, _, 0, _, _, .cons a r, e => by
    simp at e
    obtain ⟨e1, e2⟩ := e
    subst e1
    subst e2
    exact ⟨_, rfl, a⟩
  | _, _, i + 1, k, v, .cons a r, e => by
    obtain ⟨t, h1, h2⟩ := SubT.get (i := i) (k := k) (v := v) r (by simpa using e)
    exact ⟨t, by simpa using h1, h2⟩
theorem SubT.look {H : Hp} : ∀ {kvs : List (Key × V)} {θ : Sb}, SubT H kvs θ → ∀ k : Key, (valV kvs k = none ∧ Sb.look θ k = none) ∨ ∃ v t, valV kvs k = some v ∧ Sb.look θ k = some t ∧ TmAt H v t
  | _, _, .nil, _ => .inl ⟨rfl, rfl⟩
  | _, _, .cons (k := j) (v := v) (t := t) (kvs := kvs) (θ := θ) a r, k => by
    by_cases c : j = k
    · exact .inr ⟨v, t, valV_pos c, if_pos c, a⟩
    · have e1 : valV ((j, v) :: kvs) k = valV kvs k := valV_neg c
      have e2 : Sb.look ((j, t) :: θ) k = Sb.look θ k := if_neg c
      rw [e1, e2]
      exact r.look k
theorem SubT.put {H : Hp} {kvs : List (Key × V)} {θ : Sb} (h : SubT H kvs θ) {k : Key} {v : V} {t : Ter} (n : k ∉ Sb.keys θ) (ht : TmAt H v t) : SubT H (putK kvs k v) (θ ++ [(k, t)]) := by
  rcases h.look k with ⟨e, _⟩ | ⟨_, _, _, e, _⟩
  · rw [putK_new v e]
    exact h.app (.cons ht .nil)
  · rw [look_key n] at e
    cases e
structure SbOk (θ : Sb) (N : Nat) : Prop where
  nd : (Sb.keys θ).Nodup
  num : ∀ e ∈ θ, ∃ i : Int, e.1 = .inl i ∧ 0 ≤ i
  wf : ∀ e ∈ θ, e.2.wf s7 numVar
  ne : ∀ e ∈ θ, e.2.nest ≤ N
theorem SbOk.nil {N : Nat} : SbOk [] N := ⟨List.nodup_nil, (fun _ z => by cases z), (fun _ z => by cases z), (fun _ z => by cases z)⟩
def Ter.dbl : Nat → Ter
  | 0 => .ap "a" []
  | n + 1 => .ap "g" [Ter.dbl n, Ter.dbl n]
end Own
set_option maxHeartbeats 2000000
namespace Own
open PySem PySem.Spec PyProof.Rows L2 HT
theorem but_fresh {a p : Addr} {H H2 : Hp} {o : HO} (b : But a H H2) (np : H p = none) : But a H (upd H2 p o) := fun c x n e => by
  rw [upd_ne (ne_of_none e np)]
  exact b c x n e
theorem same_fresh {p : Addr} {H H2 : Hp} {o : HO} (s : Same H H2) (np : H p = none) : Same H (upd H2 p o) := fun c x e => by
  rw [upd_ne (ne_of_none e np)]
  exact s c x e
theorem DGet.frz {H : Hp} {a : Addr} {od : Obj} {kvs : List (Key × V)} {k : Key} {v : V} (e : H a = some (.frz od (.dK kvs))) (h : valV kvs k = some v) : DGet H a (kV k) (some v) := .inl ⟨kvs, k, .inr ⟨od, e⟩, rfl, h.symm⟩
theorem DGet.of {H : Hp} {a : Addr} {kvs : List (Key × V)} {k : Key} {v : V} (e : H a = some (.dK kvs)) (h : valV kvs k = some v) : DGet H a (kV k) (some v) := .inl ⟨kvs, k, .inl e, rfl, h.symm⟩
theorem sb_look {U : Sb} {i : Nat} {k : Key} {t : Ter} (nd : (Sb.keys U).Nodup) (h : U[i]? = some (k, t)) : Sb.look U k = some t := look_at nd (List.mem_of_getElem? h)
theorem SubT.val {H : Hp} {kvs : List (Key × V)} {θ : Sb} (h : SubT H kvs θ) (nd : (Sb.keys θ).Nodup) {i : Nat} {k : Key} {v : V} (e : kvs[i]? = some (k, v)) : valV kvs k = some v := val_of_mem (e := (k, v)) (by rw [h.keys]; exact nd) (List.mem_of_getElem? e)
theorem s7_fine {t : Ter} (h : t.wf s7 numVar) : t.wf symFine keyFine := wf_mono (fun _ _ h => h.1.2) (fun k h => by
  obtain ⟨r, rfl, _⟩ := h
  exact trivial) t h
theorem shaped7 {t : Ter} (h : t.wf s7 numVar) (n : t.nest ≤ 64) : SeqAt.shaped t.dat = true := shaped_ter (s7_fine h) n
theorem SubT.same {K : PySem.W.Frag} {H : Hp} {ks ls : List (Key × V)} {θ : Sb} {N : Nat} (h : SubT H ks θ) (g : SubT H ls θ) (o : SbOk θ N) (hN : N ≤ 64) : ks.length = ls.length ∧ ∀ p ∈ ks, ∃ u d, valV ls p.1 = some u ∧ Dp K H p.2 d ∧ Dp K H u d ∧ SeqAt.shaped d = true ∧ PyData.eqv d d = true := by
  refine ⟨h.len.trans g.len.symm, fun p hp => ?_⟩
  obtain ⟨i, hi⟩ := List.getElem?_of_mem hp
  obtain ⟨k, v⟩ := p
  obtain ⟨t, h1, h2⟩ := h.get hi
  have hm := List.mem_of_getElem? h1
  rcases g.look k with ⟨_, e2⟩ | ⟨u, t2, e1, e2, hu⟩
  · rw [sb_look o.nd h1] at e2
    cases e2
  · rw [sb_look o.nd h1] at e2
    cases e2
    exact ⟨u, t.dat, e1, dp_ter t v h2, dp_ter t u hu, shaped7 (o.wf (k, t) hm) (Nat.le_trans (o.ne (k, t) hm) hN), ter_refl t⟩
end Own
set_option maxHeartbeats 2000000
namespace Own
open PySem PySem.Spec PyProof.Rows L2 HT
def tDispT (tk tv : TE) : TE := fun σ H Q => ∀ p, H p = none → tPairs [(tk, tv)] σ (upd H p (.dT [])) fun ps H2 => H2 p = some (.dT []) ∧ ∃ (k : List Key) (b : Addr) (y : V), ps = [(.ref b, y)] ∧ H2 b = some (.tup (k.map kV)) ∧ Q (.ref p) (upd H2 p (.dT [(k, y)]))
theorem pe_dispT {X : Cx} {k v : Expr} {tk tv : TE} {pos : Pos} (hu : X.A.units + 1 < cLine) (hk : PE X k tk) (hv : PE X v tv) : PE X (.Dict [some k] [v] pos) (tDispT tk tv) := by
  refine ⟨fun pn t τ G Q J h => ?_⟩
  have fresh := J.hok.fresh (Nat.le_refl t.heap.objs.size)
  have J1 := J.laid (a := t.heap.objs.size) (o := .dT []) (h' := t.heap.push { cls := .type "dict", data := .dict #[] }) (t' := t.toks) (fun _ _ q => Heap.get?_push_of_some _ q) (Nat.le_refl _) (dt_empty t.heap J.big)
  have run := (pps_cons hk hv (pps_nil (pos := pos))).run pn _ τ _ _ J1 (h _ fresh)
  refine wpAny_Dict_any rfl rfl (by simp) (by simp) (wpAny_mono run (fun ws t2 hq => ?_) (fun _ _ z => z))
  obtain ⟨ps, G2, J2, rel, e, kk, b, y, rfl, eb, q⟩ := hq
  cases rel with
  | @cons _ w1 _ _ hw tl =>
    cases tl
    obtain ⟨w2, w3⟩ := w1
    obtain ⟨r1, r2⟩ := hw
    cases (show w2 = Value.ref b from r1)
    obtain ⟨z, hd, xs, rk, dd⟩ := dt_of J2.hok e
    cases rk
    unfold storeAll
    rw [List.forIn_cons]
    refine wpAny_bind (wpAny_bind (wpAny_dictSet_heap (hsz := Nat.zero_le _) (knd := tupleKind (mixKind X.prog X.w)) (show X.A.units < cLine by omega) (key_of J2.hok eb) dd fun hp3 dd3 sb3 => wpAny_pure ?_))
    dsimp only
    rw [List.forIn_nil]
    refine wpAny_pure ?_
    obtain ⟨o3, es3, ep3, g1, g2, g3, g4, _, g5⟩ := dd3
    have new : ObjOk X.prog X.w (upd G2 t.heap.objs.size (.dT [(kk, y)])) hp3 t.heap.objs.size (.dT [(kk, y)]) := by
      refine ⟨by show 1 ≤ sizeLine; decide, hd, _, (KT.put (kvs := []) (xs := []) .nil kk eb r2).keeps fun c ys ec => ?_, o3, es3, ep3, g1, g2, g3, g4, g5⟩
      rw [upd_ne (ne_of ec e (fun z => nomatch z))]
      exact ec
    exact ⟨.ref t.heap.objs.size, _, d_write J2 (by rw [e]; exact True.intro) sb3 ⟨o3, g1⟩ new, rfl, q⟩
end Own
set_option maxHeartbeats 2000000
namespace Own
open PySem PySem.Spec PyProof.Rows L2 HT
def sym20 (f : Str) (n : Nat) : Prop := (f = "a" ∧ n = 0) ∨ (f = "b" ∧ n = 0) ∨ (f = "f" ∧ n = 1) ∨ (f = "g" ∧ n = 2)
def nam20 (NM : List Str) (k : Key) : Prop := ∃ x, k = .inr x ∧ x ∈ NM
def atom20 (NM : List Str) (l r : Ter) : Prop := (l.wf sym20 (nam20 NM) ∧ r.wf sym20 (nam20 NM)) ∨ ∃ f as, l = .ap f as ∧ ((f = ("p" : Str) ∧ as.length = 1) ∨ (f = ("q" : Str) ∧ as.length = 2) ∨ (f = ("r" : Str) ∧ as.length = 0)) ∧ Ter.wfs sym20 (nam20 NM) as ∧ r = .ap "true" []
def FnsAt {α : Type} (H : Hp) (F : Addr) (emb : α → V) (d : α) (fn : Str → List Int → α) : Prop := ∃ kvs : List (Key × V), H F = some (.dK kvs) ∧ ∀ (f : Str) (vs : List Int), (valV kvs (.inr f) = none ∧ fn f vs = d) ∨
  ∃ (q : Addr) (rows : List (List Key × V)), valV kvs (.inr f) = some (.ref q) ∧ H q = some (.dT rows) ∧ ((valV rows (vs.map Sum.inl) = none ∧ fn f vs = d) ∨ valV rows (vs.map Sum.inl) = some (emb (fn f vs)))
theorem FnsAt.same {α : Type} {H H' : Hp} {F : Addr} {emb : α → V} {d : α} {fn : Str → List Int → α} (h : FnsAt H F emb d fn) (s : Same H H') : FnsAt H' F emb d fn := by
  obtain ⟨kvs, e, al⟩ := h
  refine ⟨kvs, s _ _ e, fun f vs => ?_⟩
  rcases al f vs with h | ⟨q, rows, h1, h2, h3⟩
  · exact .inl h
  · exact .inr ⟨q, rows, h1, s _ _ h2, h3⟩
theorem valV_mem {κ : Type} [DecidableEq κ] {kvs : List (κ × V)} {k : κ} {v : V} (h : valV kvs k = some v) : ∃ e ∈ kvs, e.2 = v := by
  unfold valV at h
  cases q : kvs.find? fun kv => decide (kv.1 = k) with
  | none => rw [q] at h; cases h
  | some p =>
    rw [q] at h
    exact ⟨p, List.mem_of_find?_eq_some q, Option.some.inj h⟩
def AllT {α : Type} (H : Hp) (q : Addr) (emb : α → V) (n : Nat) : Prop := ∃ rows : List (List Key × V), H q = some (.dT rows) ∧ rows.length ≤ n ∧ ∀ e ∈ rows, ∃ x, e.2 = emb x
theorem fns_mk {α : Type} {H : Hp} {F : Addr} {emb : α → V} (d : α) {kvs : List (Key × V)} (e : H F = some (.dK kvs)) (h : ∀ x ∈ kvs, ∃ q n, x.2 = .ref q ∧ AllT H q emb n) : ∃ fn : Str → List Int → α, FnsAt H F emb d fn := by
  have P : ∀ (f : Str) (vs : List Int), ∃ y : α, (valV kvs (.inr f) = none ∧ y = d) ∨
      ∃ (q : Addr) (rows : List (List Key × V)), valV kvs (.inr f) = some (.ref q) ∧ H q = some (.dT rows) ∧ ((valV rows (vs.map Sum.inl) = none ∧ y = d) ∨ valV rows (vs.map Sum.inl) = some (emb y)) := fun f vs => by
    cases c : valV kvs (.inr f) with
    | none => exact ⟨d, .inl ⟨rfl, rfl⟩⟩
    | some v =>
      obtain ⟨x, hx, rfl⟩ := valV_mem c
      obtain ⟨q, n, e1, rows, e2, _, e3⟩ := h x hx
      cases c2 : valV rows (vs.map Sum.inl) with
      | none => exact ⟨d, .inr ⟨q, rows, by rw [e1], e2, .inl ⟨c2, rfl⟩⟩⟩
      | some u =>
        obtain ⟨y, hy, rfl⟩ := valV_mem c2
        obtain ⟨z, hz⟩ := e3 y hy
        exact ⟨z, .inr ⟨q, rows, by rw [e1], e2, .inr (by rw [c2, hz])⟩⟩
  exact ⟨fun f vs => Classical.choose (P f vs), kvs, e, fun f vs => Classical.choose_spec (P f vs)⟩
theorem AllT.put {α : Type} {H : Hp} {q : Addr} {emb : α → V} {n : Nat} (h : AllT H q emb n) (k : List Key) (x : α) : ∃ rows, H q = some (.dT rows) ∧ rows.length ≤ n ∧ AllT (L2.upd H q (.dT (putK rows k (emb x)))) q emb (n + 1) := by
  obtain ⟨rows, e, l, al⟩ := h
  refine ⟨rows, e, l, putK rows k (emb x), upd_same, ?_, fun e he => ?_⟩
  · unfold putK
    split
    · rw [List.length_map]; omega
    · rw [List.length_append, List.length_singleton]; omega
  · unfold putK at he
    split at he
    · obtain ⟨p, hp, rfl⟩ := List.mem_map.mp he
      by_cases c : p.1 = k
      · rw [if_pos c]; exact ⟨x, rfl⟩
      · rw [if_neg c]; exact al p hp
    · rcases List.mem_append.mp he with he | he
      · exact al e he
      · rw [List.mem_singleton.mp he]; exact ⟨x, rfl⟩
structure Mdl where
  sz : Nat
  fn : Str → List Int → Int
  pr : Str → List Int → Bool
mutual
def Ter.val (M : Mdl) (ρ : Str → Int) : Ter → Int
  | .var (.inl _) => 0
  | .var (.inr x) => ρ x
  | .ap f as => M.fn f (Ter.vals M ρ as)
def Ter.vals (M : Mdl) (ρ : Str → Int) : List Ter → List Int
  | [] => []
  | a :: r => a.val M ρ :: Ter.vals M ρ r
end
theorem vals_app (M : Mdl) (ρ : Str → Int) : ∀ as bs : List Ter, Ter.vals M ρ (as ++ bs) = Ter.vals M ρ as ++ Ter.vals M ρ bs
  | [], _ => rfl
  | a :: r, bs => congrArg (a.val M ρ :: ·) (vals_app M ρ r bs)
theorem vals_len (M : Mdl) (ρ : Str → Int) : ∀ as : List Ter, (Ter.vals M ρ as).length = as.length
  | [] => rfl
  | a :: r => congrArg (· + 1) (vals_len M ρ r)
def isTr : Ter → Bool
  | .ap f as => f == "true" && as.isEmpty
  | .var _ => false
def eqHolds (M : Mdl) (ρ : Str → Int) (l r : Ter) : Bool := if isTr r = true then (match l with | .ap f as => M.pr f (Ter.vals M ρ as) | .var _ => false) else decide (l.val M ρ = r.val M ρ)
def wider (ρ : Str → Int) (x : Str) (i : Int) : Str → Int := fun y => if y = x then i else ρ y
def Op.fn : Op → Bool → Bool → Bool
  | .and, a, b => a && b
  | .or, a, b => a || b
  | .imp, a, b => b || !a
  | .iff, a, b => a == b
def Fm.truth (M : Mdl) : (Str → Int) → Fm → Bool
  | _, .tt b => b
  | ρ, .eq l r => eqHolds M ρ l r
  | ρ, .neg f => !f.truth M ρ
  | ρ, .bin o f g => o.fn (f.truth M ρ) (g.truth M ρ)
  | ρ, .qu true x f => (List.range M.sz).all fun i => f.truth M (wider ρ x i)
  | ρ, .qu false x f => (List.range M.sz).any fun i => f.truth M (wider ρ x i)
def Fm.nf : Fm → Bool → Fm
  | .tt b, n => .tt (b != n)
  | .eq l r, n => if n = true then .neg (.eq l r) else .eq l r
  | .neg f, n => f.nf (!n)
  | .bin .and f g, n => .bin (if n = true then .or else .and) (f.nf n) (g.nf n)
  | .bin .or f g, n => .bin (if n = true then .and else .or) (f.nf n) (g.nf n)
  | .bin .imp f g, n => .bin (if n = true then .and else .or) (f.nf (!n)) (g.nf n)
  | .bin .iff f g, n => if n = true then .bin .and (.bin .or (f.nf false) (g.nf false)) (.bin .or (f.nf true) (g.nf true)) else .bin .and (.bin .or (f.nf true) (g.nf false)) (.bin .or (g.nf true) (f.nf false))
  | .qu a x f, n => .qu (a != n) x (f.nf n)
def Fm.sz : Fm → Nat × Nat
  | .tt _ => (1, 1)
  | .eq _ _ => (1, 2)
  | .neg f => (f.sz.2, f.sz.1)
  | .bin .and f g => (1 + f.sz.1 + g.sz.1, 1 + f.sz.2 + g.sz.2)
  | .bin .or f g => (1 + f.sz.1 + g.sz.1, 1 + f.sz.2 + g.sz.2)
  | .bin .imp f g => (1 + f.sz.2 + g.sz.1, 1 + f.sz.1 + g.sz.2)
  | .bin .iff f g => (3 + f.sz.1 + f.sz.2 + g.sz.1 + g.sz.2, 3 + f.sz.1 + f.sz.2 + g.sz.1 + g.sz.2)
  | .qu _ _ f => (1 + f.sz.1, 1 + f.sz.2)
def Fm.cnt : Fm → Nat
  | .tt _ => 1
  | .eq _ _ => 1
  | .neg _ => 2
  | .bin _ f g => 1 + (f.cnt + g.cnt)
  | .qu _ _ f => 1 + f.cnt
end Own
set_option maxHeartbeats 2000000
namespace Own
open PySem PySem.Spec PyProof.Rows L2 HT
theorem AllT.keep {α : Type} {H H' : Hp} {q p : Addr} {emb : α → V} {n : Nat} (h : AllT H q emb n) (b : But p H H') (ne : q ≠ p) : AllT H' q emb n := by
  obtain ⟨rows, e, l, al⟩ := h
  exact ⟨rows, b q _ ne e, l, al⟩
theorem AllT.same {α : Type} {H H' : Hp} {q : Addr} {emb : α → V} {n : Nat} (h : AllT H q emb n) (b : Same H H') : AllT H' q emb n := by
  obtain ⟨rows, e, l, al⟩ := h
  exact ⟨rows, b q _ e, l, al⟩
theorem AllT.le {α : Type} {H : Hp} {q : Addr} {emb : α → V} {n m : Nat} (h : AllT H q emb n) (l : n ≤ m) : AllT H q emb m := by
  obtain ⟨rows, e, l1, al⟩ := h
  exact ⟨rows, e, Nat.le_trans l1 l, al⟩
theorem AllT.lst {α : Type} {H H' : Hp} {q d : Addr} {emb : α → V} {n : Nat} (h : AllT H q emb n) (b : But d H H') (hI : Ints H d) : AllT H' q emb n := by
  obtain ⟨ms, _, ed⟩ := hI
  have h2 := h
  obtain ⟨rows, e, _⟩ := h2
  exact h.keep b (ne_of e ed (fun z => nomatch z))
theorem AllT.nil {α : Type} {H : Hp} {q : Addr} {emb : α → V} (e : H q = some (.dT [])) : AllT H q emb 0 := ⟨[], e, Nat.le_refl _, fun _ z => nomatch z⟩
theorem AllT.one {α : Type} {H : Hp} {q : Addr} {emb : α → V} {k : List Key} {x : α} (e : H q = some (.dT [(k, emb x)])) : AllT H q emb 1 := ⟨_, e, Nat.le_refl _, fun y hy => by rw [List.mem_singleton.mp hy]; exact ⟨x, rfl⟩⟩
theorem AllT.lock {α : Type} {H : Hp} {q p : Addr} {emb : α → V} {n : Nat} {kvs : List (Key × V)} (h : AllT H q emb n) (e : H p = some (.dK kvs)) : q ≠ p := by
  obtain ⟨rows, e2, _⟩ := h
  exact ne_of e2 e (fun z => nomatch z)
structure Two (H : Hp) (Qs Rs : List Addr) (n : Nat) : Prop where
  fs : ∀ q ∈ Qs, AllT H q V.int n
  ps : ∀ r ∈ Rs, AllT H r V.bl n
  ne : ∀ q ∈ Qs, ∀ r ∈ Rs, q ≠ r
theorem Two.same {H H' : Hp} {Qs Rs : List Addr} {n : Nat} (h : Two H Qs Rs n) (b : Same H H') : Two H' Qs Rs n := ⟨fun q m => (h.fs q m).same b, fun q m => (h.ps q m).same b, h.ne⟩
theorem Two.lst {H H' : Hp} {Qs Rs : List Addr} {n : Nat} {d : Addr} (h : Two H Qs Rs n) (b : But d H H') (hI : Ints H d) : Two H' Qs Rs n := ⟨fun q m => (h.fs q m).lst b hI, fun q m => (h.ps q m).lst b hI, h.ne⟩
theorem Two.le {H : Hp} {Qs Rs : List Addr} {n m : Nat} (h : Two H Qs Rs n) (l : n ≤ m) : Two H Qs Rs m := ⟨fun q z => (h.fs q z).le l, fun q z => (h.ps q z).le l, h.ne⟩
theorem Two.putF {H : Hp} {Qs Rs : List Addr} {n : Nat} (h : Two H Qs Rs n) {q : Addr} (hq : q ∈ Qs) (k : List Key) (x : Int) :
    ∃ rows, H q = some (.dT rows) ∧ rows.length ≤ n ∧ Two (L2.upd H q (.dT (putK rows k (.int x)))) Qs Rs (n + 1) := by
  obtain ⟨rows, e, l, A⟩ := (h.fs q hq).put k x
  refine ⟨rows, e, l, fun p hp => ?_, fun r hr => ((h.ps r hr).keep But.upd (h.ne q hq r hr).symm).le (Nat.le_succ _), h.ne⟩
  by_cases c : p = q
  · subst c; exact A
  · exact ((h.fs p hp).keep But.upd c).le (Nat.le_succ _)
theorem Two.putP {H : Hp} {Qs Rs : List Addr} {n : Nat} (h : Two H Qs Rs n) {r : Addr} (hr : r ∈ Rs) (k : List Key) (x : Bool) :
    ∃ rows, H r = some (.dT rows) ∧ rows.length ≤ n ∧ Two (L2.upd H r (.dT (putK rows k (.bl x)))) Qs Rs (n + 1) := by
  obtain ⟨rows, e, l, A⟩ := (h.ps r hr).put k x
  refine ⟨rows, e, l, fun q hq => ((h.fs q hq).keep But.upd (h.ne q hq r hr)).le (Nat.le_succ _), fun p hp => ?_, h.ne⟩
  by_cases c : p = r
  · subst c; exact A
  · exact ((h.ps p hp).keep But.upd c).le (Nat.le_succ _)
theorem merge_app : ∀ (more kvs : List (Key × V)), ((kvs ++ more).map (·.1)).Nodup → mergeK kvs more = kvs ++ more
  | [], kvs, _ => by rw [List.append_nil]; rfl
  | p :: r, kvs, nd => by
    show mergeK (putK kvs p.1 p.2) r = _
    have n1 : valV kvs p.1 = none := by
      unfold valV
      rw [List.map_append] at nd
      have : kvs.find? (fun kv => decide (kv.1 = p.1)) = none := List.find?_eq_none.mpr fun x hx => by
        rw [decide_eq_true_iff]
        exact fun z => (List.nodup_append.mp nd).2.2 _ (List.mem_map.mpr ⟨x, hx, rfl⟩) p.1 (List.mem_cons_self ..) z
      rw [this]; rfl
    rw [putK_new p.2 n1, merge_app r (kvs ++ [(p.1, p.2)]) (by rw [List.append_assoc]; exact nd), List.append_assoc]
    rfl
theorem merge_nil {kvs : List (Key × V)} (h : (kvs.map (·.1)).Nodup) : mergeK [] kvs = kvs := merge_app kvs [] h
def TabAt (H : Hp) (T : Addr) (M : Mdl) : Prop := ∃ F G, H T = some (.tup [.int M.sz, .ref F, .ref G]) ∧ FnsAt H F V.int 0 M.fn ∧ FnsAt H G V.bl false M.pr
theorem TabAt.same {H H' : Hp} {T : Addr} {M : Mdl} (h : TabAt H T M) (s : Same H H') : TabAt H' T M := by
  obtain ⟨F, G, e, a, b⟩ := h
  exact ⟨F, G, s _ _ e, a.same s, b.same s⟩
theorem FnsAt.lst {α : Type} {H H' : Hp} {F d : Addr} {emb : α → V} {z : α} {fn : Str → List Int → α} (h : FnsAt H F emb z fn) (b : But d H H') (hI : Ints H d) : FnsAt H' F emb z fn := by
  obtain ⟨ms, _, ed⟩ := hI
  obtain ⟨kvs, e, al⟩ := h
  refine ⟨kvs, b _ _ (ne_of e ed (fun z => nomatch z)) e, fun f vs => ?_⟩
  rcases al f vs with h | ⟨q, rows, h1, h2, h3⟩
  · exact .inl h
  · exact .inr ⟨q, rows, h1, b _ _ (ne_of h2 ed (fun z => nomatch z)) h2, h3⟩
theorem TabAt.lst {H H' : Hp} {T d : Addr} {M : Mdl} (h : TabAt H T M) (b : But d H H') (hI : Ints H d) : TabAt H' T M := by
  obtain ⟨F, G, e, a1, b1⟩ := h
  have hI2 := hI
  obtain ⟨ms, _, ed⟩ := hI2
  exact ⟨F, G, b _ _ (ne_of e ed (fun z => nomatch z)) e, a1.lst b hI, b1.lst b hI⟩
def KnAt (H : Hp) (a : Addr) (NM : List Str) (ρ : Str → Int) : Prop := ∃ kvs : List (Key × V), H a = some (.dK kvs) ∧ kvs.length ≤ 100 ∧ ∀ x ∈ NM, valV kvs (.inr x) = some (.int (ρ x))
theorem KnAt.same {H H' : Hp} {a : Addr} {NM : List Str} {ρ : Str → Int} (h : KnAt H a NM ρ) (s : Same H H') : KnAt H' a NM ρ := by
  obtain ⟨kvs, e, l, al⟩ := h
  exact ⟨kvs, s _ _ e, l, al⟩
theorem put_len_in {κ : Type} [DecidableEq κ] {kvs : List (κ × V)} {k : κ} {v u : V} (h : valV kvs k = some u) : (putK kvs k v).length = kvs.length := by
  unfold putK
  obtain ⟨x, hx, _⟩ := valV_mem h
  have : (kvs.any fun kv => decide (kv.1 = k)) = true := by
    unfold valV at h
    cases q : kvs.find? fun kv => decide (kv.1 = k) with
    | none => rw [q] at h; cases h
    | some p => exact List.any_eq_true.mpr ⟨p, List.mem_of_find?_eq_some q, (by have := List.find?_some q; exact this)⟩
  rw [if_pos this, List.length_map]
theorem KnAt.put {H : Hp} {a : Addr} {NM : List Str} {ρ : Str → Int} {kvs : List (Key × V)} (l : kvs.length ≤ 100) (al : ∀ x ∈ NM, valV kvs (.inr x) = some (.int (ρ x))) {x : Str} (hx : x ∈ NM) (i : Int) (e : H a = some (.dK (putK kvs (.inr x) (.int i)))) : KnAt H a NM (wider ρ x i) := by
  refine ⟨_, e, by rw [put_len_in (al x hx)]; exact l, fun y hy => ?_⟩
  rw [valV_put]
  unfold wider
  by_cases c : y = x
  · rw [if_pos (by rw [c]), if_pos c]
  · rw [if_neg (fun z => c (Sum.inr.inj z)), if_neg c]; exact al y hy
theorem isTr_data {f : Str} {as : List Ter} : PyData.eqv (Ter.ap f as).dat trueT.dat = isTr (.ap f as) := by
  show ((f == ("true" : Str)) && PyData.eqvAll (Ter.dats as) []) = (f == "true" && as.isEmpty)
  cases as <;> rfl
theorem isTr_var {k : Key} : PyData.eqv (Ter.var k).dat trueT.dat = false := by cases k <;> rfl
theorem isTr_eq (t : Ter) : PyData.eqv t.dat trueT.dat = isTr t := by
  cases t with
  | var k => rw [isTr_var]; rfl
  | ap f as => exact isTr_data
theorem sym20_not {f : Str} {n : Nat} (h : sym20 f n) : (f == ("true" : Str)) = false := by
  rcases h with ⟨rfl, _⟩ | ⟨rfl, _⟩ | ⟨rfl, _⟩ | ⟨rfl, _⟩ <;> decide +kernel
theorem isTr_wf {NM : List Str} {t : Ter} (h : t.wf sym20 (nam20 NM)) : isTr t = false := by
  cases t with
  | var k => rfl
  | ap f as => show (f == "true" && as.isEmpty) = false; rw [sym20_not h.1]; rfl
theorem isTr_pred {f : Str} {as : List Ter} (h : (f = ("p" : Str) ∧ as.length = 1) ∨ (f = ("q" : Str) ∧ as.length = 2) ∨ (f = ("r" : Str) ∧ as.length = 0)) : isTr (.ap f as) = false := by
  show (f == "true" && as.isEmpty) = false
  rcases h with ⟨rfl, _⟩ | ⟨rfl, _⟩ | ⟨rfl, _⟩ <;> rw [show ((_ : Str) == ("true" : Str)) = false by decide +kernel] <;> rfl
theorem sym20_str {f : Str} {n : Nat} (h : sym20 f n) : PyData.strOk f = true := by
  rcases h with ⟨rfl, _⟩ | ⟨rfl, _⟩ | ⟨rfl, _⟩ | ⟨rfl, _⟩ <;> decide +kernel
theorem fine20 {NM : List Str} (hN : ∀ x ∈ NM, PyData.strOk x = true) {t : Ter} (h : t.wf sym20 (nam20 NM)) : t.wf symFine keyFine := wf_mono (fun _ _ h => sym20_str h) (fun k h => by obtain ⟨x, rfl, hx⟩ := h; exact hN x hx) t h
theorem atom20_fine {NM : List Str} (hN : ∀ x ∈ NM, PyData.strOk x = true) {l r : Ter} (h : atom20 NM l r) : l.wf symFine keyFine ∧ r.wf symFine keyFine := by
  rcases h with ⟨a, b⟩ | ⟨f, as, rfl, hf, hw, rfl⟩
  · exact ⟨fine20 hN a, fine20 hN b⟩
  · refine ⟨⟨?_, wfs_mono (fun _ _ h => sym20_str h) (fun k h => by obtain ⟨x, rfl, hx⟩ := h; exact hN x hx) as hw⟩, ⟨by show PyData.strOk _ = true; decide +kernel, trivial⟩⟩
    rcases hf with ⟨rfl, _⟩ | ⟨rfl, _⟩ | ⟨rfl, _⟩ <;> (show PyData.strOk _ = true; decide +kernel)
end Own
set_option maxHeartbeats 2000000
namespace Own
open PySem PySem.Spec PyProof.Rows L2 HT
section
variable {prog : Program} {w : World} {A : Around} {E : Value → Shared → Prop} {s : Shared}
theorem mix_noref {k : Key} {a : Addr} : (mixKind prog w).is k (.ref a) = false := by cases k <;> rfl
theorem wpAny_dictPut_pairs {K : Type} [DecidableEq K] {knd : KeyKind prog w K} {d : Addr} {kvs : List (K × Value)} {k : K} {key v : Value} {Q : Unit → Shared → Prop} (hkey : knd.is k key = true) (hm : s.heap.DictOf knd d kvs)
    (hQ : ∀ h', h'.DictOf knd d (stored kvs k v) → Heap.SameBut d s.heap h' → Q () { s with heap := h' })
    (hsz : kvs.length ≤ sizeLine) :
    wpAny (model prog w) A (dictPut d (knd.hash k) key v) Q E s := by
  obtain ⟨o, es, ep, ho, hc, hd, hk, hp, hn⟩ := hm
  have hes : es.size ≤ sizeLine := by have e1 := hp.length; have e2 : es.toList.length = es.size := by simp
                                      omega
  unfold dictPut
  refine wpAny_bind (wpAny_dictFind_of hkey ho hd hk ?_)
  have hidx : (es.findIdx? fun e => knd.is k e.key) = kvs.findIdx? fun kv => decide (kv.1 = k) := by
    rw [← hp.findIdx k]; obtain ⟨l⟩ := es; simp
  cases hi : es.findIdx? fun e => knd.is k e.key with
  | some i =>
    refine wpAny_updateDict ho hd (hQ _ ⟨_, _, ep, Heap.get?_update_self _ ho (Obj.isFreed_of_dict (Obj.data_mapDict hd _)),
      hc.mapDict _, Obj.data_mapDict hd _, hk.modify _ _, ?_, ?_⟩ (Heap.SameBut.update ..))
    · rw [stored, if_pos (any_of_findIdx_some (hidx ▸ hi))]
      have hl : (es.toList.findIdx? fun e => knd.is k e.key) = some i := by rw [← hi]; obtain ⟨l⟩ := es; simp
      have := hp.modify hn hl v
      obtain ⟨l⟩ := es
      simpa using this
    · rw [stored, if_pos (any_of_findIdx_some (hidx ▸ hi)), keys_map_store]; exact hn
  | none =>
    have hnot : k ∉ kvs.map (·.1) := not_mem_of_findIdx_none (hidx ▸ hi)
    have hany : ¬ (kvs.any fun kv => decide (kv.1 = k)) = true := by
      rw [List.any_eq_true]; rintro ⟨kv, hkv, he⟩
      exact hnot (List.mem_map.mpr ⟨kv, hkv, of_decide_eq_true he⟩)
    refine wpAny_updateDictKeys (hz := hes) ho hd (hQ _ ⟨_, _, ep + 1, Heap.get?_update_self _ ho (Obj.isFreed_of_dict (Obj.data_mapDictKeys hd _)),
      hc.mapDictKeys _, Obj.data_mapDictKeys hd _, hk.push hkey _, ?_, ?_⟩ (Heap.SameBut.update ..))
    · rw [stored, if_neg hany]
      have := hp.append hkey (knd.hash k) v
      obtain ⟨l⟩ := es
      simpa using this
    · rw [stored, if_neg hany, List.map_append, List.nodup_append]
      refine ⟨hn, by simp, ?_⟩
      intro a ha b hb
      simp only [List.map_cons, List.map_nil, List.mem_singleton] at hb
      subst hb
      exact fun e => hnot (e ▸ ha)
theorem wpAny_mergeMapping {d o : Addr} {kvs more : List (Key × Value)} {Q : Unit → Shared → Prop} (hdo : d ≠ o) (hoS : (o == sysModules) = false) (hd : s.heap.DictOf (mixKind prog w) d kvs) (ho : s.heap.DictOf (mixKind prog w) o more)
    (hQ : ∀ h', h'.DictOf (mixKind prog w) d (merged kvs more) → h'.DictOf (mixKind prog w) o more → Heap.SameBut d s.heap h' → Q () { s with heap := h' })
    (hsz : kvs.length + more.length ≤ sizeLine) : wpAny (model prog w) A (mergeMapping d (.ref o) false) Q E s := by
  obtain ⟨od, esd, epd, hod, hcd, hdd, hkd, hpd, hnd⟩ := id hd
  obtain ⟨oo, eso, epo, hoo, hco, hdo', hko, hpo, hno⟩ := id ho
  have hlen : more.length = eso.size := by rw [← hpo.length]; simp
  unfold mergeMapping
  refine wpAny_bind (wpAny_isInstance ho.typeIs isSubtype_dict_dict ?_)
  rw [if_pos rfl]
  refine wpAny_bind (wpAny_specialOf ho.typeIs F.slot_dict_iter.lookup (wpAny_bind (wpAny_pure ?_)))
  simp only [beq_self_eq_true]
  rw [if_neg (by rw [hoS]; exact Bool.false_ne_true)]
  have loop : wpAny (model prog w) A (do
      let l ← dictEntries o
      let epoch ← dictEpoch o
      forIn (List.range l.size) PUnit.unit fun i (_ : PUnit) => (do
          let l' ← dictEntries o
          match l'[i]? with
            | some e => do
              holding [e.key, e.val] (dictPut d e.hash e.key e.val)
              let ep' ← dictEpoch o
              if (ep' != epoch) = true then do
                  (unsupported "dict.changed-during-merge" : Sem PUnit)
                  pure (ForInStep.yield PUnit.unit)
                else pure (ForInStep.yield PUnit.unit)
            | _ => do
              (unsupported "dict.changed-during-merge" : Sem PUnit)
              pure (ForInStep.yield PUnit.unit) : Sem (ForInStep PUnit))
      pure ()) Q E s := by
    refine wpAny_bind (wpAny_dictEntries hoo hdo' ?_)
    refine wpAny_bind (wpAny_dictEpoch hoo hdo' ?_)
    refine wpAny_bind ?_
    rw [List.range_eq_range']
    refine wpAny_forIn_list _
      (fun rest _ s' => ∃ h' i, s' = { s with heap := h' } ∧ rest = List.range' i (eso.size - i) ∧ i ≤ eso.size ∧ h'.DictOf (mixKind prog w) d (merged kvs (more.take i)) ∧ h'.get? o = some oo ∧ Heap.SameBut d s.heap h')
      _ ?_ ?_ _ _ ⟨s.heap, 0, rfl, by simp, Nat.zero_le _, by simpa [merged] using hd, hoo, Heap.SameBut.refl _ _⟩
    · rintro x rest b s' ⟨h', i, rfl, hr, hi, hd', hoo', hs'⟩
      have hlt : i < eso.size := by
        rcases Nat.lt_or_ge i eso.size with h | h
        · exact h
        · rw [Nat.sub_eq_zero_of_le h] at hr; simp at hr
      obtain ⟨rfl, hrest⟩ : x = i ∧ rest = List.range' (i + 1) (eso.size - (i + 1)) := by
        have e : eso.size - i = (eso.size - (i + 1)) + 1 := by omega
        rw [e, List.range'_succ] at hr
        injection hr with h1 h2
        exact ⟨h1, h2⟩
      refine wpAny_bind (wpAny_dictEntries hoo' hdo' ?_)
      rw [Array.getElem?_eq_getElem hlt]
      obtain ⟨kv, hkv⟩ : ∃ kv, more[x]? = some kv := ⟨more[x]'(by rw [hlen]; exact hlt), List.getElem?_eq_getElem _⟩
      obtain ⟨k, v⟩ := kv
      obtain ⟨hkey, hval⟩ := hpo.get? (e := eso[x]) (by simp [hlt]) hkv
      obtain ⟨k', hkey', hhash⟩ := hko eso[x] (Array.getElem_mem hlt)
      obtain rfl : k' = k := (mixKind prog w).inj _ _ _ hkey' hkey
      show wpAny _ _ (holding [eso[x].key, eso[x].val] (dictPut d eso[x].hash eso[x].key eso[x].val) >>= _) _ _ _
      rw [hhash, hval]
      have hmx : (merged kvs (more.take x)).length ≤ sizeLine := by
        have e1 := merged_length_le kvs (more.take x)
        have e2 : (more.take x).length ≤ more.length := by rw [List.length_take]; omega
        omega
      refine wpAny_bind (wpAny_holding (wpAny_dictPut_pairs (hsz := hmx) hkey hd' fun h'' hd'' hs'' => ?_))
      have hoo'' : h''.get? o = some oo := (hs''.2 o (Ne.symm hdo)).trans hoo'
      refine wpAny_bind (wpAny_dictEpoch hoo'' hdo' ?_)
      rw [if_neg (by simp)]
      exact wpAny_pure ⟨h'', x + 1, rfl, hrest, hlt, by rw [merged_take_succ kvs more x (k', v) hkv]; exact hd'', hoo'', hs'.trans hs''⟩
    · rintro b s' ⟨h', i, rfl, hr, hi, hd', hoo', hs'⟩
      have hin : i = eso.size := by
        rcases Nat.lt_or_ge i eso.size with h | h
        · have e : eso.size - i = (eso.size - (i + 1)) + 1 := by omega
          rw [e, List.range'_succ] at hr; exact nomatch hr
        · exact Nat.le_antisymm hi h
      refine wpAny_pure (hQ h' ?_ ⟨oo, eso, epo, hoo', hco, hdo', hko, hpo, hno⟩ hs')
      rw [hin, ← hlen, List.take_length] at hd'; exact hd'
  refine wpAny_bind (wpAny_dictEntries hod hdd ?_)
  split
  · refine wpAny_bind (wpAny_dictEntries hoo hdo' ?_)
    refine wpAny_bind ?_
    rw [← Array.forIn_toList]
    refine wpAny_forIn_list _ (fun rest _ s' => s' = s ∧ ∀ e ∈ rest, e ∈ eso.toList) _ ?_ ?_ _ _ ⟨rfl, fun e he => he⟩
    · rintro x rest b s' ⟨rfl, al⟩
      obtain ⟨k, hk, _⟩ := hko x (by have := al x (List.mem_cons_self ..); simpa using this)
      split
      · rename_i a ha
        rw [ha, mix_noref] at hk
        cases hk
      · exact wpAny_pure ⟨rfl, fun e he => al e (List.mem_cons_of_mem _ he)⟩
    · rintro b s' ⟨rfl, _⟩
      exact loop
  · exact loop
end
end Own
set_option maxHeartbeats 2000000
namespace Own
open PySem PySem.Spec PyProof.Rows L2 HT
end Own
set_option maxHeartbeats 2000000
namespace Own
open PySem PySem.Spec PyProof.Rows L2 HT
end Own
set_option maxHeartbeats 2000000
namespace Own
open PySem PySem.Spec PyProof.Rows L2 HT
def fmS : List Str → Fm → Prop
  | _, .tt _ => True
  | NM, .eq l r => atom20 NM l r ∧ l.nest ≤ 3 ∧ r.nest ≤ 3 ∧ l.size ≤ 20 ∧ r.size ≤ 20
  | NM, .neg f => fmS NM f
  | NM, .bin _ f g => fmS NM f ∧ fmS NM g
  | NM, .qu _ x f => fmS (x :: NM) f
def nmS (η : Str → Str) (x y : Str) : Str → Str := fun z => if z = x then y else η z
def Fm.qn : Fm → Nat
  | .tt _ => 0
  | .eq _ _ => 0
  | .neg f => f.qn
  | .bin _ f g => f.qn + g.qn
  | .qu _ _ f => f.qn + 1
def nmK (bd acc : List Key) (k : Key) : List Key := if hasK bd k = true then acc else addK acc k
mutual
def Ter.fv (bd : List Key) (acc : List Key) : Ter → List Key
  | .var k => nmK bd acc k
  | .ap _ as => Ter.fvs bd acc as
def Ter.fvs (bd : List Key) (acc : List Key) : List Ter → List Key
  | [] => acc
  | a :: r => Ter.fvs bd (a.fv bd acc) r
end
def Fm.fv : Fm → List Key → List Key → List Key
  | .tt _, _, acc => acc
  | .eq l r, bd, acc => r.fv bd (l.fv bd acc)
  | .neg f, bd, acc => f.fv bd acc
  | .bin _ f g, bd, acc => g.fv bd (f.fv bd acc)
  | .qu _ x f, bd, acc => f.fv (bd ++ [.inr x]) acc
theorem flt_len (a : Key) : ∀ l : List Key, l.Nodup → l.length ≤ (l.filter fun x => decide (x ≠ a)).length + 1
  | [], _ => Nat.zero_le _
  | x :: r, nd => by
    have nd2 := List.nodup_cons.mp nd
    by_cases c : x = a
    · subst c
      have e : r.filter (fun y => decide (y ≠ x)) = r := List.filter_eq_self.mpr fun y hy => decide_eq_true fun z => nd2.1 (z ▸ hy)
      rw [List.filter_cons_of_neg (by simp), e]
      exact Nat.le_refl _
    · rw [List.filter_cons_of_pos (by simp [c])]
      have := flt_len a r nd2.2
      rw [List.length_cons, List.length_cons]
      omega
theorem nd_len : ∀ (L l : List Key), l.Nodup → (∀ x ∈ l, x ∈ L) → l.length ≤ L.length
  | [], l, _, h => by
    cases l with
    | nil => exact Nat.le_refl _
    | cons x r => exact absurd (h x (List.mem_cons_self ..)) List.not_mem_nil
  | a :: L, l, nd, h => by
    have e := flt_len a l nd
    have i := nd_len L (l.filter fun x => decide (x ≠ a)) (List.Sublist.nodup List.filter_sublist nd) fun x hx => by
      have m := List.mem_filter.mp hx
      rcases List.mem_cons.mp (h x m.1) with z | z
      · exact absurd z (of_decide_eq_true m.2)
      · exact z
    rw [List.length_cons]
    omega
end Own
set_option maxHeartbeats 2000000
namespace Own
open PySem PySem.Spec PyProof.Rows L2 HT
def KnS (H : Hp) (a : Addr) (NM : List Str) (ρ : Str → Int) : Prop := ∃ kvs : List (Key × V), H a = some (.dK kvs) ∧ kvs.length ≤ NM.length ∧ ∀ x ∈ NM, valV kvs (.inr x) = some (.int (ρ x))
theorem KnS.same {H H' : Hp} {a : Addr} {NM : List Str} {ρ : Str → Int} (h : KnS H a NM ρ) (s : Same H H') : KnS H' a NM ρ := by
  obtain ⟨kvs, e, l, al⟩ := h
  exact ⟨kvs, s _ _ e, l, al⟩
theorem KnS.put {H : Hp} {a : Addr} {NM : List Str} {ρ : Str → Int} {kvs : List (Key × V)} (l : kvs.length ≤ NM.length) (al : ∀ x ∈ NM, valV kvs (.inr x) = some (.int (ρ x))) (x : Str) (i : Int) (e : H a = some (.dK (putK kvs (.inr x) (.int i)))) : KnS H a (x :: NM) (wider ρ x i) := by
  refine ⟨_, e, ?_, fun y hy => ?_⟩
  · have := length_putK kvs (Sum.inr x : Key) (V.int i)
    rw [List.length_cons]; omega
  · rw [valV_put]
    unfold wider
    by_cases c : y = x
    · rw [if_pos (by rw [c]), if_pos c]
    · rw [if_neg (fun z => c (Sum.inr.inj z)), if_neg c]
      rcases List.mem_cons.mp hy with z | hy
      · exact absurd z c
      · exact al y hy
def NmAt (H : Hp) (a : Addr) (η : Str → Str) (n : Nat) : Prop := ∃ kvs : List (Key × V), H a = some (.dK kvs) ∧ kvs.length ≤ n ∧ ∀ x : Str, (valV kvs (.inr x) = some (.str (η x))) ∨ (valV kvs (.inr x) = none ∧ η x = x)
theorem NmAt.same {H H' : Hp} {a : Addr} {η : Str → Str} {n : Nat} (h : NmAt H a η n) (s : Same H H') : NmAt H' a η n := by
  obtain ⟨kvs, e, l, al⟩ := h
  exact ⟨kvs, s _ _ e, l, al⟩
theorem NmAt.put {H : Hp} {a : Addr} {η : Str → Str} {n : Nat} {kvs : List (Key × V)} (l : kvs.length ≤ n) (al : ∀ x : Str, (valV kvs (.inr x) = some (.str (η x))) ∨ (valV kvs (.inr x) = none ∧ η x = x)) (x y : Str) (e : H a = some (.dK (putK kvs (.inr x) (.str y)))) : NmAt H a (nmS η x y) (n + 1) := by
  refine ⟨_, e, ?_, fun z => ?_⟩
  · have := length_putK kvs (Sum.inr x : Key) (V.str y)
    omega
  · rw [valV_put]
    unfold nmS
    by_cases c : z = x
    · rw [if_pos (by rw [c]), if_pos c]; exact .inl rfl
    · rw [if_neg (fun w => c (Sum.inr.inj w)), if_neg c]; exact al z
def Fm.qs (S : Str → Prop) : Fm → Prop
  | .tt _ => True
  | .eq _ _ => True
  | .neg f => f.qs S
  | .bin _ f g => f.qs S ∧ g.qs S
  | .qu _ x f => S x ∧ f.qs S
abbrev okS (x : Str) : Prop := PyData.strOk x = true
end Own
set_option maxHeartbeats 2000000
namespace Own
open PySem PySem.Spec PyProof.Rows L2 HT
def Fm.plain : Fm → Prop
  | .eq _ _ => False
  | .qu _ _ _ => False
  | _ => True
def lw (_ : Str) (n : Nat) : Prop := n ≤ 3
abbrev Wt := Fm × List Key
inductive WtAt (H : Hp) : V → Wt → Prop
  | mk {p b : Addr} {x : V} {φ : Fm} {bd : List Key} : H p = some (.tup [x, .ref b]) → TmAt H x φ.ter → H b = some (.tup (bd.map kV)) → WtAt H (.ref p) (φ, bd)
inductive WtAll (H : Hp) : List V → List Wt → Prop
  | nil : WtAll H [] []
  | cons {v : V} {vs : List V} {x : Wt} {xs : List Wt} : WtAt H v x → WtAll H vs xs → WtAll H (v :: vs) (x :: xs)
theorem WtAt.mono {H H' : Hp} (m : Tups H H') {v : V} {x : Wt} (h : WtAt H v x) : WtAt H' v x := by
  cases h with
  | mk e1 e2 e3 => exact .mk (m _ _ e1) (TmAt.mono m _ _ e2) (m _ _ e3)
theorem WtAll.mono {H H' : Hp} (m : Tups H H') : ∀ {vs : List V} {xs : List Wt}, WtAll H vs xs → WtAll H' vs xs
  | _, _, .nil => .nil
  | _, _, .cons a r => .cons (a.mono m) (r.mono m)
theorem WtAll.app {H : Hp} : ∀ {vs ws : List V} {xs ys : List Wt}, WtAll H vs xs → WtAll H ws ys → WtAll H (vs ++ ws) (xs ++ ys)
  | _, _, _, _, .nil, b => b
  | _, _, _, _, .cons a r, b => .cons a (r.app b)
theorem WtAll.len {H : Hp} : ∀ {vs : List V} {xs : List Wt}, WtAll H vs xs → vs.length = xs.length
  | _, _, .nil => rfl
  | _, _, .cons _ r => congrArg (· + 1) r.len
theorem WtAll.last {H : Hp} : ∀ {vs : List V} {xs : List Wt}, WtAll H vs xs → vs ≠ [] → ∃ vs' v xs' x, vs = vs' ++ [v] ∧ xs = xs' ++ [x] ∧ WtAll H vs' xs' ∧ WtAt H v x
  | _, _, .nil, h => absurd rfl h
  | _, _, .cons a .nil, _ => ⟨[], _, [], _, rfl, rfl, .nil, a⟩
  | _, _, .cons a (.cons b r), _ => by
    obtain ⟨vs', v, xs', x, e1, e2, h1, h2⟩ := WtAll.last (.cons b r) (by simp)
    exact ⟨_ :: vs', v, _ :: xs', x, by rw [e1]; rfl, by rw [e2]; rfl, .cons a h1, h2⟩
def Fm.inner (φ : Fm) (bd : List Key) : List Key := match φ with
  | .qu _ x _ => bd ++ [.inr x]
  | _ => bd
def Fm.here (φ : Fm) (bd acc : List Key) : List Key := match φ with
  | .eq l r => r.fv bd (l.fv bd acc)
  | _ => acc
end Own
set_option maxHeartbeats 2000000
namespace Own
open PySem PySem.Spec PyProof.Rows L2 HT
end Own
namespace Own
open PySem PySem.Spec PyProof.Rows L2 HT
end Own
namespace Own
open PySem PySem.Spec PyProof.Rows L2 RT HT
theorem LitAll.take {H : Hp} : ∀ {vs : List V} {c : List Lit} (i : Nat), LitAll H vs c → LitAll H (vs.take i) (c.take i)
  | _, _, 0, _ => .nil
  | _, _, _ + 1, .nil => .nil
  | _, _, i + 1, .cons a r => .cons a (r.take i)
theorem LitAll.drop {H : Hp} : ∀ {vs : List V} {c : List Lit} (i : Nat), LitAll H vs c → LitAll H (vs.drop i) (c.drop i)
  | _, _, 0, h => h
  | _, _, _ + 1, .nil => .nil
  | _, _, i + 1, .cons _ r => r.drop i
def eT (t u : Ter) : Bool := PyData.eqv t.dat u.dat
theorem eT_refl (t : Ter) : eT t t = true := ter_refl t
def litD (x : Lit) : PyData := .tuple [.bool x.1, x.2.1.dat, x.2.2.dat]
theorem dp_lit {K : PySem.W.Frag} {H : Hp} {v : V} {x : Lit} (h : LitAt H v x) : Dp K H v (litD x) := by
  cases h with
  | mk e a b => exact .tup (.inl (.inl e)) (.cons (.bl _) (.cons (dp_ter _ _ a) (.cons (dp_ter _ _ b) .nil)))
theorem dp_lits {K : PySem.W.Frag} {H : Hp} : ∀ {vs : List V} {c : List Lit}, LitAll H vs c → DpAll K H vs (c.map litD)
  | _, _, .nil => .nil
  | _, _, .cons a r => .cons (dp_lit a) (dp_lits r)
theorem eqv_lit (x y : Lit) : PyData.eqv (litD x) (litD y) = ((x.1 == y.1) && (eT x.2.1 y.2.1 && eT x.2.2 y.2.2)) := by
  have e : PyData.eqv (litD x) (litD y) = ((x.1 == y.1) && (eT x.2.1 y.2.1 && (eT x.2.2 y.2.2 && true))) := rfl
  rw [e, Bool.and_true]
end Own
namespace Own
open PySem PySem.Spec PyProof.Rows L2 HT
theorem walk_gen {J : It} {n : Nat} {G : Hp → Prop} {Y : Nat → Hp → V → Hp → Prop} (w : Walk J n G Y) {Z : V → Hp → (Hp → Prop) → Prop} {Qd : Hp → Prop} {H0 : Hp} (Pv : Nat → Hp → Prop) (h0 : Pv 0 H0) (hG : ∀ i F, i ≤ n → Pv i F → G F)
    (hs : ∀ i x F F2, i < n → Pv i F → Y i F x F2 → Z x F2 (Pv (i + 1))) (hd : ∀ F, Pv n F → Qd F) :
    ∃ W : Nat → Nat → Hp → Prop, (∃ m, W 0 m H0) ∧ ∀ i m F, W i m F → (J.stop i F ∧ Qd F) ∨ (J.go i F ∧ ∃ Nx : Hp → Prop, (∀ F2, Nx F2 → ∃ m', m' < m ∧ W (i + 1) m' F2) ∧ ∀ x F2, J.yld i F x F2 → Z x F2 Nx) := by
  refine ⟨fun i m F => m = n - i ∧ i ≤ n ∧ Pv i F, ⟨n, (Nat.sub_zero n).symm, Nat.zero_le _, h0⟩, ?_⟩
  rintro i m F ⟨rfl, le, pv⟩
  have gf := hG i F le pv
  rcases Nat.lt_or_eq_of_le le with lt | rfl
  · exact .inr ⟨w.goes i F lt gf, Pv (i + 1), fun F2 p2 => ⟨_, by omega, rfl, lt, p2⟩, fun x F2 y => hs i x F F2 lt pv (w.yields i F x F2 lt gf y)⟩
  · exact .inl ⟨w.stops F gf, hd F pv⟩
def iLT (K : PySem.W.Frag) (tl : TE) : TI := fun σ H R => tl σ H fun x H1 => ∃ a, x = .ref a ∧ (((∃ xs, SqL K H1 a xs) ∧ R (Itl K a) H1) ∨ ((∃ xs, SqT K H1 a xs) ∧ R (Itt K a) H1))
theorem pi_lt {X : Cx} {tg l : Expr} {tl : TE} (hl : PE X l tl) : PI X tg l (iLT X.K tl) := by
  refine ⟨fun pins s σ H R I h => ?_⟩
  refine thn (hl.run pins s σ H _ I h) fun v s1 ⟨x, H1, I1, r1, q1⟩ => ?_
  obtain ⟨a, e, q⟩ := q1
  subst e
  cases r1
  rcases q with ⟨⟨xs, hq⟩, q⟩ | ⟨⟨xs, hq⟩, q⟩
  · obtain ⟨its, rv, p, hz⟩ := I1.list hq
    refine wpAny_pyIter_list p.isList ?_
    refine ⟨s1.heap.objs.size, [s1.heap.objs.size], _, _, H1, rfl, I1.kept (t' := s1.toks) fun b o e => Heap.get?_push_of_some _ e, turn_list a _, ⟨_, Heap.get?_push_size _ rfl, rfl, rfl⟩, fun b hb => ?_, q⟩
    have e : b = s1.heap.objs.size := by simpa using hb
    subst e
    exact I1.fpOk (Nat.le_refl _) (I1.hok.fresh (Nat.le_refl _))
  · obtain ⟨its, rv, p, hz⟩ := I1.tuple hq
    refine wpAny_pyIter_tuple (show s1.heap.IsTuple a its.toArray from p) ?_
    refine ⟨s1.heap.objs.size, [s1.heap.objs.size], _, _, H1, rfl, I1.kept (t' := s1.toks) fun b o e => Heap.get?_push_of_some _ e, turn_tuple a _, ⟨_, Heap.get?_push_size _ rfl, rfl, rfl⟩, fun b hb => ?_, q⟩
    have e : b = s1.heap.objs.size := by simpa using hb
    subst e
    exact I1.fpOk (Nat.le_refl _) (I1.hok.fresh (Nat.le_refl _))
end Own
namespace Own
open PySem PySem.Spec PyProof.Rows L2 RT HT
end Own
namespace Own
open PySem PySem.Spec PyProof.Rows L2 RT HT
def sides (c : List Lit) : List Ter := c.flatMap fun x => [x.2.1, x.2.2]
theorem sides_app (a b : List Lit) : sides (a ++ b) = sides a ++ sides b := List.flatMap_append
theorem sides_snoc (a : List Lit) (x : Lit) : sides (a ++ [x]) = sides a ++ [x.2.1, x.2.2] := by rw [sides_app]; rfl
def clVars (c : List Lit) : List Key := Ter.intos [] (sides c)
theorem sides_size {c : List Lit} {n : Nat} (h : ∀ x ∈ c, x.2.1.size ≤ n ∧ x.2.2.size ≤ n) : Ter.sizes (sides c) ≤ c.length * (2 * n) := by
  induction c with
  | nil => exact Nat.zero_le _
  | cons x r ih =>
    have h1 := h x List.mem_cons_self
    have h2 := ih fun y hy => h y (List.mem_cons_of_mem _ hy)
    show Ter.sizes ([x.2.1, x.2.2] ++ sides r) ≤ (r.length + 1) * (2 * n)
    rw [Ter.sizes_app, Nat.succ_mul]
    show x.2.1.size + (x.2.2.size + 0) + _ ≤ _
    omega
theorem sides_wf {W : Str → Nat → Prop} {U : Key → Prop} : ∀ {c : List Lit}, (∀ x ∈ c, x.2.1.wf W U ∧ x.2.2.wf W U) → Ter.wfs W U (sides c)
  | [], _ => trivial
  | x :: r, h => ⟨(h x List.mem_cons_self).1, (h x List.mem_cons_self).2, sides_wf (c := r) fun y hy => h y (List.mem_cons_of_mem _ hy)⟩
theorem addK_sub {acc : List Key} {k x : Key} (h : x ∈ acc) : x ∈ addK acc k := by
  unfold addK
  split
  · exact h
  · exact List.mem_append_left _ h
theorem addK_mem (acc : List Key) (k : Key) : k ∈ addK acc k := by
  unfold addK
  split
  · exact hasK_iff.mp (by assumption)
  · exact List.mem_append_right _ (List.mem_singleton.mpr rfl)
theorem addK_nd {acc : List Key} {k : Key} (h : acc.Nodup) : (addK acc k).Nodup := by
  unfold addK
  split
  · exact h
  · rename_i c
    exact nd_snoc h fun z => c (hasK_iff.mpr z)
mutual
theorem into_sub : ∀ (t : Ter) (acc : List Key), ∀ x ∈ acc, x ∈ Ter.into acc t
  | .var k, acc, x, h => addK_sub h
  | .ap f as, acc, x, h => intos_sub as acc x h
theorem intos_sub : ∀ (ts : List Ter) (acc : List Key), ∀ x ∈ acc, x ∈ Ter.intos acc ts
  | [], acc, x, h => h
  | t :: r, acc, x, h => intos_sub r _ x (into_sub t acc x h)
end
mutual
theorem into_nd : ∀ (t : Ter) (acc : List Key), acc.Nodup → (Ter.into acc t).Nodup
  | .var k, acc, h => addK_nd h
  | .ap f as, acc, h => intos_nd as acc h
theorem intos_nd : ∀ (ts : List Ter) (acc : List Key), acc.Nodup → (Ter.intos acc ts).Nodup
  | [], acc, h => h
  | t :: r, acc, h => intos_nd r _ (into_nd t acc h)
end
def anySym (_ : Str) (_ : Nat) : Prop := True
def Ter.inK (ks : List Key) (t : Ter) : Prop := t.wf anySym (· ∈ ks)
def Ter.insK (ks : List Key) (ts : List Ter) : Prop := Ter.wfs anySym (· ∈ ks) ts
mutual
theorem into_in : ∀ (t : Ter) (acc ks : List Key), (∀ x ∈ Ter.into acc t, x ∈ ks) → Ter.inK ks t
  | .var k, acc, ks, h => h k (addK_mem acc k)
  | .ap f as, acc, ks, h => ⟨trivial, intos_in as acc ks h⟩
theorem intos_in : ∀ (ts : List Ter) (acc ks : List Key), (∀ x ∈ Ter.intos acc ts, x ∈ ks) → Ter.insK ks ts
  | [], acc, ks, h => trivial
  | t :: r, acc, ks, h => ⟨into_in t acc ks fun x hx => h x (intos_sub r _ x hx), intos_in r _ ks h⟩
end
theorem clVars_nd (c : List Lit) : (clVars c).Nodup := intos_nd _ _ List.nodup_nil
theorem sides_in {ks : List Key} : ∀ {c : List Lit}, Ter.insK ks (sides c) → ∀ x ∈ c, Ter.inK ks x.2.1 ∧ Ter.inK ks x.2.2
  | [], _, _, h => by cases h
  | y :: r, h, x, hx => by
    have h : Ter.inK ks y.2.1 ∧ Ter.inK ks y.2.2 ∧ Ter.insK ks (sides r) := h
    rcases List.mem_cons.mp hx with rfl | hx
    · exact ⟨h.1, h.2.1⟩
    · exact sides_in h.2.2 x hx
theorem clVars_in (c : List Lit) : ∀ x ∈ c, Ter.inK (clVars c) x.2.1 ∧ Ter.inK (clVars c) x.2.2 := sides_in (intos_in _ [] _ fun _ h => h)
def idxK : List Key → Key → Nat
  | [], _ => 0
  | a :: r, k => if a = k then 0 else idxK r k + 1
def numK : Nat → List Key → List (Key × V)
  | _, [] => []
  | n, k :: r => (k, V.int (n : Nat)) :: numK (n + 1) r
theorem numK_len : ∀ (ks : List Key) (n : Nat), (numK n ks).length = ks.length
  | [], _ => rfl
  | _ :: r, n => congrArg (· + 1) (numK_len r (n + 1))
theorem numK_snoc (k : Key) : ∀ (ks : List Key) (n : Nat), numK n (ks ++ [k]) = numK n ks ++ [(k, V.int ((n + ks.length : Nat) : Int))]
  | [], n => rfl
  | a :: r, n => by
    show (a, V.int (n : Nat)) :: numK (n + 1) (r ++ [k]) = (a, V.int (n : Nat)) :: (numK (n + 1) r ++ _)
    rw [numK_snoc k r (n + 1)]
    congr 3
    simp only [List.length_cons]
    rw [show n + 1 + r.length = n + (r.length + 1) by omega]
theorem numK_none {k : Key} : ∀ {ks : List Key} {n : Nat}, k ∉ ks → valV (numK n ks) k = none
  | [], _, _ => rfl
  | a :: r, n, h => by
    have h1 : ¬ a = k := fun z => h (by rw [z]; exact List.mem_cons_self)
    show valV ((a, V.int (n : Nat)) :: numK (n + 1) r) k = none
    rw [valV_neg h1]
    exact numK_none fun z => h (List.mem_cons_of_mem _ z)
theorem numK_val {k : Key} : ∀ {ks : List Key} {n : Nat}, k ∈ ks → valV (numK n ks) k = some (.int ((n + idxK ks k : Nat) : Int))
  | [], _, h => by cases h
  | a :: r, n, h => by
    show valV ((a, V.int (n : Nat)) :: numK (n + 1) r) k = _
    by_cases c : a = k
    · rw [valV_pos c]
      show some (V.int (n : Nat)) = _
      rw [show idxK (a :: r) k = 0 from if_pos c]
      rfl
    · rw [valV_neg c, numK_val (ks := r) ((List.mem_cons.mp h).resolve_left fun z => c z.symm), show idxK (a :: r) k = idxK r k + 1 from if_neg c]
      rw [show n + 1 + idxK r k = n + (idxK r k + 1) by omega]
theorem idxK_lt {k : Key} : ∀ {ks : List Key}, k ∈ ks → idxK ks k < ks.length
  | [], h => by cases h
  | a :: r, h => by
    show (if a = k then 0 else idxK r k + 1) < r.length + 1
    by_cases c : a = k
    · rw [if_pos c]; omega
    · rw [if_neg c]
      have := idxK_lt (ks := r) ((List.mem_cons.mp h).resolve_left fun z => c z.symm)
      omega
theorem idxK_get {k : Key} : ∀ {ks : List Key}, k ∈ ks → ks[idxK ks k]? = some k
  | [], h => by cases h
  | a :: r, h => by
    by_cases c : a = k
    · rw [show idxK (a :: r) k = 0 from if_pos c, c]; rfl
    · rw [show idxK (a :: r) k = idxK r k + 1 from if_neg c]
      show r[idxK r k]? = some k
      exact idxK_get ((List.mem_cons.mp h).resolve_left fun z => c z.symm)
theorem idxK_inj {ks : List Key} {a b : Key} (ha : a ∈ ks) (hb : b ∈ ks) (h : idxK ks a = idxK ks b) : a = b := by
  have h1 := idxK_get ha
  have h2 := idxK_get hb
  rw [h, h2] at h1
  exact (Option.some.inj h1).symm
def nf (ks : List Key) (k : Key) : Key := .inl ((idxK ks k : Nat) : Int)
theorem nf_inj {ks : List Key} {a b : Key} (ha : a ∈ ks) (hb : b ∈ ks) (h : nf ks a = nf ks b) : a = b := idxK_inj ha hb (by
  have : ((idxK ks a : Nat) : Int) = ((idxK ks b : Nat) : Int) := Sum.inl.inj h
  omega)
mutual
def Ter.num (ks : List Key) : Ter → Ter
  | .var k => .var (nf ks k)
  | .ap f as => .ap f (Ter.nums ks as)
def Ter.nums (ks : List Key) : List Ter → List Ter
  | [] => []
  | a :: r => a.num ks :: Ter.nums ks r
end
theorem nums_len (ks : List Key) : ∀ as : List Ter, (Ter.nums ks as).length = as.length
  | [] => rfl
  | _ :: r => congrArg (· + 1) (nums_len ks r)
theorem nums_app (ks : List Key) : ∀ as bs : List Ter, Ter.nums ks (as ++ bs) = Ter.nums ks as ++ Ter.nums ks bs
  | [], _ => rfl
  | a :: r, bs => congrArg (a.num ks :: ·) (nums_app ks r bs)
mutual
theorem num_size (ks : List Key) : ∀ t : Ter, (t.num ks).size = t.size ∧ (t.num ks).nest = t.nest
  | .var _ => ⟨rfl, rfl⟩
  | .ap f as => by
    obtain ⟨h1, h2⟩ := nums_size ks as
    exact ⟨by show Ter.sizes _ + 1 = Ter.sizes as + 1; rw [h1], by show Ter.nests _ + 1 = Ter.nests as + 1; rw [h2]⟩
theorem nums_size (ks : List Key) : ∀ ts : List Ter, Ter.sizes (Ter.nums ks ts) = Ter.sizes ts ∧ Ter.nests (Ter.nums ks ts) = Ter.nests ts
  | [] => ⟨rfl, rfl⟩
  | t :: r => by
    obtain ⟨h1, h2⟩ := num_size ks t
    obtain ⟨h3, h4⟩ := nums_size ks r
    exact ⟨by show (t.num ks).size + Ter.sizes (Ter.nums ks r) = t.size + Ter.sizes r; rw [h1, h3], by show max (t.num ks).nest (Ter.nests (Ter.nums ks r)) = max t.nest (Ter.nests r); rw [h2, h4]⟩
end
mutual
theorem num_wf {W : Str → Nat → Prop} {U : Key → Prop} {ks : List Key} (hk : ks.length ≤ 900) : ∀ t : Ter, t.wf W U → Ter.inK ks t → (t.num ks).wf W numVar
  | .var k, _, h => ⟨_, rfl, by omega, by have := idxK_lt (show k ∈ ks from h); omega⟩
  | .ap f as, h, g => ⟨by rw [nums_len]; exact h.1, nums_wf hk as h.2 g.2⟩
theorem nums_wf {W : Str → Nat → Prop} {U : Key → Prop} {ks : List Key} (hk : ks.length ≤ 900) : ∀ ts : List Ter, Ter.wfs W U ts → Ter.insK ks ts → Ter.wfs W numVar (Ter.nums ks ts)
  | [], _, _ => trivial
  | t :: r, h, g => ⟨num_wf hk t h.1 g.1, nums_wf hk r h.2 g.2⟩
end
def litNum (ks : List Key) (x : Lit) : Lit := (x.1, x.2.1.num ks, x.2.2.num ks)
def litIn (ks : List Key) (x : Lit) : Prop := Ter.inK ks x.2.1 ∧ Ter.inK ks x.2.2
def numC (c : List Lit) : List Lit := c.map (litNum (clVars c))
mutual
theorem into_num {ks : List Key} : ∀ (t : Ter) (acc : List Key), (∀ x ∈ acc, x ∈ ks) → Ter.inK ks t → Ter.into (acc.map (nf ks)) (t.num ks) = (Ter.into acc t).map (nf ks)
  | .var k, acc, ha, hk => by
    show addK (acc.map (nf ks)) (nf ks k) = (addK acc k).map (nf ks)
    have e : hasK (acc.map (nf ks)) (nf ks k) = hasK acc k := by
      cases c : hasK acc k with
      | true => exact hasK_iff.mpr (List.mem_map_of_mem (hasK_iff.mp c))
      | false =>
        cases d : hasK (acc.map (nf ks)) (nf ks k) with
        | false => rfl
        | true =>
          obtain ⟨y, hy, e⟩ := List.mem_map.mp (hasK_iff.mp d)
          have := nf_inj (ha y hy) hk e
          rw [this] at hy
          rw [hasK_iff.mpr hy] at c
          cases c
    unfold addK
    rw [e]
    split
    · rfl
    · rw [List.map_append]; rfl
  | .ap f as, acc, ha, h => intos_num as acc ha h.2
theorem intos_num {ks : List Key} : ∀ (ts : List Ter) (acc : List Key), (∀ x ∈ acc, x ∈ ks) → Ter.insK ks ts → Ter.intos (acc.map (nf ks)) (Ter.nums ks ts) = (Ter.intos acc ts).map (nf ks)
  | [], acc, ha, _ => rfl
  | t :: r, acc, ha, h => by
    show Ter.intos (Ter.into (acc.map (nf ks)) (t.num ks)) (Ter.nums ks r) = (Ter.intos (Ter.into acc t) r).map (nf ks)
    rw [into_num t acc ha h.1, intos_num r _ (fun x hx => into_of ha h.1 x hx) h.2]
theorem into_of {ks : List Key} {t : Ter} {acc : List Key} (ha : ∀ x ∈ acc, x ∈ ks) (h : Ter.inK ks t) : ∀ x ∈ Ter.into acc t, x ∈ ks := into_all (W := anySym) (U := (· ∈ ks)) (R := (· ∈ ks)) (fun _ z => z) t acc h ha
end
theorem sides_num (ks : List Key) : ∀ c : List Lit, sides (c.map (litNum ks)) = Ter.nums ks (sides c)
  | [] => rfl
  | x :: r => by
    show x.2.1.num ks :: x.2.2.num ks :: sides (r.map (litNum ks)) = x.2.1.num ks :: x.2.2.num ks :: Ter.nums ks (sides r)
    rw [sides_num ks r]
theorem clVars_num (c : List Lit) : clVars (numC c) = (clVars c).map (nf (clVars c)) := by
  show Ter.intos [] (sides (c.map (litNum (clVars c)))) = _
  rw [sides_num]
  exact intos_num (sides c) [] (fun _ h => by cases h) (intos_in _ [] _ fun _ h => h)
end Own
namespace Own
open PySem PySem.Spec PyProof.Rows L2 RT HT
theorem ps_no {X : Cx} {st : Stmt} : PS X st (fun _ _ _ => False) := ⟨fun _ _ _ _ _ _ h => h.elim⟩
structure Dek (H : Hp) (d c : Addr) : Prop where
  ex : ∃ (ns : List Int) (i : Nat) (e s : Int), H d = some (.lst [.ref c, .int (i : Nat), .int e, .int s]) ∧ H c = some (.lst (ns.map V.int)) ∧ c ≠ d
theorem Dek.same {H H' : Hp} {d c : Addr} (h : Dek H d c) (m : Same H H') : Dek H' d c := by
  obtain ⟨ns, i, r, s, e, e2, n⟩ := h.ex
  exact ⟨ns, i, r, s, m _ _ e, m _ _ e2, n⟩
theorem Dek.lst {H : Hp} {d c : Addr} (h : Dek H d c) : ∃ xs, H d = some (.lst xs) := by
  obtain ⟨ns, i, r, s, e, e2, n⟩ := h.ex
  exact ⟨_, e⟩
theorem Dek.ne {H : Hp} {d c p : Addr} (h : Dek H d c) (n : H p = none) : p ≠ d := by
  obtain ⟨xs, e⟩ := h.lst
  exact fun z => by rw [z, e] at n; cases n
theorem Dek.tups {H H' : Hp} {d c : Addr} (h : Dek H d c) (b : But d H H') : Tups H H' := by
  obtain ⟨xs, e⟩ := h.lst
  exact b.tups e
theorem Dek.but {H H' : Hp} {d c p : Addr} (h : Dek H d c) (b : But p H H') (n1 : d ≠ p) (n2 : c ≠ p) : Dek H' d c := by
  obtain ⟨ns, i, r, s, e, e2, n⟩ := h.ex
  exact ⟨ns, i, r, s, b _ _ n1 e, b _ _ n2 e2, n⟩
def natVar (k : Key) : Prop := ∃ i : Int, k = .inl i ∧ 0 ≤ i
def wtOf (W : List (Str × Int)) (f : Str) : Int := ((W.find? fun e => decide (e.1 = f)).map (·.2)).getD 1
mutual
def Ter.wt (W : List (Str × Int)) : Ter → Int
  | .var _ => 1
  | .ap f as => wtOf W f + Ter.wts W as
def Ter.wts (W : List (Str × Int)) : List Ter → Int
  | [] => 0
  | a :: r => a.wt W + Ter.wts W r
end
mutual
def Ter.cnt (k : Key) : Ter → Int
  | .var x => if x = k then 1 else 0
  | .ap _ as => Ter.cnts k as
def Ter.cnts (k : Key) : List Ter → Int
  | [] => 0
  | a :: r => a.cnt k + Ter.cnts k r
end
theorem nodup_sub {α : Type} [DecidableEq α] : ∀ (l m : List α), l.Nodup → (∀ x ∈ l, x ∈ m) → l.length ≤ m.length
  | [], _, _, _ => Nat.zero_le _
  | a :: r, m, nd, h => by
    have nd : a ∉ r ∧ r.Nodup := List.nodup_cons.mp nd
    have ha := h a List.mem_cons_self
    have h1 := nodup_sub r (m.erase a) nd.2 fun x hx => (List.mem_erase_of_ne (fun z => nd.1 (by rw [← z]; exact hx))).mpr (h x (List.mem_cons_of_mem _ hx))
    rw [List.length_erase_of_mem ha] at h1
    have : 0 < m.length := List.length_pos_of_mem ha
    show r.length + 1 ≤ m.length
    omega
end Own
namespace Own
open PySem PySem.Spec PyProof.Rows L2 RT HT
theorem iteNo {c : Bool} {A B : Prop} (hc : c = false) (h : B) : if c = true then A else B := by rw [hc]; exact iteF h
end Own
namespace Own
open PySem PySem.Spec PyProof.Rows L2 RT HT
def tListVals (td : TE) : TE := fun σ H Q => td σ H fun x H1 => ∃ a kvs, x = V.ref a ∧ H1 a = some (.dK kvs) ∧ ∀ p, H1 p = none → Q (.ref p) (upd H1 p (.lst (kvs.map (·.2))))
theorem vals_at {xs : List V} : ∀ {us : List Value}, us.length = xs.length → (∀ (j : Nat) (u : Value), us[j]? = some u → ∃ x, xs[j]? = some x ∧ RelV x u) → Vals xs us := by
  induction xs with
  | nil =>
    intro us h _
    cases us with
    | nil => exact .nil
    | cons u r => cases h
  | cons x xs ih =>
    intro us h k
    cases us with
    | nil => cases h
    | cons u r =>
      obtain ⟨y, h1, h2⟩ := k 0 u rfl
      cases (Option.some.inj (show some x = some y from h1))
      exact .cons h2 (ih (Nat.succ.inj h) fun j v e => k (j + 1) v (by simpa using e))
theorem pe_listVals {X : Cx} {o : Expr} {p pos apos mpos : Pos} {td : TE} (hc : X.calm = true) (hg : Gl X "list") (hm : X.mg "list" = none) (hd : PE X o td) (hbase : attributeBase o "values" X.env (eval o X.env) = eval o X.env := by rfl) (hline : (apos.endLine == mpos.line) = true := by rfl)
    (hse : starEach [Expr.Call (.Attribute o "values" apos) [] [] mpos] X.env = (false, eval (Expr.Call (.Attribute o "values" apos) [] [] mpos) X.env) :: starEach [] X.env := by rfl) :
    PE X (.Call (.Name "list" p) [.Call (.Attribute o "values" apos) [] [] mpos] [] pos) (tListVals td) := by
  refine ⟨fun pins s σ H Q I h => ?_⟩
  refine Call_ (ld_blt I hg hm boot_list (callWith_type1 (args_cons (wpAny_Call_method0_late hbase hline (thn (hd.run pins s σ H _ I h) fun v s1 ⟨x, H1, I1, r1, a, kvs, ex, ha, q⟩ => ?_)) hse) hse rfl))
  subst ex
  obtain rfl : v = Value.ref a := r1
  obtain ⟨z, hsys, vs, rel, dof⟩ := dk_of I1.hok ha
  obtain ⟨ep, dat⟩ := dof.dictAt
  have dat' := dat
  obtain ⟨ob, es, ho, ex, hdat, hko, hpr, hnd⟩ := dat'
  refine ⟨"dict", "dict.values", F.plainAttrs_dict, F.slot_dict_values, F.type_dict_values, ⟨ob, ho, ex.1⟩, fun b e => ?_, Calls.callWith_builtin rfl (PySem.evalArgs_none ?_)⟩
  · cases e
    exact ⟨ob, ho, ex.2.1⟩
  refine call_meetsIn F.slot_dict_values ⟨ob, ho, ex.1⟩ F.entry_dict_values (F.args_dict_values_1 _) (meets_dict_values (mixKind X.prog X.w) a hsys) ⟨⟨vs, dof⟩, ?_⟩
  have k1 : ∀ b u, s1.heap.get? b = some u → (s1.heap.push { cls := .type "dict_values", data := .fields #[.ref a] }).get? b = some u := fun b u e => Heap.get?_push_of_some _ e
  have dat1 : (s1.heap.push { cls := .type "dict_values", data := .fields #[.ref a] }).DictAt (mixKind X.prog X.w) a vs ep := dat.keep k1
  have I2 : Inv X pins σ H1 { s1 with heap := s1.heap.push { cls := .type "dict_values", data := .fields #[.ref a] } } := I1.kept (t' := s1.toks) k1
  refine args_nil ?_
  refine PySem.W.kdl_call (PySem.W.kdl_values (knd := mixKind X.prog X.w) (r := s1.heap.objs.size) (d := a) (kvs := vs) (ep := ep)) (I2.ok.hd hc) ⟨⟨_, Heap.get?_push_size _ rfl, rfl, rfl⟩, dat1⟩ (by rw [← rel.length]; exact Nat.le_of_lt_succ (Nat.lt_succ_of_le z)) fun h' tk acc c' hk hD hacc => ?_
  have hv : Vals (kvs.map (·.2)) acc.toList := by
    refine vals_at (by rw [Array.length_toList, List.length_map, hacc.1, ← rel.length]) fun j u e => ?_
    obtain ⟨k, hk2⟩ := hacc.2 j u (by rw [← Array.getElem?_toList]; exact e)
    obtain ⟨x, h1, h2⟩ := KV.at' rel hk2
    exact ⟨x, by rw [List.getElem?_map, h1]; rfl, h2⟩
  exact ⟨.ref _, upd H1 _ (.lst (kvs.map (·.2))), I2.laid (t' := tk) hk (Nat.le_refl _) (show ObjOk X.prog X.w _ _ _ (.lst (kvs.map (·.2))) from ⟨by rw [List.length_map]; exact z, acc.toList, c', hv, by rw [Array.toArray_toList]; exact hD⟩), rfl, q _ (I2.hok.fresh (Nat.le_refl _))⟩
end Own
namespace Own
open PySem PySem.Spec PyProof.Rows L2 RT HT
def idxP : List Str → Str → Option Nat
  | [], _ => none
  | y :: r, x => if y = x then some 0 else (idxP r x).map (· + 1)
def lhi (ps : List Str) (f g : Str) : Bool := if f = g then false else if f = "true" ∨ g = "true" then decide (g = "true") else
  match idxP ps f, idxP ps g with
  | some i, some j => decide (j < i)
  | some _, none => false
  | none, some _ => true
  | none, none => decide (g.cps.toList < f.cps.toList)
end Own
namespace Own
open PySem PySem.Spec PyProof.Rows L2 RT HT
def cge (a b : Ter) : Prop := ∀ k, b.cnt k ≤ a.cnt k
def fdiff : List Ter → List Ter → Option (Ter × Ter)
  | a :: r, b :: s => if eT a b = true then fdiff r s else some (a, b)
  | _, _ => none
def grs (ps : List Str) (g : Ter → Ter → Prop) : Ter → Ter → Prop
  | .ap f as, .ap h bs => if f = h then (match fdiff as bs with
    | some p => g p.1 p.2
    | none => False) else lhi ps f h = true
  | _, _ => False
def gre (W : List (Str × Int)) (ps : List Str) : Nat → Ter → Ter → Prop
  | 0, _, _ => False
  | n + 1, a, b => cge a b ∧ (if a.wt W = b.wt W then grs ps (gre W ps n) a b else b.wt W < a.wt W)
end Own
namespace Own
open PySem PySem.Spec PyProof.Rows L2 RT HT
structure SymF (S : Str → Nat → Prop) : Prop where
  fn : ∀ f n m, S f n → S f m → n = m
  ok : ∀ f n, S f n → PyData.strOk f = true
theorem SymF.fine {S : Str → Nat → Prop} (F : SymF S) {t : Ter} (h : t.wf S natVar) : t.wf symFine keyFine := wf_mono (fun f n h => F.ok f n h) (fun k h => by obtain ⟨i, rfl, _⟩ := h; trivial) t h
end Own
namespace Own
open PySem PySem.Spec PyProof.Rows L2 RT HT
mutual
theorem eT_eq : ∀ a b : Ter, eT a b = true → a = b
  | .var (.inl i), .var (.inl j), h => by
    have h : decide (i = j) = true := h
    rw [of_decide_eq_true h]
  | .var (.inr x), .var (.inr y), h => by
    have h : (x == y) = true := h
    rw [beq_iff_eq.mp h]
  | .var (.inl _), .var (.inr _), h => by cases (show false = true from h)
  | .var (.inr _), .var (.inl _), h => by cases (show false = true from h)
  | .var (.inl _), .ap _ _, h => by cases (show false = true from h)
  | .var (.inr _), .ap _ _, h => by cases (show false = true from h)
  | .ap _ _, .var (.inl _), h => by cases (show false = true from h)
  | .ap _ _, .var (.inr _), h => by cases (show false = true from h)
  | .ap f as, .ap g bs, h => by
    have h : ((f == g) && PyData.eqvAll (Ter.dats as) (Ter.dats bs)) = true := h
    rw [Bool.and_eq_true] at h
    rw [beq_iff_eq.mp h.1, eTs_eq as bs h.2]
theorem eTs_eq : ∀ as bs : List Ter, PyData.eqvAll (Ter.dats as) (Ter.dats bs) = true → as = bs
  | [], [], _ => rfl
  | [], _ :: _, h => by cases (show false = true from h)
  | _ :: _, [], h => by cases (show false = true from h)
  | a :: r, b :: s, h => by
    have h : (eT a b && PyData.eqvAll (Ter.dats r) (Ter.dats s)) = true := h
    rw [Bool.and_eq_true] at h
    rw [eT_eq a b h.1, eTs_eq r s h.2]
end
theorem eT_iff (a b : Ter) : eT a b = true ↔ a = b := ⟨eT_eq a b, fun h => by rw [h]; exact eT_refl b⟩
end Own
namespace Own
open PySem PySem.Spec PyProof.Rows L2 RT HT
mutual
def Ter.lin (w : Str → Int) (v : Key → Int) : Ter → Int
  | .var k => v k
  | .ap f as => w f + Ter.lins w v as
def Ter.lins (w : Str → Int) (v : Key → Int) : List Ter → Int
  | [] => 0
  | a :: r => a.lin w v + Ter.lins w v r
end
mutual
theorem cnt_lin (k : Key) : ∀ t : Ter, t.cnt k = t.lin (fun _ => 0) fun x => if x = k then 1 else 0
  | .var _ => rfl
  | .ap f as => by
    show Ter.cnts k as = 0 + Ter.lins _ _ as
    rw [cnts_lin k as, Int.zero_add]
theorem cnts_lin (k : Key) : ∀ ts : List Ter, Ter.cnts k ts = Ter.lins (fun _ => 0) (fun x => if x = k then 1 else 0) ts
  | [] => rfl
  | a :: r => by
    show a.cnt k + Ter.cnts k r = a.lin _ _ + Ter.lins _ _ r
    rw [cnt_lin k a, cnts_lin k r]
end
mutual
def Ter.bind (s : Key → Ter) : Ter → Ter
  | .var k => s k
  | .ap f as => .ap f (Ter.binds s as)
def Ter.binds (s : Key → Ter) : List Ter → List Ter
  | [] => []
  | a :: r => a.bind s :: Ter.binds s r
end
end Own
namespace Own
open PySem PySem.Spec PyProof.Rows L2 RT HT
end Own
namespace Own
open PySem PySem.Spec PyProof.Rows L2 RT HT
mutual
theorem bind_size {s : Key → Ter} {m : Nat} (h : ∀ k, (s k).size ≤ m) (h1 : 1 ≤ m) : ∀ t : Ter, (t.bind s).size ≤ t.size * m
  | .var k => by
    have := h k
    show (s k).size ≤ 1 * m
    omega
  | .ap f as => by
    have := binds_size h h1 as
    show Ter.sizes (Ter.binds s as) + 1 ≤ (Ter.sizes as + 1) * m
    rw [Nat.add_mul]
    omega
theorem binds_size {s : Key → Ter} {m : Nat} (h : ∀ k, (s k).size ≤ m) (h1 : 1 ≤ m) : ∀ ts : List Ter, Ter.sizes (Ter.binds s ts) ≤ Ter.sizes ts * m
  | [] => Nat.zero_le _
  | a :: r => by
    have := bind_size h h1 a
    have := binds_size h h1 r
    show (a.bind s).size + Ter.sizes (Ter.binds s r) ≤ (a.size + Ter.sizes r) * m
    rw [Nat.add_mul]
    omega
end
mutual
theorem bind_nest {s : Key → Ter} {m : Nat} (h : ∀ k, (s k).nest ≤ m) : ∀ t : Ter, (t.bind s).nest ≤ t.nest + m
  | .var k => by
    have := h k
    show (s k).nest ≤ 1 + m
    omega
  | .ap f as => by
    have := binds_nest h as
    show Ter.nests (Ter.binds s as) + 1 ≤ Ter.nests as + 1 + m
    omega
theorem binds_nest {s : Key → Ter} {m : Nat} (h : ∀ k, (s k).nest ≤ m) : ∀ ts : List Ter, Ter.nests (Ter.binds s ts) ≤ Ter.nests ts + m
  | [] => Nat.zero_le _
  | a :: r => by
    have := bind_nest h a
    have := binds_nest h r
    show max (a.bind s).nest (Ter.nests (Ter.binds s r)) ≤ max a.nest (Ter.nests r) + m
    omega
end
theorem binds_len (s : Key → Ter) : ∀ ts : List Ter, (Ter.binds s ts).length = ts.length
  | [] => rfl
  | _ :: r => congrArg (· + 1) (binds_len s r)
mutual
theorem bind_wf {S : Str → Nat → Prop} {U : Key → Prop} {s : Key → Ter} (h : ∀ k, U k → (s k).wf S U) : ∀ t : Ter, t.wf S U → (t.bind s).wf S U
  | .var k, w => h k w
  | .ap f as, w => ⟨by rw [binds_len]; exact w.1, binds_wf h as w.2⟩
theorem binds_wf {S : Str → Nat → Prop} {U : Key → Prop} {s : Key → Ter} (h : ∀ k, U k → (s k).wf S U) : ∀ ts : List Ter, Ter.wfs S U ts → Ter.wfs S U (Ter.binds s ts)
  | [], _ => trivial
  | a :: r, w => ⟨bind_wf h a w.1, binds_wf h r w.2⟩
end
end Own
namespace L2
open PySem PySem.Spec PyProof.Rows
end L2
namespace Own
open PySem
section
variable {α : Type}
def wcom (e : α → α → Bool) : List α → List α → List α × List α
  | [], r => ([], r)
  | x :: xs, r => if r.any (e x) = true then wcom e xs (r.eraseP (e x)) else (x :: (wcom e xs r).1, (wcom e xs r).2)
structure Eqv (e : α → α → Bool) : Prop where
  refl : ∀ x, e x x = true
  symm : ∀ x y, e x y = true → e y x = true
  trans : ∀ x y z, e x y = true → e y z = true → e x z = true
def Dom (G : α → α → Prop) (l r : List α) : Prop := ∀ t ∈ r, ∃ s ∈ l, G s t
open Classical in
noncomputable def cmpM (G : α → α → Prop) (l r : List α) : Str := if l = [] ∧ r = [] then "equal" else if l ≠ [] ∧ Dom G l r then "greater" else if r ≠ [] ∧ Dom G r l then "less" else "incomparable"
def SameC (e : α → α → Bool) (l l' : List α) : Prop := ∀ z, l.any (e z) = true ↔ l'.any (e z) = true
theorem SameC.symm {e : α → α → Bool} {l l' : List α} (h : SameC e l l') : SameC e l' l := fun z => (h z).symm
theorem SameC.nil {e : α → α → Bool} (E : Eqv e) {l l' : List α} (h : SameC e l l') : l = [] → l' = [] := fun z => by
  cases l' with
  | nil => rfl
  | cons y r =>
    have := (h y).mpr (by rw [List.any_cons, E.refl]; rfl)
    rw [z] at this; cases this
end
end Own
namespace Own
open PySem PySem.Spec PyProof.Rows L2 HT
def bagL (x : Lit) : List Ter := if x.1 = true then [x.2.1, x.2.2] else [x.2.1, x.2.1, x.2.2, x.2.2]
noncomputable def litO (W : List (Str × Int)) (ps : List Str) (n : Nat) (x y : Lit) : Str := cmpM (gre W ps n) (wcom eT (bagL x) (bagL y)).1 (wcom eT (bagL x) (bagL y)).2
def GL (W : List (Str × Int)) (ps : List Str) (n : Nat) (x y : Lit) : Prop := litO W ps n x y = "greater"
end Own
namespace Own
open PySem PySem.Spec PyProof.Rows L2 HT
end Own
namespace L2
open PySem PySem.Spec PyProof.Rows
end L2
set_option maxHeartbeats 2000000
namespace Own
open PySem PySem.Spec PyProof.Rows L2 RT HT ItX
structure FnOkN (P : Program) (w : World) (K : PySem.W.Frag) (mg : Str → Option Value) (base : Heap) (k : Nat) (f : Addr) (fd : FuncData) (ps : List Str) (sp : Nat → Sp) : Prop where
  len : ∀ n vs F Q E, sp n vs F Q E → vs.length = ps.length
  run : ∀ (A : Around) (out : List Env) (s : Shared) (F : Hp) (us : List Value) (vs : List V) (Q : VK) (E : XK), Room k A → Env0 P w K mg base A out s F → BindsTo s fd ⟨us, []⟩ (ps.zip us) → Vals vs us →
    sp s.heap.objs.size vs F Q E → codeAny (model P w) A (.call (.ref f) ⟨us, []⟩) (CR CX0 out P w F s Q E) s
theorem okN {P : Program} {w : World} {K : PySem.W.Frag} {mg : Str → Option Value} {base : Heap} {x qual : Str} {st : Stmt} {f : Addr} {fd : FuncData} {N ps : List Str} {k : Nat} {sp : Nat → Sp} (D : Fun K x qual st f fd) (S : FnScope N ps (defScope st))
    (ln : ∀ n vs F Q E, sp n vs F Q E → vs.length = ps.length)
    (rd : ∀ (cdv : Value) (A : Around) (out : List Env) (s : Shared) (F : Hp) (vs : List V) (Q : VK) (E : XK), Room k (A.deeper (envOfC qual (defScope st) s.heap.objs.size f cdv)) → sp s.heap.objs.size vs F Q E →
      ∃ t, PSs (cxOf CX0 P w K mg base N qual (defScope st) f cdv A out s F E) (defBody st) t ∧ t { nx := fun _ F' => Q .non F', rt := Q } (start N vs) F) : FnOkN P w K mg base (k + 1) f fd ps sp := by
  obtain ⟨oc, od, kV, doc, pm, an, cdv, ct, osl, rfl, lk, cd⟩ := D.ex
  refine ⟨ln, fun A out s F us vs Q E room e0 hb rv h => ?_⟩
  have nl := ln _ _ _ _ _ h
  have KI : K.In s.heap := e0.mod.kin.keeps fun b o e => (e0.bs b o e).1
  have NL : s.heap.NoLimit := e0.mod.nolimit.keeps fun b o e => (e0.bs b o e).1
  have kinds : ∀ y ∈ ps.zip us, (defScope st).names.lookup y.1 = some .local ∨ ((defScope st).names.lookup y.1 = some .cell ∧ ((cellsFrom (s.heap.objs.size + 1) (defScope st).names []).lookup y.1).isSome = true) := by
    rintro ⟨n, v⟩ hy
    rcases S.par n (List.of_mem_zip hy).1 with g | g
    · exact .inl g
    · exact .inr ⟨g, PySem.W.cellsFrom_some _ _ _ (.inl g)⟩
  refine codeAny_call_function room.depth (KI _ _ lk) rfl S.co S.gen rfl (PySem.W.codeRec_of KI cd) (hb _ _ _ _ ?_)
  refine wpAny_newFunctionEnv_cells S.kind kinds fun en ee s1 ic => ?_
  cases ee
  refine ⟨NL.keeps ic.toInCall.keep, codeAny_func ?_⟩
  obtain ⟨t, ht, g⟩ := rd cdv A out s F vs Q E (room.deeper _) h
  refine wpAny_mono (ht.run [] s1 (start N vs) F _ (inv_start S room.hd e0 nl rv ic) g) (fun fl s' z => ?_) fun e s' z => z
  cases fl with
  | ret u =>
    obtain ⟨v, _, F', J, r1, r2⟩ := z
    exact ⟨v, F', J.os, J.bare, J.base, J.hok, r1, r2⟩
  | next =>
    obtain ⟨_, F', J, r2⟩ := z
    exact ⟨.non, F', J.os, J.bare, J.base, J.hok, rfl, r2⟩
  | brk => exact z.elim fun _ z => z.elim fun _ z => z.2.elim
  | cont => exact z.elim fun _ z => z.elim fun _ z => z.2.elim
end Own
set_option maxHeartbeats 2000000
namespace Own
open PySem PySem.Spec PyProof.Rows L2 RT HT ItX
section
variable {α : Type} {lt : α → α → Prop}
theorem cut_perm : ∀ {xs : List α} {x : α} {p : Nat}, xs[p]? = some x → xs.Perm (x :: xs.eraseIdx p)
  | [], _, _, h => by simp at h
  | y :: r, x, 0, h => by cases h; exact List.Perm.refl _
  | y :: r, x, p + 1, h => ((cut_perm (show r[p]? = some x from h)).cons y).trans (List.Perm.swap _ _ _)
end
abbrev ltI (a b : Int) : Prop := a < b
def lx (a b : Int × Int) : Prop := a.1 < b.1 ∨ (a.1 = b.1 ∧ a.2 < b.2)
abbrev Wts := List (Int × Int)
def keysW (D : Wts) : List Int := D.map (·.1)
def flipW (D : Wts) : List (Int × Int) := D.map fun e => (e.2, e.1)
def cutW (D : Wts) (n : Int) : Wts := D.filter fun e => decide (e.1 ≠ n)
theorem cutW_no {n : Int} : ∀ {D : Wts}, n ∉ keysW D → cutW D n = D
  | [], _ => rfl
  | e :: r, h => by
    have h1 : ¬ e.1 = n := fun z => h (by rw [← z]; exact List.mem_cons_self)
    unfold cutW
    rw [List.filter_cons, if_pos (by simp [h1])]
    exact congrArg _ (cutW_no fun z => h (List.mem_cons_of_mem _ z))
theorem cutW_perm {n w : Int} : ∀ {D : Wts}, (keysW D).Nodup → (n, w) ∈ D → D.Perm ((n, w) :: cutW D n)
  | [], _, m => by cases m
  | e :: r, h, m => by
    have h : e.1 ∉ keysW r ∧ (keysW r).Nodup := List.nodup_cons.mp h
    rcases List.mem_cons.mp m with rfl | m
    · unfold cutW
      rw [List.filter_cons, if_neg (by simp)]
      show List.Perm _ (_ :: cutW r n)
      rw [cutW_no h.1]
    · have hn : ¬ e.1 = n := fun z => h.1 (by rw [z]; exact List.mem_map_of_mem (f := Prod.fst) m)
      unfold cutW
      rw [List.filter_cons, if_pos (by simp [hn])]
      exact ((cutW_perm h.2 m).cons e).trans (List.Perm.swap _ _ _)
theorem cutW_nd {D : Wts} {n : Int} (h : (keysW D).Nodup) : (keysW (cutW D n)).Nodup := h.sublist ((List.filter_sublist (p := fun e : Int × Int => decide (e.1 ≠ n))).map _)
structure Srt (D : Wts) (ns : List Int) (ws : List (Int × Int)) : Prop where
  nd : (keysW D).Nodup
  sn : ns.Pairwise ltI
  pn : ns.Perm (keysW D)
  sw : ws.Pairwise lx
  pw : ws.Perm (flipW D)
theorem Srt.nil : Srt [] [] [] := ⟨List.nodup_nil, .nil, .nil, .nil, .nil⟩
theorem Srt.cut {D : Wts} {ns : List Int} {ws : List (Int × Int)} {n w : Int} {p q : Nat} (S : Srt D ns ws) (m : (n, w) ∈ D) (k1 : ns[p]? = some n) (k2 : ws[q]? = some (w, n)) : Srt (cutW D n) (ns.eraseIdx p) (ws.eraseIdx q) where
  nd := cutW_nd S.nd
  sn := S.sn.sublist (List.eraseIdx_sublist _ _)
  pn := ((cut_perm k1).symm.trans (S.pn.trans ((cutW_perm S.nd m).map Prod.fst))).cons_inv
  sw := S.sw.sublist (List.eraseIdx_sublist _ _)
  pw := ((cut_perm k2).symm.trans (S.pw.trans (List.Perm.map (fun e : Int × Int => (e.2, e.1)) (cutW_perm S.nd m)))).cons_inv
end Own
namespace Own
open PySem PySem.Spec PyProof.Rows L2 RT HT ItX
end Own
set_option maxHeartbeats 2000000
namespace Own
open PySem PySem.Spec PyProof.Rows L2 RT HT ItX
end Own
set_option maxHeartbeats 2000000
namespace Own
open PySem PySem.Spec PyProof.Rows L2 RT HT ItX
end Own
set_option maxHeartbeats 2000000
namespace Own
open PySem PySem.Spec PyProof.Rows L2 RT HT ItX Builtin Builtin.Str StrLaws
def sg (z : Str) : List Nat := z.cps.toList
theorem sg_len (z : Str) : (sg z).length = z.length := Array.length_toList
theorem sg_inj {x y : Str} (h : sg x = sg y) : x = y := by
  cases x; cases y
  exact congrArg Str.mk (Array.toList_inj.mp h)
def ofS (l : List Nat) : Str := ⟨l.toArray⟩
theorem sg_of (l : List Nat) : sg (ofS l) = l := by first | rfl | simp [sg, ofS]
theorem of_sg (z : Str) : ofS (sg z) = z := sg_inj (sg_of _)
end Own
set_option maxHeartbeats 2000000
namespace Own
open PySem PySem.Spec PyProof.Rows L2 RT HT ItX
def LETS : Str := "abcdefghijklmnopqrstuvwxyzABCDEFGHIJKLMNOPQRSTUVWXYZ"
def CAPS : Str := "ABCDEFGHIJKLMNOPQRSTUVWXYZ"
def WCHS : Str := "abcdefghijklmnopqrstuvwxyzABCDEFGHIJKLMNOPQRSTUVWXYZ0123456789_"
def SGNS : List Str := ["(", ")", ",", ":", ".", "~", "&", "|", "=", "!=", "->", "<->"]
def kindW (x : Nat) : Str := if x ∈ sg CAPS then "variable" else "name"
end Own
set_option maxHeartbeats 2000000
namespace Own
open PySem PySem.Spec PyProof.Rows L2 RT HT ItX
structure IsW (z : Str) : Prop where
  ex : ∃ x u, sg z = x :: u ∧ x ∈ sg LETS ∧ (∀ y ∈ u, y ∈ sg WCHS)
  le : z.length ≤ 20
def W10 (z : Str) : Prop := IsW z ∨ z ∈ SGNS
def headL (z : Str) : Bool := match sg z with
  | x :: _ => decide (x ∈ sg LETS)
  | [] => false
def kindT (z : Str) : Str := match sg z with
  | x :: _ => if x ∈ sg LETS then kindW x else "sign"
  | [] => "end"
theorem IsW.head {z : Str} (h : IsW z) : headL z = true := by
  obtain ⟨⟨x, u, e, hx, _⟩, _⟩ := h
  unfold headL; rw [e]; exact decide_eq_true hx
theorem IsW.kind {z : Str} (h : IsW z) : ∃ x u, sg z = x :: u ∧ x ∈ sg LETS ∧ (∀ y ∈ u, y ∈ sg WCHS) ∧ kindT z = kindW x ∧ z = ofS (x :: u) ∧ u.length + 1 = z.length := by
  obtain ⟨⟨x, u, e, hx, hu⟩, hl⟩ := h
  refine ⟨x, u, e, hx, hu, ?_, ?_, ?_⟩
  · unfold kindT; rw [e]; exact if_pos hx
  · rw [← e, of_sg]
  · rw [← sg_len, e]; rfl
end Own
namespace Own
open PySem PySem.Spec PyProof.Rows L2 RT HT ItX
end Own
set_option maxHeartbeats 2000000
namespace Own
open PySem PySem.Spec PyProof.Rows L2 RT HT ItX
inductive BadW : Str → Str → Prop
  | long {x : Nat} {u : List Nat} {b : Str} (e : sg b = x :: u) (hx : x ∈ sg LETS) (hu : ∀ y ∈ u, y ∈ sg WCHS) (l1 : 20 < u.length + 1) (l2 : u.length + 1 ≤ 23) : BadW b "name too long"
  | odd {x : Nat} {b : Str} (e : sg b = [x]) (h : x ≠ 10 ∧ x ≠ 32 ∧ x ≠ 9 ∧ x ≠ 35) (hx : x ∉ sg LETS) (hs : ∀ s ∈ SGNS, ∀ r, ¬ ∃ t, sg s ++ t = x :: 32 :: r) : BadW b "unknown character"
def Bad (z m : Str) : Prop := ∃ b : Str, sg z = 32 :: (sg b ++ [32]) ∧ BadW b m
abbrev LW3 := List (Str × Nat × Nat)
def FirstBad (L : LW3) (l c : Nat) (m : Str) : Prop := ∃ (p q : LW3) (z : Str) (k : Nat), L = p ++ (z, l, k) :: q ∧ c = k + 1 ∧ Bad z m ∧ ∀ e ∈ p, W10 e.1
theorem FirstBad.app {L : LW3} {l c : Nat} {m : Str} (h : FirstBad L l c m) (L2 : LW3) : FirstBad (L ++ L2) l c m := by
  obtain ⟨p, q, z, k, rfl, h2, h3, h4⟩ := h
  exact ⟨p, q ++ L2, z, k, by simp, h2, h3, h4⟩
end Own
set_option maxHeartbeats 2000000
namespace Own
open PySem PySem.Spec PyProof.Rows L2 RT HT ItX
end Own
set_option maxHeartbeats 2000000
namespace Own
open PySem PySem.Spec PyProof.Rows L2 RT HT ItX L2H
end Own
namespace Own
open PySem PySem.Spec PyProof.Rows L2 RT HT ItX
end Own
set_option maxHeartbeats 2000000
namespace Own
open PySem PySem.Spec PyProof.Rows L2 RT HT ItX L2H
end Own
set_option maxHeartbeats 2000000
namespace Own
open PySem PySem.Spec PyProof.Rows L2 HT
section
variable {X : Cx}
theorem KV.nums {ks : List (Key × V)} {vs : List (Key × Value)} (r : KV ks vs) : (∀ p ∈ ks, ∃ i, p.1 = Sum.inl i) → ∀ p ∈ vs, ∃ i, p.1 = Sum.inl i := by
  unfold KV at r
  induction r with
  | nil => exact fun _ _ m => by cases m
  | @cons p v _ _ g _ ih =>
    intro al x m
    rcases List.mem_cons.mp m with rfl | m
    · obtain ⟨i, ei⟩ := al p List.mem_cons_self
      exact ⟨i, g.1 ▸ ei⟩
    · exact ih (fun y n => al y (List.mem_cons_of_mem _ n)) x m
end
mutual
def mt : Ter → Ter → Sb → Bool × Sb
  | .var k, u, B => match Sb.look B k with
    | some s => (eT s u, B)
    | none => (true, B ++ [(k, u)])
  | .ap g as, u, B => match u with
    | .var _ => (false, B)
    | .ap h bs => if g = h ∧ as.length = bs.length then mts as bs B else (false, B)
def mts : List Ter → List Ter → Sb → Bool × Sb
  | [], _, B => (true, B)
  | a :: as, us, B => match us with
    | [] => (true, B)
    | b :: bs => if (mt a b B).1 = true then mts as bs (mt a b B).2 else (false, (mt a b B).2)
end
structure SOk (S : Str → Nat → Prop) (B : Sb) : Prop where
  nd : (Sb.keys B).Nodup
  al : ∀ e ∈ B, (∃ i : Int, e.1 = .inl i ∧ 0 ≤ i) ∧ e.2.wf S natVar ∧ e.2.nest ≤ 100
structure SB (S : Str → Nat → Prop) (H : Hp) (kvs : List (Key × V)) (B : Sb) : Prop where
  at_ : SubT H kvs B
  ok : SOk S B
theorem SB.mono {S : Str → Nat → Prop} {H H' : Hp} {kvs : List (Key × V)} {B : Sb} (h : SB S H kvs B) (m : Tups H H') : SB S H' kvs B := ⟨h.at_.mono m, h.ok⟩
theorem SOk.nil {S : Str → Nat → Prop} : SOk S [] := ⟨List.nodup_nil, (fun _ z => by cases z)⟩
theorem SOk.snoc {S : Str → Nat → Prop} {B : Sb} (g : SOk S B) {i : Int} (hi : 0 ≤ i) {u : Ter} (hw : u.wf S natVar) (hn : u.nest ≤ 100) (h : Sb.look B (.inl i) = none) : SOk S (B ++ [(.inl i, u)]) := by
  refine ⟨?_, fun e he => ?_⟩
  · unfold Sb.keys
    rw [List.map_append]
    exact nd_snoc g.nd (look_not h)
  · rcases List.mem_append.mp he with he | he
    · exact g.al e he
    · rcases List.mem_cons.mp he with rfl | he
      · exact ⟨⟨i, rfl, hi⟩, hw, hn⟩
      · cases he
theorem SB.nil {S : Str → Nat → Prop} {H : Hp} : SB S H [] [] := ⟨.nil, .nil⟩
theorem mt_int {k : Key} {u : Ter} {B : Sb} {s : Ter} (e : Sb.look B k = some s) : mt (.var k) u B = (eT s u, B) := by
  show (match Sb.look B k with | some s => (eT s u, B) | none => (true, B ++ [(k, u)])) = _
  rw [e]
theorem mt_new {k : Key} {u : Ter} {B : Sb} (e : Sb.look B k = none) : mt (.var k) u B = (true, B ++ [(k, u)]) := by
  show (match Sb.look B k with | some s => (eT s u, B) | none => (true, B ++ [(k, u)])) = _
  rw [e]
theorem mt_ap {g h : Str} {as bs : List Ter} {B : Sb} : mt (.ap g as) (.ap h bs) B = if g = h ∧ as.length = bs.length then mts as bs B else (false, B) := rfl
theorem SymF.lay {S : Str → Nat → Prop} (SF : SymF S) {t : Ter} (h : t.wf S natVar) : t.dat.canLay0 = true ∧ t.dat.depth ≤ t.nest := lay_ter t (SF.fine h)
theorem SymF.shp {S : Str → Nat → Prop} (SF : SymF S) {t : Ter} (h : t.wf S natVar) (n : t.nest ≤ 60) : SeqAt.shaped t.dat = true := shaped_ter (SF.fine h) (by omega)
end Own
namespace Own
open PySem PySem.Spec PyProof.Rows L2 HT
end Own
namespace Own
open PySem PySem.Spec PyProof.Rows L2 HT
end Own
namespace Own
open PySem PySem.Spec PyProof.Rows L2 HT
def sbF (B : Sb) (k : Key) : Ter := (Sb.look B k).getD (.var k)
def extS (B B' : Sb) : Prop := ∀ k s, Sb.look B k = some s → Sb.look B' k = some s
theorem extS.refl (B : Sb) : extS B B := fun _ _ h => h
theorem extS.trans {A B C : Sb} (a : extS A B) (b : extS B C) : extS A C := fun k s h => b k s (a k s h)
mutual
theorem lin_nonneg {w : Str → Int} {v : Key → Int} (hw : ∀ f, 0 ≤ w f) (hv : ∀ k, 0 ≤ v k) : ∀ t : Ter, 0 ≤ t.lin w v
  | .var k => hv k
  | .ap f as => by
    have := lins_nonneg hw hv as
    have := hw f
    show 0 ≤ w f + Ter.lins w v as
    omega
theorem lins_nonneg {w : Str → Int} {v : Key → Int} (hw : ∀ f, 0 ≤ w f) (hv : ∀ k, 0 ≤ v k) : ∀ ts : List Ter, 0 ≤ Ter.lins w v ts
  | [] => Int.le_refl _
  | a :: r => by
    have := lin_nonneg hw hv a
    have := lins_nonneg hw hv r
    show 0 ≤ a.lin w v + Ter.lins w v r
    omega
end
mutual
theorem size_lin {w : Str → Int} (hw : ∀ f, 1 ≤ w f) : ∀ t : Ter, (t.size : Int) ≤ t.lin w (fun _ => 1)
  | .var _ => by show ((1 : Nat) : Int) ≤ 1; omega
  | .ap f as => by
    have h := sizes_lin hw as
    have := hw f
    show ((Ter.sizes as + 1 : Nat) : Int) ≤ w f + Ter.lins w _ as
    omega
theorem sizes_lin {w : Str → Int} (hw : ∀ f, 1 ≤ w f) : ∀ ts : List Ter, (Ter.sizes ts : Int) ≤ Ter.lins w (fun _ => 1) ts
  | [] => Int.le_refl _
  | a :: r => by
    have h1 := size_lin hw a
    have h2 := sizes_lin hw r
    show ((a.size + Ter.sizes r : Nat) : Int) ≤ a.lin w _ + Ter.lins w _ r
    omega
end
theorem lins_modify (w : Str → Int) (v : Key → Int) (g : Ter → Ter) : ∀ (as : List Ter) (i : Nat) (a : Ter), as[i]? = some a → Ter.lins w v (as.modify i g) = Ter.lins w v as - a.lin w v + (g a).lin w v
  | [], _, _, h => by cases h
  | b :: r, 0, a, h => by
    have : b = a := Option.some.inj h
    subst this
    rw [List.modify_zero_cons]
    show (g b).lin w v + Ter.lins w v r = b.lin w v + Ter.lins w v r - b.lin w v + (g b).lin w v
    omega
  | b :: r, i + 1, a, h => by
    have := lins_modify w v g r i a (by simpa using h)
    rw [List.modify_succ_cons]
    show b.lin w v + Ter.lins w v (r.modify i g) = b.lin w v + Ter.lins w v r - a.lin w v + (g a).lin w v
    omega
theorem lin_put (w : Str → Int) (v : Key → Int) (x : Ter) : ∀ (q : List Int) (t u : Ter), t.at q = some u → (t.put x q).lin w v = t.lin w v - u.lin w v + x.lin w v
  | [], t, u, h => by
    have h : some t = some u := by cases t <;> exact h
    cases h
    have : t.put x [] = x := by cases t <;> rfl
    rw [this]; omega
  | n :: r, .var k, u, h => by cases h
  | n :: r, .ap f as, u, h => by
    have h : ((Ter.ap f as).step n).bind (fun a => a.at r) = some u := h
    cases e : (Ter.ap f as).step n with
    | none => rw [e] at h; cases h
    | some a =>
      rw [e] at h
      have h : a.at r = some u := h
      obtain ⟨_, ea⟩ := step_ap e
      have ih := lin_put w v x r a u h
      show w f + Ter.lins w v (as.modify (n - 1).toNat fun a => a.put x r) = w f + Ter.lins w v as - u.lin w v + x.lin w v
      rw [lins_modify w v _ as _ a ea]
      omega
theorem lins_get (w : Str → Int) (v : Key → Int) (hw : ∀ f, 0 ≤ w f) (hv : ∀ k, 0 ≤ v k) : ∀ {as : List Ter} {i : Nat} {a : Ter}, as[i]? = some a → a.lin w v ≤ Ter.lins w v as
  | [], _, _, h => by cases h
  | b :: r, 0, a, h => by
    have : b = a := Option.some.inj h
    subst this
    have := lins_nonneg hw hv r
    show b.lin w v ≤ b.lin w v + Ter.lins w v r
    omega
  | b :: r, i + 1, a, h => by
    have h1 := lins_get w v hw hv (as := r) (i := i) (a := a) (by simpa using h)
    have := lin_nonneg hw hv b
    show a.lin w v ≤ b.lin w v + Ter.lins w v r
    omega
theorem lin_at (w : Str → Int) (v : Key → Int) (hw : ∀ f, 0 ≤ w f) (hv : ∀ k, 0 ≤ v k) : ∀ (q : List Int) (t u : Ter), t.at q = some u → u.lin w v ≤ t.lin w v
  | [], t, u, h => by
    have h : some t = some u := by cases t <;> exact h
    cases h
    exact Int.le_refl _
  | n :: r, .var k, u, h => by cases h
  | n :: r, .ap f as, u, h => by
    have h : ((Ter.ap f as).step n).bind (fun a => a.at r) = some u := h
    cases e : (Ter.ap f as).step n with
    | none => rw [e] at h; cases h
    | some a =>
      rw [e] at h
      have h : a.at r = some u := h
      obtain ⟨_, ea⟩ := step_ap e
      have h1 := lin_at w v hw hv r a u h
      have h2 := lins_get w v hw hv ea
      have := hw f
      show u.lin w v ≤ w f + Ter.lins w v as
      omega
structure UpW (f0 : Str) (w : Str → Int) : Prop where
  one : ∀ f, 1 ≤ w f
  le : ∀ f, f ≠ f0 → w f ≤ 3
  big : w f0 ≤ 3 ∨ w f0 = 10 ^ 20 + 3
def lowW (f0 : Str) (w : Str → Int) (f : Str) : Int := if f = f0 then (if 3 < w f0 then 21 else w f0) else w f
theorem lowW_one {f0 : Str} {w : Str → Int} (U : UpW f0 w) (f : Str) : 1 ≤ lowW f0 w f := by
  unfold lowW
  split
  · split
    · decide
    · exact U.one f0
  · exact U.one f
theorem len_two {α : Type} : ∀ {l : List α}, l.length = 2 → ∃ a b, l = [a, b]
  | [a, b], _ => ⟨a, b, rfl⟩
def shpW (f0 : Str) (f : Str) (n : Nat) : Prop := (f = f0 ∧ n = 1) ∨ (f ≠ f0 ∧ (n = 0 ∨ n = 2))
theorem low_nest2 {f0 : Str} {w : Str → Int} (U : UpW f0 w) (hv : 3 < w f0) (S : Str → Nat → Prop) (hS : ∀ f n, S f n → shpW f0 f n) {V : Key → Prop} : ∀ (t : Ter), t.wf S V → 2 * (t.nest : Int) ≤ t.lin (lowW f0 w) (fun _ => 1) + 1
  | .var k, _ => by show 2 * ((1 : Nat) : Int) ≤ 1 + 1; omega
  | .ap f as, hw => by
    have o := lowW_one U f
    rcases hS _ _ hw.1 with ⟨rfl, l1⟩ | ⟨nf, l0 | l2⟩
    · obtain ⟨a, rfl⟩ := List.length_eq_one_iff.mp l1
      have ih := low_nest2 U hv S hS a hw.2.1
      have e : lowW f w f = 21 := by unfold lowW; rw [if_pos rfl, if_pos hv]
      show 2 * ((max a.nest 0 + 1 : Nat) : Int) ≤ lowW f w f + (a.lin _ _ + 0) + 1
      omega
    · have := List.length_eq_zero_iff.mp l0
      subst this
      show 2 * ((0 + 1 : Nat) : Int) ≤ lowW f0 w f + 0 + 1
      omega
    · obtain ⟨a, b, rfl⟩ := len_two l2
      have ih1 := low_nest2 U hv S hS a hw.2.1
      have ih2 := low_nest2 U hv S hS b hw.2.2.1
      have p1 := size_lin (lowW_one U) a
      have p2 := size_lin (lowW_one U) b
      have q1 := a.size_pos
      have q2 := b.size_pos
      show 2 * ((max a.nest (max b.nest 0) + 1 : Nat) : Int) ≤ lowW f0 w f + (a.lin _ _ + (b.lin _ _ + 0)) + 1
      omega
def lowB (f0 : Str) (w : Str → Int) : Int := if 3 < w f0 then 153 else 60
def LowT (f0 : Str) (w : Str → Int) (S : Str → Nat → Prop) (t : Ter) : Prop := t.wf S natVar ∧ t.lin (lowW f0 w) (fun _ => 1) ≤ lowB f0 w
theorem LowT.bd {f0 : Str} {w : Str → Int} (U : UpW f0 w) {S : Str → Nat → Prop} (hS : ∀ f n, S f n → shpW f0 f n) {t : Ter} (h : LowT f0 w S t) : t.size ≤ 153 ∧ t.nest ≤ 77 := by
  obtain ⟨h1, h2⟩ := h
  have z := size_lin (lowW_one U) t
  unfold lowB at h2
  by_cases hv : 3 < w f0
  · rw [if_pos hv] at h2
    have := low_nest2 U hv S hS t h1
    exact ⟨by omega, by omega⟩
  · rw [if_neg hv] at h2
    have := nest_size t
    exact ⟨by omega, by omega⟩
theorem LowT.at_ {f0 : Str} {w : Str → Int} (U : UpW f0 w) {S : Str → Nat → Prop} {t u : Ter} {q : List Int} (h : LowT f0 w S t) (e : t.at q = some u) : LowT f0 w S u := by
  refine ⟨(at_wf q t u h.1 e).1, ?_⟩
  have := lin_at (lowW f0 w) (fun _ => 1) (fun f => by have := lowW_one U f; omega) (fun _ => by decide) q t u e
  exact Int.le_trans this h.2
theorem LowT.put {f0 : Str} {w : Str → Int} {S : Str → Nat → Prop} {t u x : Ter} {q : List Int} (h : LowT f0 w S t) (e : t.at q = some u) (hx : x.wf S natVar) (l : x.lin (lowW f0 w) (fun _ => 1) ≤ u.lin (lowW f0 w) (fun _ => 1)) (pw : (t.put x q).wf S natVar) : LowT f0 w S (t.put x q) := by
  refine ⟨pw, ?_⟩
  rw [lin_put _ _ x q t u e]
  have := h.2
  omega
end Own
namespace Own
open PySem PySem.Spec PyProof.Rows L2 HT
end Own
namespace Own
open PySem PySem.Spec PyProof.Rows L2
end Own
namespace Own
open PySem PySem.Spec PyProof.Rows L2 HT
theorem cnt_nn (k : Key) (t : Ter) : 0 ≤ t.cnt k := by
  rw [cnt_lin]
  exact lin_nonneg (fun _ => Int.le_refl 0) (fun x => by split <;> decide) t
theorem cnts_nn (k : Key) (ts : List Ter) : 0 ≤ Ter.cnts k ts := by
  rw [cnts_lin]
  exact lins_nonneg (fun _ => Int.le_refl 0) (fun x => by split <;> decide) ts
theorem mem_addK {acc : List Key} {k x : Key} : x ∈ addK acc k ↔ x ∈ acc ∨ x = k := by
  refine ⟨fun h => ?_, fun h => ?_⟩
  · unfold addK at h
    split at h
    · exact .inl h
    · rcases List.mem_append.mp h with h | h
      · exact .inl h
      · exact .inr (List.mem_singleton.mp h)
  · rcases h with h | rfl
    · unfold addK
      split
      · exact h
      · exact List.mem_append_left _ h
    · exact addK_mem acc x
mutual
theorem mem_into {k : Key} : ∀ (t : Ter) (acc : List Key), k ∈ Ter.into acc t ↔ k ∈ acc ∨ t.cnt k ≠ 0
  | .var x, acc => by
    show k ∈ addK acc x ↔ k ∈ acc ∨ (if x = k then (1 : Int) else 0) ≠ 0
    rw [mem_addK]
    by_cases h : x = k
    · rw [if_pos h]; exact ⟨fun _ => .inr (by decide), fun _ => .inr h.symm⟩
    · rw [if_neg h]; exact ⟨fun z => z.elim .inl fun e => absurd e.symm h, fun z => z.elim .inl fun e => absurd rfl e⟩
  | .ap f as, acc => mem_intos as acc
theorem mem_intos {k : Key} : ∀ (ts : List Ter) (acc : List Key), k ∈ Ter.intos acc ts ↔ k ∈ acc ∨ Ter.cnts k ts ≠ 0
  | [], acc => ⟨.inl, fun z => z.elim id fun e => absurd rfl e⟩
  | a :: r, acc => by
    show k ∈ Ter.intos (Ter.into acc a) r ↔ k ∈ acc ∨ a.cnt k + Ter.cnts k r ≠ 0
    rw [mem_intos r, mem_into a]
    have h1 := cnt_nn k a
    have h2 := cnts_nn k r
    constructor
    · rintro ((h | h) | h)
      · exact .inl h
      · exact .inr (by omega)
      · exact .inr (by omega)
    · rintro (h | h)
      · exact .inl (.inl h)
      · by_cases c : a.cnt k = 0
        · exact .inr (by omega)
        · exact .inl (.inr c)
end
end Own
namespace Own
inductive Rt (up : List Nat) : Nat → Nat → Prop
  | base {r : Nat} : up[r]? = some r → Rt up r r
  | step {i j r : Nat} : up[i]? = some j → j ≠ i → Rt up j r → Rt up i r
def Fo (up : List Nat) (rk : Nat → Nat) : Prop := ∀ i j, up[i]? = some j → j < up.length ∧ (j ≠ i → rk j < rk i)
section
variable {up : List Nat} {rk : Nat → Nat} {i r : Nat}
theorem Rt.root (h : Rt up i r) : up[r]? = some r := by
  induction h with
  | base e => exact e
  | step _ _ _ ih => exact ih
theorem Rt.lt (h : Rt up i r) : i < up.length ∧ r < up.length := by
  refine ⟨?_, (List.getElem?_eq_some_iff.mp h.root).1⟩
  cases h with
  | base e => exact (List.getElem?_eq_some_iff.mp e).1
  | step e _ _ => exact (List.getElem?_eq_some_iff.mp e).1
theorem Rt.uniq {s : Nat} (h : Rt up i r) : Rt up i s → r = s := by
  induction h with
  | base e =>
    intro g
    cases g with
    | base _ => rfl
    | step e' n _ => rw [e] at e'; cases e'; exact absurd rfl n
  | step e n _ ih =>
    intro g
    cases g with
    | base e' => rw [e] at e'; cases e'; exact absurd rfl n
    | step e' _ g => rw [e] at e'; cases e'; exact ih g
theorem Rt.of_root {s : Nat} (e : up[r]? = some r) (h : Rt up r s) : s = r := (Rt.uniq (.base e) h).symm
theorem Fo.ex (F : Fo up rk) : ∀ (n i : Nat), rk i ≤ n → i < up.length → ∃ r, Rt up i r
  | n, i, h, l => by
    have e : up[i]? = some up[i] := List.getElem?_eq_getElem l
    generalize up[i] = j at e
    by_cases c : j = i
    · subst c; exact ⟨_, .base e⟩
    · obtain ⟨h1, h2⟩ := F _ _ e
      have h2 := h2 c
      cases n with
      | zero => omega
      | succ n =>
        obtain ⟨r, g⟩ := Fo.ex F n j (by omega) h1
        exact ⟨r, .step e c g⟩
open Classical in
theorem Rt.link {a b : Nat} (F : Fo up rk) (ha : up[a]? = some a) (hb : up[b]? = some b) (n : a ≠ b) : (∀ k s, Rt (up.set a b) k s ↔ (Rt up k a ∧ s = b) ∨ (Rt up k s ∧ s ≠ a)) ∧ ∃ rk', Fo (up.set a b) rk' := by
  have la := (List.getElem?_eq_some_iff.mp ha).1
  have lb := (List.getElem?_eq_some_iff.mp hb).1
  have ne : ∀ {k}, a ≠ k → (up.set a b)[k]? = up[k]? := fun g => List.getElem?_set_ne g
  have se : (up.set a b)[a]? = some b := List.getElem?_set_self la
  have bb : Rt (up.set a b) b b := .base (by rw [ne n]; exact hb)
  refine ⟨fun k s => ⟨fun g => ?_, fun g => ?_⟩, fun k => if Rt up k a then rk k + rk b + 1 else rk k, fun k j e => ?_⟩
  · induction g with
    | @base k e =>
      by_cases z : a = k
      · subst z; rw [se] at e; cases e; exact absurd rfl n
      · rw [ne z] at e; exact .inr ⟨.base e, fun y => z y.symm⟩
    | @step k j s e m _ ih =>
      by_cases z : a = k
      · subst z
        rw [se] at e
        cases e
        rcases ih with ⟨g, _⟩ | ⟨g, _⟩
        · exact absurd (Rt.of_root hb g) n
        · exact .inl ⟨.base ha, Rt.of_root hb g⟩
      · rw [ne z] at e
        rcases ih with ⟨g, y⟩ | ⟨g, y⟩
        · exact .inl ⟨.step e m g, y⟩
        · exact .inr ⟨.step e m g, y⟩
  · rcases g with ⟨g, rfl⟩ | ⟨g, y⟩
    · have key : ∀ {k t}, Rt up k t → t = a → Rt (up.set a s) k s := fun {k t} g => by
        induction g with
        | @base k e =>
          intro z
          subst z
          exact .step se (fun y => n y.symm) bb
        | @step k j t e m _ ih =>
          intro z
          by_cases w : a = k
          · subst w; rw [ha] at e; cases e; exact absurd rfl m
          · exact .step (by rw [ne w]; exact e) m (ih z)
      exact key g rfl
    · induction g with
      | @base k e => exact .base (by rw [ne fun w => y w.symm]; exact e)
      | @step k j t e m _ ih =>
        by_cases w : a = k
        · subst w; rw [ha] at e; cases e; exact absurd rfl m
        · exact .step (by rw [ne w]; exact e) m (ih y)
  · rw [List.length_set]
    by_cases z : a = k
    · subst z
      rw [se] at e
      cases e
      refine ⟨lb, fun _ => ?_⟩
      show (if Rt up b a then _ else _) < (if Rt up a a then _ else _)
      rw [if_neg (fun g => n (Rt.of_root hb g)), if_pos (.base ha)]
      omega
    · rw [ne z] at e
      obtain ⟨h1, h2⟩ := F _ _ e
      refine ⟨h1, fun m => ?_⟩
      have h2 := h2 m
      show (if Rt up j a then _ else _) < (if Rt up k a then _ else _)
      by_cases w : Rt up j a
      · rw [if_pos w, if_pos (.step e m w)]; omega
      · rw [if_neg w]
        split
        · omega
        · exact h2
theorem Rt.push (F : Fo up rk) : (∀ k s, Rt (up ++ [up.length]) k s ↔ Rt up k s ∨ (k = up.length ∧ s = up.length)) ∧ Fo (up ++ [up.length]) rk := by
  have lt : ∀ {k}, k < up.length → (up ++ [up.length])[k]? = up[k]? := fun h => List.getElem?_append_left h
  have se : (up ++ [up.length])[up.length]? = some up.length := by
    rw [List.getElem?_append_right (Nat.le_refl _), Nat.sub_self]; rfl
  have get : ∀ {k j}, (up ++ [up.length])[k]? = some j → up[k]? = some j ∨ (k = up.length ∧ j = up.length) := fun {k j} e => by
    have l := (List.getElem?_eq_some_iff.mp e).1
    rw [List.length_append, List.length_singleton] at l
    by_cases c : k < up.length
    · rw [lt c] at e; exact .inl e
    · have : k = up.length := by omega
      subst this
      rw [se] at e
      cases e
      exact .inr ⟨rfl, rfl⟩
  refine ⟨fun k s => ⟨fun g => ?_, fun g => ?_⟩, fun k j e => ?_⟩
  · induction g with
    | @base k e =>
      rcases get e with e | ⟨z, _⟩
      · exact .inl (.base e)
      · exact .inr ⟨z, z⟩
    | @step k j s e m _ ih =>
      rcases get e with e | ⟨z, y⟩
      · rcases ih with g | ⟨z, _⟩
        · exact .inl (.step e m g)
        · have := (F _ _ e).1; omega
      · exact absurd (y.trans z.symm) m
  · rcases g with g | ⟨rfl, rfl⟩
    · induction g with
      | @base k e => exact .base (by rw [lt (List.getElem?_eq_some_iff.mp e).1]; exact e)
      | @step k j s e m _ ih => exact .step (by rw [lt (List.getElem?_eq_some_iff.mp e).1]; exact e) m ih
    · exact .base se
  · rw [List.length_append, List.length_singleton]
    rcases get e with e | ⟨z, y⟩
    · obtain ⟨h1, h2⟩ := F _ _ e
      exact ⟨by omega, h2⟩
    · exact ⟨by omega, fun m => absurd (y.trans z.symm) m⟩
end
end Own
namespace Own
open PySem PySem.Spec PyProof.Rows L2 HT
structure GS where
  ts : List Ter
  up : List Nat
  bl : List (Option (List Nat))
  nd : List (Key × Nat)
def ndOf (nd : List (Key × Nat)) (k : Key) : Option Nat := (nd.find? fun e => decide (e.1 = k)).map (·.2)
structure GOk (g : GS) (rk : Nat → Nat) : Prop where
  lu : g.up.length = g.ts.length
  lb : g.bl.length = g.ts.length
  nl : g.nd.length ≤ g.ts.length
  nk : (g.nd.map (·.1)).Nodup
  fo : Fo g.up rk
  nd : ∀ (k : Key) (n : Nat), ndOf g.nd k = some n ↔ g.ts[n]? = some (.var k)
  bl : ∀ (n : Nat) (ns : List Nat), g.bl[n]? = some (some ns) → ∃ (f : Str) (as : List Ter), g.ts[n]? = some (.ap f as) ∧ ns.length = as.length ∧ ∀ (i m : Nat), ns[i]? = some m → g.ts[m]? = as[i]? 
structure GExt (g g' : GS) : Prop where
  ts : ∀ (n : Nat) (t : Ter), g.ts[n]? = some t → g'.ts[n]? = some t
  le : g.ts.length ≤ g'.ts.length
  rt : ∀ (k s : Nat), k < g.ts.length → (Rt g'.up k s ↔ Rt g.up k s)
  new : ∀ (k : Nat), g.ts.length ≤ k → k < g'.ts.length → Rt g'.up k k
  bl : ∀ (n : Nat) (b : Option (List Nat)), g.bl[n]? = some b → g'.bl[n]? = some b
theorem GExt.refl (g : GS) : GExt g g := ⟨fun _ _ h => h, Nat.le_refl _, fun _ _ _ => Iff.rfl, fun _ a b => absurd a (Nat.not_le_of_lt b), fun _ _ h => h⟩
theorem GExt.trans {a b c : GS} (h : GExt a b) (g : GExt b c) : GExt a c :=
  ⟨fun n t e => g.ts n t (h.ts n t e), Nat.le_trans h.le g.le, fun k s l => (g.rt k s (Nat.lt_of_lt_of_le l h.le)).trans (h.rt k s l), fun k l l' => by
    by_cases z : k < b.ts.length
    · exact (g.rt k k z).mpr (h.new k l z)
    · exact g.new k (by omega) l', fun n x e => g.bl n x (h.bl n x e)⟩
theorem get_snoc {α : Type} {l : List α} {x : α} {n : Nat} {y : α} : (l ++ [x])[n]? = some y ↔ l[n]? = some y ∨ (n = l.length ∧ y = x) := by
  by_cases c : n < l.length
  · rw [List.getElem?_append_left c]
    exact ⟨.inl, fun z => z.elim id fun z => absurd z.1 (by omega)⟩
  · rw [List.getElem?_append_right (by omega)]
    constructor
    · intro h
      have : n - l.length < 1 := (List.getElem?_eq_some_iff.mp h).1
      have e : n = l.length := by omega
      subst e
      rw [Nat.sub_self] at h
      cases h
      exact .inr ⟨rfl, rfl⟩
    · rintro (h | ⟨rfl, rfl⟩)
      · exact absurd (List.getElem?_eq_some_iff.mp h).1 c
      · rw [Nat.sub_self]; rfl
def loadG : List Ter → List (Option (List Nat)) → Nat
  | t :: ts, b :: bs => (if b.isNone = true then t.size else 1) + loadG ts bs
  | _, _ => 0
theorem load_len : ∀ (ts : List Ter) (bs : List (Option (List Nat))), ts.length = bs.length → ts.length ≤ loadG ts bs
  | [], [], _ => Nat.le_refl _
  | a :: ts, b :: bs, h => by
    have := load_len ts bs (Nat.succ.inj h)
    have := a.size_pos
    show ts.length + 1 ≤ (if b.isNone = true then a.size else 1) + loadG ts bs
    split <;> omega
  | [], _ :: _, h => by cases h
  | _ :: _, [], h => by cases h
structure GEqv (g g' : GS) : Prop where
  ts : g'.ts = g.ts
  bl : g'.bl = g.bl
  nd : g'.nd = g.nd
  lu : g'.up.length = g.up.length
  rt : ∀ k s, Rt g'.up k s ↔ Rt g.up k s
theorem GEqv.refl (g : GS) : GEqv g g := ⟨rfl, rfl, rfl, rfl, fun _ _ => Iff.rfl⟩
theorem GEqv.trans {a b c : GS} (h : GEqv a b) (k : GEqv b c) : GEqv a c := ⟨k.ts.trans h.ts, k.bl.trans h.bl, k.nd.trans h.nd, k.lu.trans h.lu, fun x y => (k.rt x y).trans (h.rt x y)⟩
theorem GOk.eqv {g g' : GS} {rk : Nat → Nat} (G : GOk g rk) (h : GEqv g g') (F : Fo g'.up rk) : GOk g' rk :=
  ⟨by rw [h.lu, h.ts]; exact G.lu, by rw [h.bl, h.ts]; exact G.lb, by rw [h.nd, h.ts]; exact G.nl, by rw [h.nd]; exact G.nk, F, by rw [h.nd, h.ts]; exact G.nd, by rw [h.bl, h.ts]; exact G.bl⟩
theorem GOk.set {g : GS} {rk : Nat → Nat} (G : GOk g rk) {n : Nat} {f : Str} {as : List Ter} {ns : List Nat} (h : g.ts[n]? = some (.ap f as)) (l : ns.length = as.length) (hn : ∀ (i m : Nat), ns[i]? = some m → g.ts[m]? = as[i]?) : GOk ⟨g.ts, g.up, g.bl.set n (some ns), g.nd⟩ rk :=
  ⟨G.lu, by rw [List.length_set]; exact G.lb, G.nl, G.nk, G.fo, G.nd, fun k ks e => by
    by_cases c : n = k
    · subst c
      have : (g.bl.set n (some ns))[n]? = some (some ks) := e
      rw [List.getElem?_set_self (by rw [G.lb]; exact (List.getElem?_eq_some_iff.mp h).1)] at this
      cases this
      exact ⟨f, as, h, l, hn⟩
    · have : (g.bl.set n (some ns))[k]? = some (some ks) := e
      rw [List.getElem?_set_ne c] at this
      exact G.bl k ks this⟩
end Own
namespace Own
open PySem PySem.Spec PyProof.Rows L2 HT
theorem binds_map (s : Key → Ter) : ∀ ts : List Ter, Ter.binds s ts = ts.map (Ter.bind s)
  | [] => rfl
  | a :: r => congrArg (a.bind s :: ·) (binds_map s r)
theorem binds_get (s : Key → Ter) (ts : List Ter) (i : Nat) : (Ter.binds s ts)[i]? = (ts[i]?).map (Ter.bind s) := by rw [binds_map, List.getElem?_map]
structure GMore (g g' : GS) : Prop where
  ts : ∀ (n : Nat) (t : Ter), g.ts[n]? = some t → g'.ts[n]? = some t
  le : g.ts.length ≤ g'.ts.length
  rt : ∀ (k s : Nat), k < g.ts.length → (Rt g'.up k s ↔ Rt g.up k s)
  new : ∀ (k : Nat), g.ts.length ≤ k → k < g'.ts.length → Rt g'.up k k
  bl : ∀ (n : Nat) (ns : List Nat), g.bl[n]? = some (some ns) → g'.bl[n]? = some (some ns)
theorem GMore.refl (g : GS) : GMore g g := ⟨fun _ _ h => h, Nat.le_refl _, fun _ _ _ => Iff.rfl, fun _ a b => absurd a (Nat.not_le_of_lt b), fun _ _ h => h⟩
theorem GMore.trans {a b c : GS} (h : GMore a b) (g : GMore b c) : GMore a c :=
  ⟨fun n t e => g.ts n t (h.ts n t e), Nat.le_trans h.le g.le, fun k s l => (g.rt k s (Nat.lt_of_lt_of_le l h.le)).trans (h.rt k s l), fun k l l' => by
    by_cases z : k < b.ts.length
    · exact (g.rt k k z).mpr (h.new k l z)
    · exact g.new k (by omega) l', fun n x e => g.bl n x (h.bl n x e)⟩
theorem GExt.more {g g' : GS} (h : GExt g g') : GMore g g' := ⟨h.ts, h.le, h.rt, h.new, fun n ns e => h.bl n _ e⟩
theorem GEqv.more {g g' : GS} (h : GEqv g g') : GMore g g' :=
  ⟨fun n t e => by rw [h.ts]; exact e, by rw [h.ts]; exact Nat.le_refl _, fun k s _ => h.rt k s, fun k a b => by rw [h.ts] at b; omega, fun n ns e => by rw [h.bl]; exact e⟩
structure Her (p : Ter → Prop) : Prop where
  dn : ∀ f as, p (.ap f as) → ∀ a ∈ as, p a
  sz : ∀ t, p t → t.size ≤ 100000
  va : ∀ k, p (.var k) → ∃ i : Int, k = .inl i
  ar : ∀ f as, p (.ap f as) → as.length ≤ 8
structure GInv (p : Ter → Prop) (L : Nat) (g : GS) (rk : Nat → Nat) : Prop where
  ok : GOk g rk
  al : ∀ (n : Nat) (t : Ter), g.ts[n]? = some t → p t
  ld : loadG g.ts g.bl ≤ L
section
variable {p : Ter → Prop} {L : Nat} {g g' : GS} {rk : Nat → Nat}
theorem GInv.eqv (G : GInv p L g rk) (h : GEqv g g') (F : GOk g' rk) : GInv p L g' rk :=
  ⟨F, by rw [h.ts]; exact G.al, by rw [h.ts, h.bl]; exact G.ld⟩
theorem GInv.len (G : GInv p L g rk) : g.ts.length ≤ L := Nat.le_trans (load_len _ _ G.ok.lb.symm) G.ld
def ArgR (g : GS) (n : Nat) (rs : List Nat) : Prop := ∃ ns, g.bl[n]? = some (some ns) ∧ rs.length = ns.length ∧ ∀ (i m : Nat), ns[i]? = some m → ∃ r, rs[i]? = some r ∧ Rt g.up m r
theorem ArgR.more {n : Nat} {rs : List Nat} (h : ArgR g n rs) (ok : GOk g rk) (m : GMore g g') : ArgR g' n rs := by
  obtain ⟨ns, h1, h2, h3⟩ := h
  refine ⟨ns, m.bl n ns h1, h2, fun i k e => ?_⟩
  obtain ⟨r, e1, e2⟩ := h3 i k e
  exact ⟨r, e1, (m.rt k r (by rw [← ok.lu]; exact e2.lt.1)).mpr e2⟩
theorem ArgR.uniq {n : Nat} {rs qs : List Nat} (h : ArgR g n rs) (k : ArgR g n qs) : rs = qs := by
  obtain ⟨ns, h1, h2, h3⟩ := h
  obtain ⟨ms, k1, k2, k3⟩ := k
  rw [h1] at k1
  cases k1
  apply List.ext_getElem?
  intro i
  cases e : ns[i]? with
  | none =>
    have := List.getElem?_eq_none_iff.mp e
    rw [List.getElem?_eq_none (by omega), List.getElem?_eq_none (by omega)]
  | some m =>
    obtain ⟨r, r1, r2⟩ := h3 i m e
    obtain ⟨q, q1, q2⟩ := k3 i m e
    rw [r1, q1, r2.uniq q2]
theorem ArgR.root {n : Nat} {rs : List Nat} (h : ArgR g n rs) {i r : Nat} (e : rs[i]? = some r) : Rt g.up r r := by
  obtain ⟨ns, h1, h2, h3⟩ := h
  have l : i < ns.length := by rw [← h2]; exact (List.getElem?_eq_some_iff.mp e).1
  obtain ⟨r', e1, e2⟩ := h3 i ns[i] (List.getElem?_eq_getElem l)
  rw [e] at e1
  cases e1
  exact .base e2.root
def Rsp {α : Type} (g : GS) (v : Nat → α) : Prop := ∀ (n r : Nat), Rt g.up n r → v n = v r
def Pnd {α : Type} (W : List (Nat × Nat)) (v : Nat → α) : Prop := ∀ q ∈ W, v q.1 = v q.2
def Ent (g : GS) (W : List (Nat × Nat)) (x y : Nat) : Prop := ∀ v : Nat → Nat, Rsp g v → Pnd W v → v x = v y
structure GCl (g : GS) (W : List (Nat × Nat)) : Prop where
  ap : ∀ (n r : Nat) (f : Str) (as : List Ter), Rt g.up n r → n ≠ r → g.ts[n]? = some (.ap f as) → ∃ (bs : List Ter) (ns rs : List Nat), g.ts[r]? = some (.ap f bs) ∧ bs.length = as.length ∧ g.bl[n]? = some (some ns) ∧ g.bl[r]? = some (some rs) ∧ ∀ (i x y : Nat), ns[i]? = some x → rs[i]? = some y → Ent g W x y
  va : ∀ (n r : Nat) (j : Int), Rt g.up n r → g.ts[r]? = some (.var (.inl j)) → ∃ i : Int, g.ts[n]? = some (.var (.inl i)) ∧ j ≤ i
def tv (θ : Key → Ter) (g : GS) (n : Nat) : Option Ter := (g.ts[n]?).map (Ter.bind θ)
abbrev GSnd (θ : Key → Ter) (g : GS) : Prop := Rsp g (tv θ g)
theorem tv_at {θ : Key → Ter} {n : Nat} {t : Ter} (e : g.ts[n]? = some t) : tv θ g n = some (t.bind θ) := by unfold tv; rw [e]; rfl
theorem tv_more {θ : Key → Ter} (m : GMore g g') {n : Nat} (l : n < g.ts.length) : tv θ g' n = tv θ g n := by
  have e : g.ts[n]? = some g.ts[n] := List.getElem?_eq_getElem l
  rw [tv_at e, tv_at (m.ts _ _ e)]
theorem Rsp.back {α : Type} {v : Nat → α} (ok : GOk g rk) (m : GMore g g') (h : Rsp g' v) : Rsp g v := fun n r e => h n r ((m.rt n r (by rw [← ok.lu]; exact e.lt.1)).mpr e)
theorem GMore.rts {rk' : Nat → Nat} (m : GMore g g') (ok : GOk g rk) (ok' : GOk g' rk') {n r : Nat} (e : Rt g'.up n r) : (Rt g.up n r ∧ n < g.ts.length) ∨ n = r := by
  by_cases c : n < g.ts.length
  · exact .inl ⟨(m.rt n r c).mp e, c⟩
  · have l : n < g'.ts.length := by rw [← ok'.lu]; exact e.lt.1
    exact .inr ((m.new n (by omega) l).uniq e)
theorem GSnd.more {rk' : Nat → Nat} {θ : Key → Ter} (h : GSnd θ g) (m : GMore g g') (ok : GOk g rk) (ok' : GOk g' rk') : GSnd θ g' := fun n r e => by
  rcases m.rts ok ok' e with ⟨e, l⟩ | rfl
  · rw [tv_more m l, tv_more m (by rw [← ok.lu]; exact e.lt.2)]; exact h n r e
  · rfl
theorem Ent.more {W W' : List (Nat × Nat)} {x y : Nat} (k : ∀ v : Nat → Nat, Rsp g' v → Pnd W' v → Rsp g v ∧ Pnd W v) (h : Ent g W x y) : Ent g' W' x y := fun v a b => h v (k v a b).1 (k v a b).2
theorem GCl.more {W : List (Nat × Nat)} {rk' : Nat → Nat} (h : GCl g W) (m : GMore g g') (ok : GOk g rk) (ok' : GOk g' rk') (hp : Her p) (al : ∀ (n : Nat) (t : Ter), g'.ts[n]? = some t → p t) : GCl g' W := by
  refine ⟨fun n r f as e ne et => ?_, fun n r j e et => ?_⟩
  · rcases m.rts ok ok' e with ⟨e, l⟩ | rfl
    · have e0 : g.ts[n]? = some g.ts[n] := List.getElem?_eq_getElem l
      have := m.ts _ _ e0
      rw [et] at this
      obtain ⟨bs, ns, rs, h1, h2, h3, h4, h5⟩ := h.ap n r f as e ne (by rw [e0, ← this])
      exact ⟨bs, ns, rs, m.ts _ _ h1, h2, m.bl _ _ h3, m.bl _ _ h4, fun i x y hx hy => (h5 i x y hx hy).more fun v a b => ⟨a.back ok m, b⟩⟩
    · exact absurd rfl ne
  · rcases m.rts ok ok' e with ⟨e, l⟩ | rfl
    · have lr : r < g.ts.length := by rw [← ok.lu]; exact e.lt.2
      have e0 : g.ts[r]? = some g.ts[r] := List.getElem?_eq_getElem lr
      have e1 := m.ts _ _ e0
      rw [et] at e1
      obtain ⟨i, h1, h2⟩ := h.va n r j e (by rw [e0, ← e1])
      exact ⟨i, m.ts _ _ h1, h2⟩
    · exact ⟨j, et, Int.le_refl _⟩
def GS.link (g : GS) (a b : Nat) : GS := ⟨g.ts, g.up.set a b, g.bl, g.nd⟩
theorem GOk.link {a b : Nat} (G : GOk g rk) (ha : Rt g.up a a) (hb : Rt g.up b b) (n : a ≠ b) : ∃ rk', GOk (g.link a b) rk' := by
  obtain ⟨_, rk', h⟩ := Rt.link G.fo ha.root hb.root n
  exact ⟨rk', by show (g.up.set a b).length = _; rw [List.length_set]; exact G.lu, G.lb, G.nl, G.nk, h, G.nd, G.bl⟩
theorem link_rt {a b : Nat} (G : GOk g rk) (ha : Rt g.up a a) (hb : Rt g.up b b) (n : a ≠ b) (k s : Nat) : Rt (g.link a b).up k s ↔ (Rt g.up k a ∧ s = b) ∨ (Rt g.up k s ∧ s ≠ a) := (Rt.link G.fo ha.root hb.root n).1 k s
theorem link_rsp {α : Type} {a b : Nat} (G : GOk g rk) (ha : Rt g.up a a) (hb : Rt g.up b b) (n : a ≠ b) (v : Nat → α) : Rsp (g.link a b) v ↔ Rsp g v ∧ v a = v b := by
  have hab : Rt (g.link a b).up a b := (link_rt G ha hb n a b).mpr (.inl ⟨ha, rfl⟩)
  constructor
  · intro h
    refine ⟨fun k r e => ?_, h _ _ hab⟩
    by_cases c : r = a
    · subst c
      rw [h _ _ ((link_rt G ha hb n k b).mpr (.inl ⟨e, rfl⟩)), ← h _ _ hab]
    · exact h _ _ ((link_rt G ha hb n k r).mpr (.inr ⟨e, c⟩))
  · rintro ⟨h, hv⟩ k s e
    rcases (link_rt G ha hb n k s).mp e with ⟨e1, e2⟩ | ⟨e1, _⟩
    · rw [h _ _ e1, hv, e2]
    · exact h _ _ e1
end
end Own
namespace Own
open PySem PySem.Spec PyProof.Rows L2 HT
structure MInv (g0 : GS) (a0 b0 : Nat) (W : List (Nat × Nat)) (g : GS) : Prop where
  ts : ∀ (n : Nat) (t : Ter), g0.ts[n]? = some t → g.ts[n]? = some t
  wl : ∀ q ∈ W, q.1 < g.ts.length ∧ q.2 < g.ts.length
  bk : ∀ v : Nat → Nat, Rsp g v → Pnd W v → Rsp g0 v ∧ v a0 = v b0
  fw : ∀ θ : Key → Ter, GSnd θ g0 → tv θ g0 a0 = tv θ g0 b0 → GSnd θ g ∧ Pnd W (tv θ g)
  cl : GCl g W
section
variable {p : Ter → Prop} {L : Nat} {g0 g g' : GS} {rk rk' : Nat → Nat} {a0 b0 : Nat} {W : List (Nat × Nat)} {x y : Nat}
theorem MInv.init (G : GInv p L g rk) (c : GCl g []) (ha : a0 < g.ts.length) (hb : b0 < g.ts.length) : MInv g a0 b0 [(a0, b0)] g :=
  ⟨fun _ _ h => h, fun q hq => by rw [List.mem_singleton.mp hq]; exact ⟨ha, hb⟩, fun v a b => ⟨a, b _ (List.mem_singleton.mpr rfl)⟩, fun θ a b => ⟨a, fun q hq => by rw [List.mem_singleton.mp hq]; exact b⟩,
    ⟨fun n r f as e ne et => by
      obtain ⟨bs, ns, rs, h1, h2, h3, h4, h5⟩ := c.ap n r f as e ne et
      exact ⟨bs, ns, rs, h1, h2, h3, h4, fun i x y hx hy => (h5 i x y hx hy).more fun v a _ => ⟨a, fun q hq => (List.not_mem_nil hq).elim⟩⟩, c.va⟩⟩
theorem MInv.more (M : MInv g0 a0 b0 W g) (m : GMore g g') (hp : Her p) (ok : GOk g rk) (G : GInv p L g' rk') : MInv g0 a0 b0 W g' := by
  refine ⟨fun n t h => m.ts _ _ (M.ts n t h), fun q hq => ⟨Nat.lt_of_lt_of_le (M.wl q hq).1 m.le, Nat.lt_of_lt_of_le (M.wl q hq).2 m.le⟩, fun v a b => M.bk v (a.back ok m) b, fun θ a b => ?_, M.cl.more m ok G.ok hp G.al⟩
  obtain ⟨h1, h2⟩ := M.fw θ a b
  refine ⟨h1.more m ok G.ok, fun q hq => ?_⟩
  rw [tv_more m (M.wl q hq).1, tv_more m (M.wl q hq).2]
  exact h2 q hq
theorem GCl.mono {W' : List (Nat × Nat)} (c : GCl g W) (k : ∀ v : Nat → Nat, Rsp g v → Pnd W' v → Pnd W v) : GCl g W' :=
  ⟨fun n r f as e ne et => by
    obtain ⟨bs, ns, rs, h1, h2, h3, h4, h5⟩ := c.ap n r f as e ne et
    exact ⟨bs, ns, rs, h1, h2, h3, h4, fun i x y hx hy => (h5 i x y hx hy).more fun v a b => ⟨a, k v a b⟩⟩, c.va⟩
theorem pnd_snoc {α : Type} {v : Nat → α} : Pnd (W ++ [(x, y)]) v ↔ Pnd W v ∧ v x = v y :=
  ⟨fun h => ⟨fun q hq => h q (List.mem_append_left _ hq), h (x, y) (List.mem_append_right _ (List.mem_singleton.mpr rfl))⟩, fun h q hq => by
    rcases List.mem_append.mp hq with hq | hq
    · exact h.1 q hq
    · rw [List.mem_singleton.mp hq]; exact h.2⟩
theorem MInv.skip {r : Nat} (M : MInv g0 a0 b0 (W ++ [(x, y)]) g) (hx : Rt g.up x r) (hy : Rt g.up y r) : MInv g0 a0 b0 W g :=
  have k : ∀ v : Nat → Nat, Rsp g v → Pnd W v → Pnd (W ++ [(x, y)]) v := fun v a b => pnd_snoc.mpr ⟨b, (a _ _ hx).trans (a _ _ hy).symm⟩
  ⟨M.ts, fun q hq => M.wl q (List.mem_append_left _ hq), fun v a b => M.bk v a (k v a b), fun θ a b => ⟨(M.fw θ a b).1, (pnd_snoc.mp (M.fw θ a b).2).1⟩, M.cl.mono k⟩
theorem MInv.fws {a b : Nat} (M : MInv g0 a0 b0 (W ++ [(x, y)]) g) (hx : Rt g.up x a) (hy : Rt g.up y b) (θ : Key → Ter) (h1 : GSnd θ g0) (h2 : tv θ g0 a0 = tv θ g0 b0) : GSnd θ g ∧ Pnd W (tv θ g) ∧ tv θ g a = tv θ g b := by
  obtain ⟨k1, k2⟩ := M.fw θ h1 h2
  obtain ⟨k2, k3⟩ := pnd_snoc.mp k2
  exact ⟨k1, k2, by rw [← k1 _ _ hx, ← k1 _ _ hy, k3]⟩
theorem zip_get {l r : List Nat} {i x y : Nat} (h1 : l[i]? = some x) (h2 : r[i]? = some y) : (x, y) ∈ l.zip r := by
  have : (l.zip r)[i]? = some (x, y) := by rw [List.getElem?_zip_eq_some]; exact ⟨h1, h2⟩
  exact List.mem_of_getElem? this
theorem MInv.join {a b : Nat} {f : Str} {as bs : List Ter} {rs qs : List Nat} (M : MInv g0 a0 b0 (W ++ [(x, y)]) g) (ok : GOk g rk) (hx : Rt g.up x a) (hy : Rt g.up y b) (n : a ≠ b) (ea : g.ts[a]? = some (.ap f as)) (eb : g.ts[b]? = some (.ap f bs)) (hl : as.length = bs.length) (Ra : ArgR g a rs) (Rb : ArgR g b qs) :
    MInv g0 a0 b0 (W ++ rs.zip qs) (g.link a b) := by
  have ra : Rt g.up a a := .base hx.root
  have rb : Rt g.up b b := .base hy.root
  have rsp : ∀ {α : Type} (v : Nat → α), Rsp (g.link a b) v ↔ Rsp g v ∧ v a = v b := fun v => link_rsp ok ra rb n v
  have app : ∀ {α : Type} {v : Nat → α}, Pnd (W ++ rs.zip qs) v ↔ Pnd W v ∧ Pnd (rs.zip qs) v := fun {α v} =>
    ⟨fun h => ⟨fun q hq => h q (List.mem_append_left _ hq), fun q hq => h q (List.mem_append_right _ hq)⟩, fun h q hq => (List.mem_append.mp hq).elim (h.1 q) (h.2 q)⟩
  have back : ∀ v : Nat → Nat, Rsp (g.link a b) v → Pnd (W ++ rs.zip qs) v → Rsp g v ∧ Pnd (W ++ [(x, y)]) v := fun v h1 h2 => by
    obtain ⟨k1, k2⟩ := (rsp v).mp h1
    exact ⟨k1, pnd_snoc.mpr ⟨(app.mp h2).1, by rw [k1 _ _ hx, k1 _ _ hy, k2]⟩⟩
  have Ra0 := Ra
  have Rb0 := Rb
  obtain ⟨na, na1, na2, na3⟩ := Ra
  obtain ⟨nb, nb1, nb2, nb3⟩ := Rb
  have ga : na.length = as.length := by
    obtain ⟨f', as', e1, e2, _⟩ := ok.bl _ _ na1
    rw [ea] at e1; cases e1; exact e2
  have gb : nb.length = bs.length := by
    obtain ⟨f', as', e1, e2, _⟩ := ok.bl _ _ nb1
    rw [eb] at e1; cases e1; exact e2
  have ent : ∀ (i u w : Nat), na[i]? = some u → nb[i]? = some w → Ent (g.link a b) (W ++ rs.zip qs) u w := fun i u w hu hw v h1 h2 => by
    obtain ⟨r, r1, r2⟩ := na3 i u hu
    obtain ⟨q, q1, q2⟩ := nb3 i w hw
    have k1 := ((rsp v).mp h1).1
    rw [k1 _ _ r2, k1 _ _ q2]
    exact (app.mp h2).2 _ (zip_get r1 q1)
  refine ⟨M.ts, fun q hq => ?_, fun v h1 h2 => M.bk v (back v h1 h2).1 (back v h1 h2).2, fun θ h1 h2 => ?_, fun m s h cs e ne et => ?_, fun m s j e et => ?_⟩
  · rcases List.mem_append.mp hq with hq | hq
    · exact M.wl q (List.mem_append_left _ hq)
    · obtain ⟨i, hi⟩ := List.mem_iff_getElem?.mp hq
      obtain ⟨e1, e2⟩ := List.getElem?_zip_eq_some.mp hi
      show q.1 < g.ts.length ∧ q.2 < g.ts.length
      rw [← ok.lu]
      exact ⟨(Ra0.root e1).lt.1, (Rb0.root e2).lt.1⟩
  · obtain ⟨k1, k2, k3⟩ := M.fws hx hy θ h1 h2
    refine ⟨(rsp _).mpr ⟨k1, k3⟩, app.mpr ⟨k2, fun q hq => ?_⟩⟩
    obtain ⟨i, hi⟩ := List.mem_iff_getElem?.mp hq
    obtain ⟨e1, e2⟩ := List.getElem?_zip_eq_some.mp hi
    rw [tv_at ea, tv_at eb] at k3
    have h4 : Ter.ap f (Ter.binds θ as) = Ter.ap f (Ter.binds θ bs) := Option.some.inj k3
    injection h4 with _ h6
    have la : i < na.length := by rw [← na2]; exact (List.getElem?_eq_some_iff.mp e1).1
    have lb : i < nb.length := by rw [← nb2]; exact (List.getElem?_eq_some_iff.mp e2).1
    obtain ⟨r, r1, r2⟩ := na3 i _ (List.getElem?_eq_getElem la)
    obtain ⟨z, z1, z2⟩ := nb3 i _ (List.getElem?_eq_getElem lb)
    rw [e1] at r1
    cases r1
    rw [e2] at z1
    cases z1
    have hla : i < as.length := by omega
    have hlb : i < bs.length := by omega
    have ta : tv θ g na[i] = some ((as[i]'hla).bind θ) := by
      obtain ⟨f', as', e3, _, e4⟩ := ok.bl _ _ na1
      rw [ea] at e3
      cases e3
      have := e4 i _ (List.getElem?_eq_getElem la)
      rw [List.getElem?_eq_getElem hla] at this
      exact tv_at this
    have tb : tv θ g nb[i] = some ((bs[i]'hlb).bind θ) := by
      obtain ⟨f', as', e3, _, e4⟩ := ok.bl _ _ nb1
      rw [eb] at e3
      cases e3
      have := e4 i _ (List.getElem?_eq_getElem lb)
      rw [List.getElem?_eq_getElem hlb] at this
      exact tv_at this
    show tv θ g q.1 = tv θ g q.2
    rw [← k1 _ _ r2, ← k1 _ _ z2, ta, tb]
    have h7 : (Ter.binds θ as)[i]? = (Ter.binds θ bs)[i]? := by rw [h6]
    rw [binds_get, binds_get, List.getElem?_eq_getElem hla, List.getElem?_eq_getElem hlb] at h7
    exact h7
  · have et' : g.ts[m]? = some (.ap h cs) := et
    clear et
    rcases (link_rt ok ra rb n m s).mp e with ⟨e', z⟩ | ⟨e', _⟩
    · subst z
      by_cases c : m = a
      · subst c
        rw [ea] at et'
        cases et'
        exact ⟨bs, na, nb, eb, hl.symm, na1, nb1, ent⟩
      · obtain ⟨ds, ns, rs', h1, h2, h3, h4, h5⟩ := M.cl.ap m a h cs e' c et'
        rw [ea] at h1
        cases h1
        rw [na1] at h4
        cases h4
        refine ⟨bs, ns, nb, eb, by rw [← h2]; exact hl.symm, h3, nb1, fun i u w hu hw => ?_⟩
        have li : i < na.length := by
          have := (List.getElem?_eq_some_iff.mp hw).1
          omega
        have k1 := (h5 i u na[i] hu (List.getElem?_eq_getElem li)).more back
        have k2 := ent i na[i] w (List.getElem?_eq_getElem li) hw
        exact fun v a b => (k1 v a b).trans (k2 v a b)
    · obtain ⟨ds, ns, rs', h1, h2, h3, h4, h5⟩ := M.cl.ap m s h cs e' ne et'
      exact ⟨ds, ns, rs', h1, h2, h3, h4, fun i x y hx hy => (h5 i x y hx hy).more back⟩
  · have et' : g.ts[s]? = some (.var (.inl j)) := et
    clear et
    rcases (link_rt ok ra rb n m s).mp e with ⟨e', z⟩ | ⟨e', _⟩
    · subst z; rw [eb] at et'; cases et'
    · exact M.cl.va m s j e' et'
end
open Classical in
noncomputable def rtF (up : List Nat) (n : Nat) : Nat := if h : ∃ r, Rt up n r then h.choose else n
theorem rtF_at {up : List Nat} {n r : Nat} (h : Rt up n r) : rtF up n = r := by
  have e : ∃ r, Rt up n r := ⟨r, h⟩
  unfold rtF
  rw [dif_pos e]
  exact e.choose_spec.uniq h
theorem rtF_rsp (g : GS) : Rsp g (rtF g.up) := fun n r h => by rw [rtF_at h, rtF_at (.base h.root)]
theorem Ent.same {g : GS} {x y : Nat} (h : Ent g [] x y) : rtF g.up x = rtF g.up y := h _ (rtF_rsp g) fun _ q => nomatch q
theorem GOk.rtF {g : GS} {rk : Nat → Nat} (G : GOk g rk) {n : Nat} (h : n < g.ts.length) : Rt g.up n (rtF g.up n) := by
  obtain ⟨r, e⟩ := Fo.ex G.fo (rk n) n (Nat.le_refl _) (by rw [G.lu]; exact h)
  rw [rtF_at e]
  exact e
end Own
namespace Own
open PySem PySem.Spec PyProof.Rows L2 HT
abbrev ZF (h : Heap) (z TI TO : Addr) (v : Value) (f : Bool) : Prop := h.get? z = some { cls := .type "zip", dict := none, data := .fields #[v, .bool f, .bool false, .ref TI, .ref TO], slots := #[] }
section
variable {prog : Program} {w : World} {A : Around} {E : Value → Shared → Prop} {s : Shared}
def ZK (h : Heap) (z TI TO : Addr) : Prop := ZF h z TI TO .none false ∨ ∃ (T : Addr) (f : Bool), ZF h z TI TO (rawInt T) f
theorem ZK.ty {z TI TO : Addr} (hz : ZK s.heap z TI TO) : s.TypeIs (.ref z) "zip" := hz.elim (fun h => ⟨_, h, rfl⟩) fun ⟨_, _, h⟩ => ⟨_, h, rfl⟩
end
end Own
namespace Own
open PySem PySem.Spec PyProof.Rows L2 HT
structure ND (kvs : List (Key × V)) (B : Nat) (f : Nat → Option V) : Prop where
  vl : ∀ n : Nat, valV kvs (.inl (n : Int)) = f n
  nd : (kvs.map (·.1)).Nodup
  kb : ∀ k ∈ kvs.map (·.1), ∃ n : Nat, n < B ∧ k = .inl (n : Int)
theorem ND.nil (B : Nat) : ND [] B fun _ => none := ⟨fun _ => rfl, List.nodup_nil, fun _ h => nomatch h⟩
theorem ND.len {kvs : List (Key × V)} {B : Nat} {f : Nat → Option V} (h : ND kvs B f) : kvs.length ≤ B := by
  have := nodup_sub _ ((List.range B).map fun n : Nat => (Sum.inl (n : Int) : Key)) h.nd fun k hk => by
    obtain ⟨n, l, e⟩ := h.kb k hk
    exact List.mem_map.mpr ⟨n, List.mem_range.mpr l, e.symm⟩
  rwa [List.length_map, List.length_map, List.length_range] at this
theorem ND.put {kvs : List (Key × V)} {B : Nat} {f : Nat → Option V} (h : ND kvs B f) {n : Nat} (l : n < B) (v : V) : ND (putK kvs (.inl (n : Int)) v) B (fun m => if m = n then some v else f m) ∧ ((f n).isSome = true → (putK kvs (.inl (n : Int)) v).length = kvs.length) ∧ (f n = none → (putK kvs (.inl (n : Int)) v).length = kvs.length + 1) := by
  have hv : ∀ m : Nat, valV (putK kvs (.inl (n : Int)) v) (.inl (m : Int)) = if m = n then some v else f m := fun m => by
    rw [valV_put, h.vl]
    by_cases c : m = n
    · rw [if_pos (by rw [c]), if_pos c]
    · rw [if_neg (fun z => c (by have := Sum.inl.inj z; omega)), if_neg c]
  cases e : f n with
  | none =>
    have e' : valV kvs (.inl (n : Int)) = none := by rw [h.vl, e]
    have ep := putK_new v e'
    refine ⟨⟨hv, ?_, fun k hk => ?_⟩, (fun z => by cases z), fun _ => by rw [ep, List.length_append]; rfl⟩
    · rw [ep, List.map_append, List.nodup_append]
      refine ⟨h.nd, List.nodup_cons.mpr ⟨List.not_mem_nil, List.nodup_nil⟩, fun a ha b hb => ?_⟩
      rw [List.mem_singleton.mp hb]
      intro z
      rw [z] at ha
      obtain ⟨p, hp, hpe⟩ := List.mem_map.mp ha
      have ha : (kvs.any fun kv => decide (kv.1 = (Sum.inl (n : Int) : Key))) = true := List.any_eq_true.mpr ⟨p, hp, decide_eq_true hpe⟩
      rw [valV_any, e'] at ha
      cases ha
    · rw [ep, List.map_append] at hk
      rcases List.mem_append.mp hk with hk | hk
      · exact h.kb k hk
      · exact ⟨n, l, List.mem_singleton.mp hk⟩
  | some x =>
    have e' : valV kvs (.inl (n : Int)) = some x := by rw [h.vl, e]
    have a : (kvs.any fun kv => decide (kv.1 = (Sum.inl (n : Int) : Key))) = true := by rw [valV_any, e']; rfl
    have ep : putK kvs (.inl (n : Int)) v = kvs.map fun kv => if kv.1 = .inl (n : Int) then (kv.1, v) else kv := by unfold putK; rw [if_pos a]
    have ek : (putK kvs (.inl (n : Int)) v).map (·.1) = kvs.map (·.1) := by
      rw [ep, List.map_map]
      refine List.map_congr_left fun kv _ => ?_
      show (if kv.1 = .inl (n : Int) then (kv.1, v) else kv).1 = kv.1
      split <;> rfl
    exact ⟨⟨hv, by rw [ek]; exact h.nd, by rw [ek]; exact h.kb⟩, fun _ => by rw [ep, List.length_map], fun z => by cases z⟩
section
variable {p : Ter → Prop} {L : Nat} {g g' : GS} {rk rk' : Nat → Nat}
def Kids (g : GS) (n : Nat) (rs : List Nat) : Prop := ((∃ k, g.ts[n]? = some (.var k)) ∧ rs = []) ∨ ∃ f as, g.ts[n]? = some (.ap f as) ∧ rs.length = as.length ∧ ArgR g n rs
theorem Kids.more {n : Nat} {rs : List Nat} (h : Kids g n rs) (ok : GOk g rk) (m : GMore g g') : Kids g' n rs := by
  rcases h with ⟨⟨k, e⟩, z⟩ | ⟨f, as, e, l, h⟩
  · exact .inl ⟨⟨k, m.ts _ _ e⟩, z⟩
  · exact .inr ⟨f, as, m.ts _ _ e, l, h.more ok m⟩
def FCl (g : GS) (F : List Nat) : Prop := ∀ (i n : Nat), F[i]? = some n → ∃ rs, Kids g n rs ∧ ∀ r ∈ rs, r ∈ F.take i
def Chd (g : GS) (F : List Nat) : List Nat → List (Nat × Bool) → Prop
  | _, [] => True
  | up, (n, true) :: r => (∃ rs, Kids g n rs ∧ ∀ q ∈ rs, q ∈ F ∨ q ∈ up) ∧ Chd g F (n :: up) r
  | up, (n, false) :: r => Chd g F (n :: up) r
def Szd (sz : Nat → Nat) : List Nat → List (Nat × Bool) → Prop
  | _, [] => True
  | up, (n, true) :: r => (∀ q ∈ up, sz q < sz n) ∧ Szd sz (n :: up) r
  | up, (n, false) :: r => Szd sz (n :: up) r
theorem Chd.mono {F F' : List Nat} (hF : ∀ x ∈ F, x ∈ F') (hK : ∀ n rs, Kids g n rs → Kids g' n rs) : ∀ {T : List (Nat × Bool)} {up up' : List Nat}, (∀ q ∈ up, q ∈ F' ∨ q ∈ up') → Chd g F up T → Chd g' F' up' T
  | [], _, _, _, _ => trivial
  | (n, b) :: r, up, up', hu, h => by
    have hu' : ∀ q ∈ n :: up, q ∈ F' ∨ q ∈ n :: up' := fun q hq => by
      rcases List.mem_cons.mp hq with rfl | hq
      · exact .inr List.mem_cons_self
      · exact (hu q hq).imp id fun z => List.mem_cons_of_mem _ z
    cases b with
    | true =>
      obtain ⟨⟨rs, h1, h2⟩, h3⟩ := h
      exact ⟨⟨rs, hK _ _ h1, fun q hq => (h2 q hq).elim (fun z => .inl (hF q z)) (hu q)⟩, Chd.mono hF hK hu' h3⟩
    | false =>
      show Chd g' F' (n :: up') r
      exact Chd.mono hF hK hu' (show Chd g F (n :: up) r from h)
theorem Szd.mono {sz sz' : Nat → Nat} : ∀ {T : List (Nat × Bool)} {up up' : List Nat}, (∀ e ∈ T, sz' e.1 = sz e.1) → (∀ q ∈ up', ∃ q' ∈ up, sz' q ≤ sz q') → Szd sz up T → Szd sz' up' T
  | [], _, _, _, _, _ => trivial
  | (n, b) :: r, up, up', hT, hu, h => by
    have hn : sz' n = sz n := hT (n, b) List.mem_cons_self
    have hT' : ∀ e ∈ r, sz' e.1 = sz e.1 := fun e he => hT e (List.mem_cons_of_mem _ he)
    have hu' : ∀ q ∈ n :: up', ∃ q' ∈ n :: up, sz' q ≤ sz q' := fun q hq => by
      rcases List.mem_cons.mp hq with rfl | hq
      · exact ⟨_, List.mem_cons_self, Nat.le_of_eq hn⟩
      · obtain ⟨q', h1, h2⟩ := hu q hq
        exact ⟨q', List.mem_cons_of_mem _ h1, h2⟩
    cases b with
    | true =>
      obtain ⟨h1, h2⟩ := h
      refine ⟨fun q hq => ?_, Szd.mono hT' hu' h2⟩
      obtain ⟨q', k1, k2⟩ := hu q hq
      have := h1 q' k1
      omega
    | false =>
      show Szd sz' (n :: up') r
      exact Szd.mono hT' hu' (show Szd sz (n :: up) r from h)
theorem Szd.no {sz : Nat → Nat} {n : Nat} : ∀ {T : List (Nat × Bool)} {up : List Nat}, Szd sz up T → n ∈ up → (n, true) ∈ T → False
  | (m, b) :: r, up, h, hn, hm => by
    cases b with
    | true =>
      obtain ⟨h1, h2⟩ := h
      rcases List.mem_cons.mp hm with e | hm
      · cases e; exact Nat.lt_irrefl _ (h1 n hn)
      · exact Szd.no h2 (List.mem_cons_of_mem _ hn) hm
    | false =>
      rcases List.mem_cons.mp hm with e | hm
      · cases e
      · exact Szd.no (show Szd sz (m :: up) r from h) (List.mem_cons_of_mem _ hn) hm
def szT (θ : Key → Ter) (g : GS) (n : Nat) : Nat := match tv θ g n with
  | some t => t.size
  | none => 0
theorem GSnd.back {θ : Key → Ter} (ok : GOk g rk) (m : GMore g g') (h : GSnd θ g') : GSnd θ g := fun n r e => by
  have l1 : n < g.ts.length := by rw [← ok.lu]; exact e.lt.1
  have l2 : r < g.ts.length := by rw [← ok.lu]; exact e.lt.2
  rw [← tv_more m l1, ← tv_more m l2]
  exact h n r ((m.rt n r l1).mpr e)
theorem Kids.term {n : Nat} {rs : List Nat} {f : Str} {as : List Ter} (ok : GOk g rk) (e : g.ts[n]? = some (.ap f as)) (h : ArgR g n rs) {i r : Nat} (hr : rs[i]? = some r) : ∃ (m : Nat) (a : Ter), as[i]? = some a ∧ g.ts[m]? = some a ∧ Rt g.up m r := by
  obtain ⟨ns, h1, h2, h3⟩ := h
  obtain ⟨f', as', e1, e2, e3⟩ := ok.bl n ns h1
  rw [e] at e1
  cases e1
  have li : i < ns.length := by rw [← h2]; exact (List.getElem?_eq_some_iff.mp hr).1
  obtain ⟨r', r1, r2⟩ := h3 i ns[i] (List.getElem?_eq_getElem li)
  rw [hr] at r1
  cases r1
  have := e3 i ns[i] (List.getElem?_eq_getElem li)
  rw [List.getElem?_eq_getElem (l := as) (by omega)] at this
  exact ⟨ns[i], _, List.getElem?_eq_getElem (by omega), this, r2⟩
def nsT (θ : Key → Ter) (g : GS) (n : Nat) : Nat := match tv θ g n with
  | some t => t.nest
  | none => 0
def Blw (g : GS) (n : Nat) : Prop := ∃ (m : Nat) (k : Key), g.ts[m]? = some (.var k) ∧ ∀ θ : Key → Ter, GSnd θ g → szT θ g n ≤ szT θ g m ∧ nsT θ g n ≤ nsT θ g m
theorem Blw.more {n : Nat} (h : Blw g n) (l : n < g.ts.length) (ok : GOk g rk) (m : GMore g g') : Blw g' n := by
  obtain ⟨x, k, e, hx⟩ := h
  refine ⟨x, k, m.ts _ _ e, fun θ hθ => ?_⟩
  have lx := (List.getElem?_eq_some_iff.mp e).1
  have := hx θ (hθ.back ok m)
  unfold szT nsT at this ⊢
  rw [tv_more m l, tv_more m lx]
  exact this
theorem Blw.of {n m : Nat} {k : Key} (e : g.ts[m]? = some (.var k)) (h : Rt g.up m n) : Blw g n := ⟨m, k, e, fun θ hθ => by
  have := hθ m n h
  unfold szT nsT
  rw [this]
  exact ⟨Nat.le_refl _, Nat.le_refl _⟩⟩
structure DInv (g : GS) (st : Nat → Option Bool) (F : List Nat) (T : List (Nat × Bool)) : Prop where
  fo : FCl g F
  dn : ∀ n, st n = some false → n ∈ F
  op : ∀ n, st n = some true → (n, true) ∈ T
  ch : Chd g F [] T
  rt : ∀ e ∈ T, Rt g.up e.1 e.1
  fr : ∀ n ∈ F, Rt g.up n n
  sz : ∀ θ : Key → Ter, GSnd θ g → Szd (szT θ g) [] T
  va : ∀ (n r : Nat) (k : Key), g.ts[n]? = some (.var k) → Rt g.up n r → r ∈ F ∨ ∃ b, (r, b) ∈ T
  bF : ∀ n ∈ F, Blw g n
  bT : ∀ e ∈ T, Blw g e.1
theorem fcl_snoc {F : List Nat} {n : Nat} {rs : List Nat} (h : FCl g F) (k : Kids g n rs) (hr : ∀ r ∈ rs, r ∈ F) : FCl g (F ++ [n]) := fun i m e => by
  rcases get_snoc.mp e with e | ⟨rfl, rfl⟩
  · obtain ⟨qs, h1, h2⟩ := h i m e
    have li := (List.getElem?_eq_some_iff.mp e).1
    exact ⟨qs, h1, fun r hq => by rw [List.take_append_of_le_length (by omega)]; exact h2 r hq⟩
  · exact ⟨rs, k, fun r hq => by rw [List.take_append_of_le_length (Nat.le_refl _), List.take_length]; exact hr r hq⟩
theorem DInv.leave {st : Nat → Option Bool} {F : List Nat} {n : Nat} {T : List (Nat × Bool)} (D : DInv g st F ((n, true) :: T)) : DInv g (fun m => if m = n then some false else st m) (F ++ [n]) T := by
  obtain ⟨⟨rs, k1, k2⟩, k3⟩ := D.ch
  have hin : ∀ {x}, x ∈ F → x ∈ F ++ [n] := fun h => List.mem_append_left _ h
  have hn : n ∈ F ++ [n] := List.mem_append_right _ (List.mem_singleton.mpr rfl)
  refine ⟨fcl_snoc D.fo k1 fun r hr => (k2 r hr).elim id fun z => (List.not_mem_nil z).elim, fun m h => ?_, fun m h => ?_, ?_, fun e he => D.rt e (List.mem_cons_of_mem _ he), fun m hm => ?_, fun θ hθ => ?_, fun m r k e1 e2 => ?_, fun m hm => ?_, fun e he => D.bT e (List.mem_cons_of_mem _ he)⟩
  · by_cases c : m = n
    · rw [c]; exact hn
    · have h : (if m = n then some false else st m) = some false := h
      rw [if_neg c] at h
      exact hin (D.dn m h)
  · have h : (if m = n then some false else st m) = some true := h
    by_cases c : m = n
    · rw [if_pos c] at h; cases h
    · rw [if_neg c] at h
      rcases List.mem_cons.mp (D.op m h) with e | h
      · cases e; exact absurd rfl c
      · exact h
  · refine Chd.mono (fun x hx => hin hx) (fun _ _ h => h) (up := [n]) (fun q hq => ?_) k3
    rw [List.mem_singleton.mp hq]
    exact .inl hn
  · rcases List.mem_append.mp hm with h | h
    · exact D.fr m h
    · rw [List.mem_singleton.mp h]; exact D.rt (n, true) List.mem_cons_self
  · exact Szd.mono (fun _ _ => rfl) (fun q hq => (List.not_mem_nil hq).elim) (D.sz θ hθ).2
  · rcases D.va m r k e1 e2 with h | ⟨b, h⟩
    · exact .inl (hin h)
    · rcases List.mem_cons.mp h with e | h
      · cases e; exact .inl hn
      · exact .inr ⟨b, h⟩
  · rcases List.mem_append.mp hm with h | h
    · exact D.bF m h
    · rw [List.mem_singleton.mp h]; exact D.bT (n, true) List.mem_cons_self
theorem DInv.drop {st : Nat → Option Bool} {F : List Nat} {n : Nat} {T : List (Nat × Bool)} (D : DInv g st F ((n, false) :: T)) (h : st n = some false) : DInv g st F T := by
  have hn := D.dn n h
  refine ⟨D.fo, D.dn, fun m h => ?_, ?_, fun e he => D.rt e (List.mem_cons_of_mem _ he), D.fr, fun θ hθ => ?_, fun m r k e1 e2 => ?_, D.bF, fun e he => D.bT e (List.mem_cons_of_mem _ he)⟩
  · rcases List.mem_cons.mp (D.op m h) with e | h
    · cases e
    · exact h
  · exact Chd.mono (fun _ h => h) (fun _ _ h => h) (up := [n]) (fun q hq => by rw [List.mem_singleton.mp hq]; exact .inl hn) (show Chd g F [n] T from D.ch)
  · exact Szd.mono (fun _ _ => rfl) (fun q hq => (List.not_mem_nil hq).elim) (show Szd _ [n] T from D.sz θ hθ)
  · rcases D.va m r k e1 e2 with h | ⟨b, h⟩
    · exact .inl h
    · rcases List.mem_cons.mp h with e | h
      · cases e; exact .inl hn
      · exact .inr ⟨b, h⟩
theorem Chd.skip {F : List Nat} {T : List (Nat × Bool)} : ∀ (rs up : List Nat), Chd g F (rs.reverse ++ up) T → Chd g F up ((rs.map fun q => (q, false)) ++ T)
  | [], up, h => h
  | a :: r, up, h => by
    refine Chd.skip r (a :: up) ?_
    rw [List.reverse_cons, List.append_assoc] at h
    exact h
theorem Szd.skip {sz : Nat → Nat} {T : List (Nat × Bool)} : ∀ (rs up : List Nat), Szd sz (rs.reverse ++ up) T → Szd sz up ((rs.map fun q => (q, false)) ++ T)
  | [], up, h => h
  | a :: r, up, h => by
    refine Szd.skip r (a :: up) ?_
    rw [List.reverse_cons, List.append_assoc] at h
    exact h
end
end Own
namespace Own
open PySem PySem.Spec PyProof.Rows L2 HT
theorem nest_pos (t : Ter) : 1 ≤ t.nest := by
  cases t with
  | var k => exact Nat.le_refl _
  | ap f as => exact Nat.le_add_left _ _
mutual
/-- all variables of a term have P -/
def Ter.allV (P : Key → Prop) : Ter → Prop
  | .var k => P k
  | .ap _ as => Ter.allVs P as
def Ter.allVs (P : Key → Prop) : List Ter → Prop
  | [] => True
  | a :: r => a.allV P ∧ Ter.allVs P r
end
mutual
theorem bind_congr {θ η : Key → Ter} : ∀ t : Ter, t.allV (fun k => θ k = η k) → t.bind θ = t.bind η
  | .var k, h => h
  | .ap f as, h => congrArg (Ter.ap f) (binds_congr as h)
theorem binds_congr {θ η : Key → Ter} : ∀ ts : List Ter, Ter.allVs (fun k => θ k = η k) ts → Ter.binds θ ts = Ter.binds η ts
  | [], _ => rfl
  | a :: r, h => by
    show a.bind θ :: Ter.binds θ r = a.bind η :: Ter.binds η r
    rw [bind_congr a h.1, binds_congr r h.2]
end
mutual
theorem bind_id : ∀ t : Ter, t.bind Ter.var = t
  | .var k => rfl
  | .ap f as => congrArg (Ter.ap f) (binds_id as)
theorem binds_id : ∀ ts : List Ter, Ter.binds Ter.var ts = ts
  | [] => rfl
  | a :: r => by
    show a.bind Ter.var :: Ter.binds Ter.var r = a :: r
    rw [bind_id a, binds_id r]
end
mutual
theorem allV_imp {P Q : Key → Prop} (h : ∀ k, P k → Q k) : ∀ t : Ter, t.allV P → t.allV Q
  | .var k, x => h k x
  | .ap _ as, x => allVs_imp h as x
theorem allVs_imp {P Q : Key → Prop} (h : ∀ k, P k → Q k) : ∀ ts : List Ter, Ter.allVs P ts → Ter.allVs Q ts
  | [], _ => trivial
  | a :: r, x => ⟨allV_imp h a x.1, allVs_imp h r x.2⟩
end
def Unf (ps : List (Ter × Ter)) (θ : Key → Ter) : Prop := ∀ q ∈ ps, q.1.bind θ = q.2.bind θ
section
variable {p : Ter → Prop} {L : Nat} {g g' : GS} {rk rk' : Nat → Nat}
theorem Kids.uniq {n : Nat} {rs qs : List Nat} (h : Kids g n rs) (k : Kids g n qs) : rs = qs := by
  rcases h with ⟨⟨x, e1⟩, h⟩ | ⟨f, as, e1, _, h⟩ <;> rcases k with ⟨⟨y, e2⟩, k⟩ | ⟨f', as', e2, _, k⟩
  · rw [h, k]
  · rw [e1] at e2; cases e2
  · rw [e1] at e2; cases e2
  · exact h.uniq k
def Sol (g : GS) (v : Nat → Ter) (F : List Nat) : Prop := ∀ (i n : Nat), F[i]? = some n → ∃ rs, Kids g n rs ∧ (∀ r ∈ rs, r ∈ F.take i) ∧ ((∃ k, g.ts[n]? = some (.var k) ∧ v n = .var k) ∨ ∃ f as, g.ts[n]? = some (.ap f as) ∧ v n = .ap f (rs.map v))
theorem Sol.more {v : Nat → Ter} {F : List Nat} (h : Sol g v F) (ok : GOk g rk) (m : GMore g g') : Sol g' v F := fun i n e => by
  obtain ⟨rs, h1, h2, h3⟩ := h i n e
  refine ⟨rs, h1.more ok m, h2, ?_⟩
  rcases h3 with ⟨k, e1, e2⟩ | ⟨f, as, e1, e2⟩
  · exact .inl ⟨k, m.ts _ _ e1, e2⟩
  · exact .inr ⟨f, as, m.ts _ _ e1, e2⟩
theorem Sol.ex {F : List Nat} (h : FCl g F) : ∃ v, Sol g v F := by
  have key : ∀ m, ∃ v : Nat → Ter, ∀ (i n : Nat), i < m → F[i]? = some n → ∃ rs, Kids g n rs ∧ (∀ r ∈ rs, r ∈ F.take i) ∧ ((∃ k, g.ts[n]? = some (.var k) ∧ v n = .var k) ∨ ∃ f as, g.ts[n]? = some (.ap f as) ∧ v n = .ap f (rs.map v)) := by
    intro m
    induction m with
    | zero => exact ⟨fun _ => .var (.inl 0), fun i n h => absurd h (Nat.not_lt_zero _)⟩
    | succ m ih =>
      obtain ⟨v, hv⟩ := ih
      cases e : F[m]? with
      | none =>
        refine ⟨v, fun i n hi en => ?_⟩
        have l1 := (List.getElem?_eq_some_iff.mp en).1
        have l2 := List.getElem?_eq_none_iff.mp e
        exact hv i n (by omega) en
      | some x =>
        obtain ⟨rs, k1, k2⟩ := h m x e
        have mem : ∀ {i n}, i < m → F[i]? = some n → n ∈ F.take m := fun {i n} hi en => List.mem_of_getElem? (i := i) (by rw [List.getElem?_take_of_lt hi]; exact en)
        by_cases c : x ∈ F.take m
        · refine ⟨v, fun i n hi en => ?_⟩
          by_cases d : i < m
          · exact hv i n d en
          · have : i = m := by omega
            subst this
            rw [e] at en
            cases en
            obtain ⟨j, hj⟩ := List.mem_iff_getElem?.mp c
            have lj := (List.getElem?_eq_some_iff.mp hj).1
            rw [List.length_take] at lj
            rw [List.getElem?_take_of_lt (by omega)] at hj
            obtain ⟨qs, q1, q2, q3⟩ := hv j x (by omega) hj
            rw [← k1.uniq q1] at q3
            exact ⟨rs, k1, k2, q3⟩
        · have far : ∀ {i n}, i < m → F[i]? = some n → n ≠ x := fun hi en z => c (z ▸ mem hi en)
          have farT : ∀ {i r}, i ≤ m → r ∈ F.take i → r ≠ x := fun {i r} hi hr z => by
            obtain ⟨j, hj⟩ := List.mem_iff_getElem?.mp hr
            have lj := (List.getElem?_eq_some_iff.mp hj).1
            rw [List.length_take] at lj
            rw [List.getElem?_take_of_lt (by omega)] at hj
            exact far (by omega) hj z
          have same : ∀ (t : Ter) {i : Nat} {qs : List Nat}, i ≤ m → (∀ r ∈ qs, r ∈ F.take i) → qs.map (fun y => if y = x then t else v y) = qs.map v := fun t {i qs} hi hq => List.map_congr_left fun r hr => if_neg (farT hi (hq r hr))
          have go : ∀ t : Ter, ((∃ k, g.ts[x]? = some (.var k) ∧ t = .var k) ∨ ∃ f as, g.ts[x]? = some (.ap f as) ∧ t = .ap f (rs.map v)) → ∃ v : Nat → Ter, ∀ (i n : Nat), i < m + 1 → F[i]? = some n → ∃ rs, Kids g n rs ∧ (∀ r ∈ rs, r ∈ F.take i) ∧ ((∃ k, g.ts[n]? = some (.var k) ∧ v n = .var k) ∨ ∃ f as, g.ts[n]? = some (.ap f as) ∧ v n = .ap f (rs.map v)) := fun t ht => by
            refine ⟨fun y => if y = x then t else v y, fun i n hi en => ?_⟩
            by_cases d : i < m
            · obtain ⟨qs, q1, q2, q3⟩ := hv i n d en
              refine ⟨qs, q1, q2, ?_⟩
              show (∃ k, _ ∧ (if n = x then t else v n) = _) ∨ ∃ f as, _ ∧ (if n = x then t else v n) = _
              rw [if_neg (far d en), same t (Nat.le_of_lt d) q2]
              exact q3
            · have : i = m := by omega
              subst this
              rw [e] at en
              cases en
              refine ⟨rs, k1, k2, ?_⟩
              show (∃ k, _ ∧ (if x = x then t else v x) = _) ∨ ∃ f as, _ ∧ (if x = x then t else v x) = _
              rw [if_pos rfl, same t (Nat.le_refl _) k2]
              exact ht
          rcases id k1 with ⟨⟨k, et⟩, _⟩ | ⟨f, as, et, _, _⟩
          · exact go _ (.inl ⟨k, et, rfl⟩)
          · exact go _ (.inr ⟨f, as, et, rfl⟩)
  obtain ⟨v, hv⟩ := key F.length
  exact ⟨v, fun i n e => hv i n (List.getElem?_eq_some_iff.mp e).1 e⟩
theorem Sol.ind {v : Nat → Ter} {F : List Nat} (h : Sol g v F) {Q : Nat → Prop} (h1 : ∀ n k, n ∈ F → g.ts[n]? = some (.var k) → v n = .var k → Q n) (h2 : ∀ n f as rs, n ∈ F → g.ts[n]? = some (.ap f as) → rs.length = as.length → ArgR g n rs → v n = .ap f (rs.map v) → (∀ r ∈ rs, r ∈ F ∧ Q r) → Q n) : ∀ n ∈ F, Q n := by
  have key : ∀ m i n : Nat, i < m → F[i]? = some n → Q n := by
    intro m
    induction m with
    | zero => exact fun i n h => absurd h (Nat.not_lt_zero _)
    | succ m ih =>
      intro i n hi e
      obtain ⟨rs, k1, k2, k3⟩ := h i n e
      have hm := List.mem_of_getElem? e
      rcases k3 with ⟨k, e1, e2⟩ | ⟨f, as, e1, e2⟩
      · exact h1 n k hm e1 e2
      · rcases k1 with ⟨⟨k, e3⟩, _⟩ | ⟨f', as', e3, l, R⟩
        · rw [e1] at e3; cases e3
        · rw [e1] at e3
          cases e3
          refine h2 n f as rs hm e1 l R e2 fun r hr => ?_
          obtain ⟨j, hj⟩ := List.mem_iff_getElem?.mp (k2 r hr)
          have lj := (List.getElem?_eq_some_iff.mp hj).1
          rw [List.length_take] at lj
          rw [List.getElem?_take_of_lt (by omega)] at hj
          exact ⟨List.mem_of_getElem? hj, ih j r (by omega) hj⟩
  intro n hn
  obtain ⟨i, hi⟩ := List.mem_iff_getElem?.mp hn
  exact key (i + 1) i n (Nat.lt_succ_self _) hi
noncomputable def sgF (g : GS) (v : Nat → Ter) (k : Key) : Ter := match ndOf g.nd k with
  | some n => v (rtF g.up n)
  | none => .var k
theorem sgF_at {v : Nat → Ter} (ok : GOk g rk) {n r : Nat} {k : Key} (e : g.ts[n]? = some (.var k)) (h : Rt g.up n r) : sgF g v k = v r := by
  unfold sgF
  rw [(ok.nd k n).mpr e]
  show v (rtF g.up n) = v r
  rw [rtF_at h]
theorem binds_eq {σ : Key → Ter} {as : List Ter} {ts : List Ter} (hl : as.length = ts.length) (h : ∀ (i : Nat) (a t : Ter), as[i]? = some a → ts[i]? = some t → a.bind σ = t) : Ter.binds σ as = ts := by
  rw [binds_map]
  apply List.ext_getElem?
  intro i
  rw [List.getElem?_map]
  cases e : as[i]? with
  | none => rw [List.getElem?_eq_none (by have := List.getElem?_eq_none_iff.mp e; omega)]; rfl
  | some a =>
    have l : i < ts.length := by have := (List.getElem?_eq_some_iff.mp e).1; omega
    rw [List.getElem?_eq_getElem l]
    exact congrArg some (h i a _ e (List.getElem?_eq_getElem l))
structure Sld (g : GS) (rk : Nat → Nat) (v : Nat → Ter) (F : List Nat) : Prop where
  ok : GOk g rk
  cl : GCl g []
  fo : FCl g F
  fr : ∀ n ∈ F, Rt g.up n n
  va : ∀ (n r : Nat) (k : Key), g.ts[n]? = some (.var k) → Rt g.up n r → r ∈ F
  so : Sol g v F
  iv : ∀ (n : Nat) (k : Key), g.ts[n]? = some (.var k) → ∃ i : Int, k = .inl i
theorem ArgR.at {n : Nat} {rs : List Nat} {f : Str} {as : List Ter} (ok : GOk g rk) (R : ArgR g n rs) (e : g.ts[n]? = some (.ap f as)) {i : Nat} {a : Ter} (ha : as[i]? = some a) : ∃ (x r : Nat), g.ts[x]? = some a ∧ rs[i]? = some r ∧ Rt g.up x r ∧ ∃ ns, g.bl[n]? = some (some ns) ∧ ns[i]? = some x := by
  obtain ⟨ns, h1, h2, h3⟩ := R
  obtain ⟨f', as', e1, e2, e3⟩ := ok.bl n ns h1
  rw [e] at e1
  cases e1
  have li : i < ns.length := by rw [e2]; exact (List.getElem?_eq_some_iff.mp ha).1
  obtain ⟨r, r1, r2⟩ := h3 i ns[i] (List.getElem?_eq_getElem li)
  exact ⟨ns[i], r, by rw [e3 i _ (List.getElem?_eq_getElem li), ha], r1, r2, ns, h1, List.getElem?_eq_getElem li⟩
theorem GCl.pair (ok : GOk g rk) (c : GCl g []) {m r : Nat} {f : Str} {as : List Ter} (h : Rt g.up m r) (n : m ≠ r) (e : g.ts[m]? = some (.ap f as)) : ∃ (bs : List Ter), g.ts[r]? = some (.ap f bs) ∧ bs.length = as.length ∧
    ∀ (i : Nat) (a b : Ter), as[i]? = some a → bs[i]? = some b → ∃ (x y s : Nat), g.ts[x]? = some a ∧ g.ts[y]? = some b ∧ Rt g.up x s ∧ Rt g.up y s ∧ ∃ ns, g.bl[r]? = some (some ns) ∧ ns[i]? = some y := by
  obtain ⟨bs, ns, ms, h1, h2, h3, h4, h5⟩ := c.ap m r f as h n e
  refine ⟨bs, h1, h2, fun i a b ha hb => ?_⟩
  obtain ⟨f1, as1, e1, e2, e3⟩ := ok.bl m ns h3
  rw [e] at e1
  cases e1
  obtain ⟨f2, as2, k1, k2, k3⟩ := ok.bl r ms h4
  rw [h1] at k1
  cases k1
  have la := (List.getElem?_eq_some_iff.mp ha).1
  have lb := (List.getElem?_eq_some_iff.mp hb).1
  have li : i < ns.length := by omega
  have lj : i < ms.length := by omega
  have ex : g.ts[ns[i]]? = some a := by rw [e3 i _ (List.getElem?_eq_getElem li), ha]
  have ey : g.ts[ms[i]]? = some b := by rw [k3 i _ (List.getElem?_eq_getElem lj), hb]
  have hs := (h5 i ns[i] ms[i] (List.getElem?_eq_getElem li) (List.getElem?_eq_getElem lj)).same
  refine ⟨ns[i], ms[i], rtF g.up ns[i], ex, ey, ok.rtF (List.getElem?_eq_some_iff.mp ex).1, ?_, ms, h4, List.getElem?_eq_getElem lj⟩
  rw [hs]
  exact ok.rtF (List.getElem?_eq_some_iff.mp ey).1
theorem map_get {v : Nat → Ter} {rs : List Nat} {i r : Nat} (h : rs[i]? = some r) : (rs.map v)[i]? = some (v r) := by rw [List.getElem?_map, h]; rfl
theorem Sld.cls {v : Nat → Ter} {F : List Nat} (S : Sld g rk v F) : ∀ r ∈ F, ∀ (m : Nat) (t : Ter), Rt g.up m r → g.ts[m]? = some t → t.bind (sgF g v) = v r := by
  refine S.so.ind (Q := fun r => ∀ (m : Nat) (t : Ter), Rt g.up m r → g.ts[m]? = some t → t.bind (sgF g v) = v r) (fun r k hr e ev m t hm et => ?_) (fun r f bs rs hr e l R ev ih m t hm et => ?_)
  · cases t with
    | var j => exact sgF_at S.ok et hm
    | ap f as =>
      obtain ⟨j, rfl⟩ := S.iv r k e
      obtain ⟨i, h1, _⟩ := S.cl.va m r j hm e
      rw [et] at h1
      cases h1
  · cases t with
    | var j => exact sgF_at S.ok et hm
    | ap h as =>
      have step : ∀ as' : List Ter, as'.length = bs.length → (∀ (i : Nat) (a b : Ter), as'[i]? = some a → bs[i]? = some b → ∃ (x y s : Nat), g.ts[x]? = some a ∧ g.ts[y]? = some b ∧ Rt g.up x s ∧ Rt g.up y s ∧ ∃ ns, g.bl[r]? = some (some ns) ∧ ns[i]? = some y) → Ter.binds (sgF g v) as' = rs.map v := fun as' hl hp => by
        refine binds_eq (by rw [List.length_map, hl, l]) fun i a t ha ht => ?_
        have lb : i < bs.length := by rw [← hl]; exact (List.getElem?_eq_some_iff.mp ha).1
        obtain ⟨x, y, q, h1, h2, h3, h4, ns, h5, h6⟩ := hp i a bs[i] ha (List.getElem?_eq_getElem lb)
        obtain ⟨ns', k1, k2, k3⟩ := id R
        rw [h5] at k1
        cases k1
        obtain ⟨r', r1, r2⟩ := k3 i y h6
        have := r2.uniq h4
        subst this
        rw [map_get r1] at ht
        cases ht
        exact (ih r' (List.mem_of_getElem? r1)).2 x a h3 h1
      show Ter.ap h (Ter.binds (sgF g v) as) = v r
      rw [ev]
      by_cases c : m = r
      · subst c
        rw [e] at et
        cases et
        rw [step bs rfl fun i a b ha hb => ?_]
        rw [ha] at hb
        cases hb
        obtain ⟨x, q, h1, h2, h3, ns, h4, h5⟩ := R.at S.ok e ha
        exact ⟨x, x, q, h1, h1, h3, h3, ns, h4, h5⟩
      · obtain ⟨bs', h1, h2, h3⟩ := S.cl.pair S.ok hm c et
        rw [e] at h1
        cases h1
        rw [step as h2.symm h3]
theorem Sld.same {v : Nat → Ter} {F : List Nat} (S : Sld g rk v F) : ∀ (z m n r : Nat) (t u : Ter), t.size + u.size ≤ z → Rt g.up m r → Rt g.up n r → g.ts[m]? = some t → g.ts[n]? = some u → t.bind (sgF g v) = u.bind (sgF g v)
  | 0, m, n, r, t, u, hz, _, _, _, _ => by have := t.size_pos; omega
  | z + 1, m, n, r, t, u, hz, hm, hn, et, eu => by
    by_cases c : r ∈ F
    · rw [S.cls r c m t hm et, S.cls r c n u hn eu]
    · cases t with
      | var k => exact absurd (S.va m r k et hm) c
      | ap f as =>
        cases u with
        | var k => exact absurd (S.va n r k eu hn) c
        | ap h cs =>
          have fin : f = h → as.length = cs.length → (∀ (i : Nat) (a b : Ter), as[i]? = some a → cs[i]? = some b → ∃ (x y s : Nat), g.ts[x]? = some a ∧ g.ts[y]? = some b ∧ Rt g.up x s ∧ Rt g.up y s) → (Ter.ap f as).bind (sgF g v) = (Ter.ap h cs).bind (sgF g v) := fun hf hl hp => by
            subst hf
            show Ter.ap f (Ter.binds (sgF g v) as) = Ter.ap f (Ter.binds (sgF g v) cs)
            have : Ter.binds (sgF g v) as = Ter.binds (sgF g v) cs := by
              refine binds_eq (by rw [binds_len, hl]) fun i a t ha ht => ?_
              have lb : i < cs.length := by rw [← hl]; exact (List.getElem?_eq_some_iff.mp ha).1
              rw [binds_get, List.getElem?_eq_getElem lb] at ht
              cases ht
              obtain ⟨x, y, q, h1, h2, h3, h4⟩ := hp i a cs[i] ha (List.getElem?_eq_getElem lb)
              have z1 := size_le_of ha
              have z2 := size_le_of (List.getElem?_eq_getElem lb)
              have hz : Ter.sizes as + 1 + (Ter.sizes cs + 1) ≤ z + 1 := hz
              exact S.same z x y q a cs[i] (by omega) h3 h4 h1 h2
            rw [this]
          by_cases cm : m = r
          · by_cases cn : n = r
            · rw [cm] at et
              rw [cn] at eu
              rw [et] at eu
              cases eu
              rfl
            · obtain ⟨bs, k1, k2, k3⟩ := S.cl.pair S.ok hn cn eu
              rw [← cm, et] at k1
              cases k1
              exact fin rfl k2 fun i a b ha hb => by
                obtain ⟨x, y, q, h1, h2, h3, h4, _⟩ := k3 i b a hb ha
                exact ⟨y, x, q, h2, h1, h4, h3⟩
          · obtain ⟨bs, k1, k2, k3⟩ := S.cl.pair S.ok hm cm et
            by_cases cn : n = r
            · rw [← cn, eu] at k1
              cases k1
              exact fin rfl k2.symm fun i a b ha hb => by
                obtain ⟨x, y, q, h1, h2, h3, h4, _⟩ := k3 i a b ha hb
                exact ⟨x, y, q, h1, h2, h3, h4⟩
            · obtain ⟨ds, j1, j2, j3⟩ := S.cl.pair S.ok hn cn eu
              rw [k1] at j1
              cases j1
              refine fin rfl (k2.symm.trans j2) fun i a b ha hb => ?_
              have lb : i < bs.length := by rw [k2]; exact (List.getElem?_eq_some_iff.mp ha).1
              obtain ⟨x, y, q, h1, h2, h3, h4, ns, h5, h6⟩ := k3 i a bs[i] ha (List.getElem?_eq_getElem lb)
              obtain ⟨x', y', q', h1', h2', h3', h4', ns', h5', h6'⟩ := j3 i b bs[i] hb (List.getElem?_eq_getElem lb)
              rw [h5] at h5'
              cases h5'
              rw [h6] at h6'
              cases h6'
              have := h4.uniq h4'
              subst this
              exact ⟨x, x', q, h1, h1', h3, h3'⟩
theorem Sld.most {v : Nat → Ter} {F : List Nat} (S : Sld g rk v F) {θ : Key → Ter} (hθ : GSnd θ g) : ∀ n ∈ F, tv θ g n = some ((v n).bind θ) := by
  refine S.so.ind (Q := fun n => tv θ g n = some ((v n).bind θ)) (fun n k _ e ev => by rw [tv_at e, ev]) (fun n f as rs _ e l R ev ih => ?_)
  rw [tv_at e, ev]
  show some (Ter.ap f (Ter.binds θ as)) = some (Ter.ap f (Ter.binds θ (rs.map v)))
  have : Ter.binds θ as = Ter.binds θ (rs.map v) := by
    refine binds_eq (by rw [binds_len, List.length_map, l]) fun i a t ha ht => ?_
    obtain ⟨x, r, h1, h2, h3, _⟩ := R.at S.ok e ha
    rw [binds_get, map_get h2] at ht
    cases ht
    have h4 := (ih r (List.mem_of_getElem? h2)).2
    rw [← hθ x r h3, tv_at h1] at h4
    exact Option.some.inj h4
  rw [this]
theorem Sld.wf {v : Nat → Ter} {F : List Nat} (S : Sld g rk v F) {W : Str → Nat → Prop} {U : Key → Prop} (hP : ∀ (n : Nat) (t : Ter), g.ts[n]? = some t → t.wf W U) : ∀ n ∈ F, (v n).wf W U := by
  refine S.so.ind (Q := fun n => (v n).wf W U) (fun n k _ e ev => by rw [ev]; exact hP n _ e) (fun n f as rs _ e l R ev ih => ?_)
  rw [ev]
  refine ⟨by rw [List.length_map, l]; exact (hP n _ e).1, ?_⟩
  have : ∀ qs : List Nat, (∀ r ∈ qs, r ∈ rs) → Ter.wfs W U (qs.map v) := fun qs => by
    induction qs with
    | nil => exact fun _ => trivial
    | cons a q iq => exact fun h => ⟨(ih a (h a List.mem_cons_self)).2, iq fun r hr => h r (List.mem_cons_of_mem _ hr)⟩
  exact this rs fun _ h => h
end
end Own
namespace Own
open PySem PySem.Spec PyProof.Rows L2 HT
end Own
namespace Own
open PySem PySem.Spec PyProof.Rows L2 HT
mutual
theorem bind_bind (σ θ : Key → Ter) : ∀ t : Ter, (t.bind σ).bind θ = t.bind fun k => (σ k).bind θ
  | .var _ => rfl
  | .ap f as => congrArg (Ter.ap f) (binds_binds σ θ as)
theorem binds_binds (σ θ : Key → Ter) : ∀ ts : List Ter, Ter.binds θ (Ter.binds σ ts) = Ter.binds (fun k => (σ k).bind θ) ts
  | [] => rfl
  | a :: r => by
    show (a.bind σ).bind θ :: Ter.binds θ (Ter.binds σ r) = a.bind _ :: Ter.binds _ r
    rw [bind_bind σ θ a, binds_binds σ θ r]
end
mutual
theorem allV_bind (σ : Key → Ter) (P : Key → Prop) : ∀ t : Ter, (t.bind σ).allV P ↔ t.allV fun k => (σ k).allV P
  | .var _ => Iff.rfl
  | .ap _ as => allVs_bind σ P as
theorem allVs_bind (σ : Key → Ter) (P : Key → Prop) : ∀ ts : List Ter, Ter.allVs P (Ter.binds σ ts) ↔ Ter.allVs (fun k => (σ k).allV P) ts
  | [] => Iff.rfl
  | a :: r => and_congr (allV_bind σ P a) (allVs_bind σ P r)
end
mutual
def Ter.lvs : Ter → Nat
  | .var _ => 1
  | .ap _ as => Ter.lvss as
def Ter.lvss : List Ter → Nat
  | [] => 0
  | a :: r => a.lvs + Ter.lvss r
end
mutual
theorem allV_all {P : Key → Prop} (h : ∀ k, P k) : ∀ t : Ter, t.allV P
  | .var k => h k
  | .ap _ as => allVs_all h as
theorem allVs_all {P : Key → Prop} (h : ∀ k, P k) : ∀ ts : List Ter, Ter.allVs P ts
  | [] => trivial
  | a :: r => ⟨allV_all h a, allVs_all h r⟩
end
mutual
theorem allV_and {P Q : Key → Prop} : ∀ t : Ter, t.allV P → t.allV Q → t.allV fun k => P k ∧ Q k
  | .var _, a, b => ⟨a, b⟩
  | .ap _ as, a, b => allVs_and as a b
theorem allVs_and {P Q : Key → Prop} : ∀ ts : List Ter, Ter.allVs P ts → Ter.allVs Q ts → Ter.allVs (fun k => P k ∧ Q k) ts
  | [], _, _ => trivial
  | a :: r, x, y => ⟨allV_and a x.1 y.1, allVs_and r x.2 y.2⟩
end
def Slv (p : Ter → Prop) (σ : Key → Ter) : Prop := ∀ k, (∃ j, σ k = .var j) ∨ ∃ f as, p (.ap f as) ∧ σ k = (Ter.ap f as).bind σ
end Own
namespace Own
open PySem PySem.Spec PyProof.Rows L2 HT
def Rsv (τ : Sb) (θ : Key → Ter) : Prop := ∀ e ∈ τ, θ e.1 = e.2.bind θ
structure Tri (τ : Sb) (ρ : Key → Ter) (r : Key → Nat) : Prop where
  nd : (Sb.keys τ).Nodup
  rs : Rsv τ ρ
  fr : ∀ k, k ∉ Sb.keys τ → ρ k = .var k
  mg : ∀ θ, Rsv τ θ → ∀ k, (ρ k).bind θ = θ k
  rk : ∀ e ∈ τ, e.2.allV fun y => r y < r e.1
theorem Tri.nil : Tri [] Ter.var fun _ => 0 := ⟨List.nodup_nil, (fun e h => (List.not_mem_nil h).elim), fun _ _ => rfl, fun _ _ _ => rfl, fun e h => (List.not_mem_nil h).elim⟩
theorem Tri.at {τ : Sb} {ρ : Key → Ter} {r : Key → Nat} (h : Tri τ ρ r) {k : Key} {t : Ter} (e : Sb.look τ k = some t) : ρ k = t.bind ρ := h.rs (k, t) (slook_mem e)
theorem Tri.free {τ : Sb} {ρ : Key → Ter} {r : Key → Nat} (h : Tri τ ρ r) {k : Key} (e : Sb.look τ k = none) : ρ k = .var k := h.fr k (look_not e)
theorem Tri.mgt {τ : Sb} {ρ : Key → Ter} {r : Key → Nat} (h : Tri τ ρ r) {θ : Key → Ter} (hθ : Rsv τ θ) (t : Ter) : (t.bind ρ).bind θ = t.bind θ := by
  rw [bind_bind]
  exact bind_congr t (allV_all (fun k => h.mg θ hθ k) t)
def one (x : Key) (u : Ter) (k : Key) : Ter := if k = x then u else .var k
theorem one_id {x : Key} {u t : Ter} (h : t.allV fun k => k ≠ x) : t.bind (one x u) = t := by
  have : t.bind (one x u) = t.bind Ter.var := bind_congr t (allV_imp (fun k hk => if_neg hk) t h)
  rw [this, bind_id]
mutual
def maxR (r : Key → Nat) : Ter → Nat
  | .var k => r k
  | .ap _ as => maxRs r as
def maxRs (r : Key → Nat) : List Ter → Nat
  | [] => 0
  | a :: s => max (maxR r a) (maxRs r s)
end
mutual
theorem maxR_all (r : Key → Nat) : ∀ t : Ter, t.allV fun k => r k ≤ maxR r t
  | .var _ => Nat.le_refl _
  | .ap _ as => maxRs_all r as
theorem maxRs_all (r : Key → Nat) : ∀ ts : List Ter, Ter.allVs (fun k => r k ≤ maxRs r ts) ts
  | [] => trivial
  | a :: s => ⟨allV_imp (fun k (h : r k ≤ _) => by show _ ≤ max _ _; omega) a (maxR_all r a), allVs_imp (fun k (h : r k ≤ _) => by show _ ≤ max _ _; omega) s (maxRs_all r s)⟩
end
open Classical in
theorem Tri.bind {τ : Sb} {ρ : Key → Ter} {r : Key → Nat} (h : Tri τ ρ r) {x : Key} {s : Ter} (hx : Sb.look τ x = none) (ho : (s.bind ρ).allV fun k => k ≠ x) :
    ∃ ρ' r', Tri (τ ++ [(x, s)]) ρ' r' := by
  have fx := h.free hx
  have es : ∀ t : Ter, (t.bind fun k => (ρ k).bind (one x (s.bind ρ))) = (t.bind ρ).bind (one x (s.bind ρ)) := fun t => (bind_bind ρ _ t).symm
  refine ⟨fun k => (ρ k).bind (one x (s.bind ρ)), fun k => if (ρ k).allV (fun y => y ≠ x) then r k else r k + maxR r s + 1, ?_, fun e he => ?_, fun k hk => ?_, fun θ hθ k => ?_, fun e he => ?_⟩
  · unfold Sb.keys
    rw [List.map_append, List.nodup_append]
    refine ⟨h.nd, List.nodup_cons.mpr ⟨List.not_mem_nil, List.nodup_nil⟩, fun a ha b hb => ?_⟩
    rw [List.mem_singleton.mp hb]
    intro z
    have z : a = x := z
    rw [z] at ha
    exact look_not hx ha
  · show (ρ e.1).bind _ = e.2.bind _
    rw [es]
    rcases List.mem_append.mp he with he | he
    · rw [h.rs e he]
    · rw [List.mem_singleton.mp he]
      show (ρ x).bind _ = (s.bind ρ).bind _
      rw [fx, one_id ho]
      show one x (s.bind ρ) x = s.bind ρ
      exact if_pos rfl
  · have h1 : k ∉ Sb.keys τ := fun z => hk (by unfold Sb.keys; rw [List.map_append]; exact List.mem_append_left _ z)
    have h2 : k ≠ x := fun z => hk (by unfold Sb.keys; rw [List.map_append]; exact List.mem_append_right _ (List.mem_singleton.mpr z))
    show (ρ k).bind _ = _
    rw [h.fr k h1]
    exact if_neg h2
  · have hτ : Rsv τ θ := fun e he => hθ e (List.mem_append_left _ he)
    have hs : θ x = s.bind θ := hθ (x, s) (List.mem_append_right _ (List.mem_singleton.mpr rfl))
    show ((ρ k).bind _).bind θ = θ k
    rw [bind_bind]
    have : (ρ k).bind (fun j => (one x (s.bind ρ) j).bind θ) = (ρ k).bind θ := bind_congr _ (allV_all (fun j => by
      unfold one
      by_cases c : j = x
      · rw [if_pos c, c, h.mgt hτ, hs]
      · rw [if_neg c]; rfl) _)
    rw [this]
    exact h.mg θ hτ k
  · rcases List.mem_append.mp he with he | he
    · have h1 := h.rk e he
      have h2 := h.rs e he
      by_cases c : (ρ e.1).allV fun y => y ≠ x
      · have h3 : e.2.allV fun k => (ρ k).allV fun y => y ≠ x := (allV_bind ρ _ e.2).mp (by rw [← h2]; exact c)
        refine allV_imp (fun y hy => ?_) e.2 (allV_and e.2 h1 h3)
        show (if _ then _ else _) < (if _ then _ else _)
        rw [if_pos hy.2, if_pos c]
        exact hy.1
      · refine allV_imp (fun y hy => ?_) e.2 h1
        show (if _ then _ else _) < (if _ then _ else _)
        have hy : r y < r e.1 := hy
        by_cases d : (ρ y).allV fun y => y ≠ x
        · rw [if_pos d, if_neg c]; omega
        · rw [if_neg d, if_neg c]; omega
    · rw [List.mem_singleton.mp he]
      have h3 : s.allV fun k => (ρ k).allV fun y => y ≠ x := (allV_bind ρ _ s).mp ho
      refine allV_imp (fun y hy => ?_) s (allV_and s (maxR_all r s) h3)
      show (if _ then _ else _) < (if _ then _ else _)
      have c : ¬ (ρ x).allV fun y => y ≠ x := by rw [fx]; exact fun z => z rfl
      rw [if_pos hy.2, if_neg c]
      have := hy.1
      omega
end Own
namespace Own
open PySem PySem.Spec PyProof.Rows L2 HT
mutual
/-- a term's size, its variables with a weight each -/
def Ter.wtv (w : Key → Nat) : Ter → Nat
  | .var k => w k
  | .ap _ as => Ter.wtvs w as + 1
def Ter.wtvs (w : Key → Nat) : List Ter → Nat
  | [] => 0
  | a :: r => a.wtv w + Ter.wtvs w r
end
theorem wtv_pos {w : Key → Nat} (h : ∀ k, 1 ≤ w k) : ∀ t : Ter, 1 ≤ t.wtv w
  | .var k => h k
  | .ap _ as => Nat.le_add_left 1 _
def wtP (w : Key → Nat) (ρ : Key → Ter) : List (Ter × Ter) → Nat
  | [] => 0
  | q :: r => (q.1.bind ρ).wtv w + wtP w ρ r
theorem wtP_app (w : Key → Nat) (ρ : Key → Ter) : ∀ ps qs : List (Ter × Ter), wtP w ρ (ps ++ qs) = wtP w ρ ps + wtP w ρ qs
  | [], _ => (Nat.zero_add _).symm
  | q :: r, qs => by
    show _ + wtP w ρ (r ++ qs) = _ + wtP w ρ r + wtP w ρ qs
    rw [wtP_app w ρ r qs]; omega
theorem wtP_zip (w : Key → Nat) (ρ : Key → Ter) : ∀ as bs : List Ter, Ter.binds ρ as = as → wtP w ρ (as.zip bs) ≤ Ter.wtvs w as
  | [], _, _ => by cases ‹List Ter› <;> exact Nat.le_refl _
  | _ :: _, [], _ => Nat.zero_le _
  | a :: r, b :: s, h => by
    injection (show a.bind ρ :: Ter.binds ρ r = a :: r from h) with h1 h2
    have := wtP_zip w ρ r s h2
    show (a.bind ρ).wtv w + wtP w ρ (r.zip s) ≤ a.wtv w + Ter.wtvs w r
    rw [h1]; omega
theorem unf_zip (θ : Key → Ter) : ∀ as bs : List Ter, as.length = bs.length → (Unf (as.zip bs) θ ↔ Ter.binds θ as = Ter.binds θ bs)
  | [], [], _ => ⟨fun _ => rfl, fun _ q h => (List.not_mem_nil h).elim⟩
  | [], _ :: _, h => by cases h
  | _ :: _, [], h => by cases h
  | a :: r, b :: s, h => by
    have ih := unf_zip θ r s (Nat.succ.inj h)
    constructor
    · intro u
      show a.bind θ :: Ter.binds θ r = b.bind θ :: Ter.binds θ s
      rw [u (a, b) List.mem_cons_self, ih.mp fun q hq => u q (List.mem_cons_of_mem _ hq)]
    · intro e q hq
      injection (show a.bind θ :: Ter.binds θ r = b.bind θ :: Ter.binds θ s from e) with e1 e2
      rcases List.mem_cons.mp hq with rfl | hq
      · exact e1
      · exact ih.mpr e2 q hq
theorem unf_app {ps qs : List (Ter × Ter)} {θ : Key → Ter} : Unf (ps ++ qs) θ ↔ Unf ps θ ∧ Unf qs θ :=
  ⟨fun h => ⟨fun q hq => h q (List.mem_append_left _ hq), fun q hq => h q (List.mem_append_right _ hq)⟩, fun h q hq => (List.mem_append.mp hq).elim (h.1 q) (h.2 q)⟩
theorem unf_cons {q : Ter × Ter} {ps : List (Ter × Ter)} {θ : Key → Ter} : Unf (q :: ps) θ ↔ q.1.bind θ = q.2.bind θ ∧ Unf ps θ :=
  ⟨fun h => ⟨h q List.mem_cons_self, fun x hx => h x (List.mem_cons_of_mem _ hx)⟩, fun h x hx => by
    rcases List.mem_cons.mp hx with rfl | hx
    · exact h.1
    · exact h.2 x hx⟩
def Thr (ρ θ : Key → Ter) : Prop := ∀ k, (ρ k).bind θ = θ k
theorem Thr.bind {ρ θ : Key → Ter} (h : Thr ρ θ) (t : Ter) : (t.bind ρ).bind θ = t.bind θ := by
  rw [bind_bind]; exact bind_congr t (allV_all (fun k => h k) t)
structure LU (U : Key → Prop) (s t : Ter) (ρ : Key → Ter) (ps : List (Ter × Ter)) (n : Nat) : Prop where
  id : Thr ρ ρ
  eq : ∀ θ : Key → Ter, s.bind θ = t.bind θ ↔ Thr ρ θ ∧ Unf ps θ
  wt : ∀ w : Key → Nat, (∀ k, 1 ≤ w k) → n + wtP w ρ ps ≤ (s.bind ρ).wtv w
  dm : ∀ k, ρ k ≠ .var k → U k
  vs : ∀ k, U k → (ρ k).allV U
  av : ∀ q ∈ ps, q.1.allV U ∧ q.2.allV U
theorem thr_var (θ : Key → Ter) : Thr Ter.var θ := fun k => rfl
theorem LU.start {U : Key → Prop} {s t : Ter} (hs : s.allV U) (ht : t.allV U) : LU U s t Ter.var [(s, t)] 0 := by
  refine ⟨thr_var _, fun θ => ⟨fun e => ⟨thr_var θ, fun q hq => by rw [List.mem_singleton.mp hq]; exact e⟩, fun h => h.2 (s, t) List.mem_cons_self⟩, fun w hw => ?_, fun k h => absurd rfl h, fun k h => h, fun q hq => by rw [List.mem_singleton.mp hq]; exact ⟨hs, ht⟩⟩
  show 0 + ((s.bind Ter.var).wtv w + 0) ≤ _
  omega
theorem LU.avB {U : Key → Prop} {s t : Ter} {ρ : Key → Ter} {ps : List (Ter × Ter)} {n : Nat} (h : LU U s t ρ ps n) {u : Ter} (hu : u.allV U) : (u.bind ρ).allV U := (allV_bind ρ U u).mpr (allV_imp h.vs u hu)
theorem LU.same {U : Key → Prop} {s t : Ter} {ρ : Key → Ter} {q : Ter × Ter} {ps : List (Ter × Ter)} {n : Nat} (h : LU U s t ρ (q :: ps) n) (e : q.1.bind ρ = q.2.bind ρ) : LU U s t ρ ps (n + 1) := by
  refine ⟨h.id, fun θ => (h.eq θ).trans ⟨fun x => ⟨x.1, (unf_cons.mp x.2).2⟩, fun x => ⟨x.1, unf_cons.mpr ⟨?_, x.2⟩⟩⟩, fun w hw => ?_, h.dm, h.vs, fun x hx => h.av x (List.mem_cons_of_mem _ hx)⟩
  · rw [← x.1.bind q.1, ← x.1.bind q.2, e]
  · have h1 := h.wt w hw
    have h2 : wtP w ρ (q :: ps) = (q.1.bind ρ).wtv w + wtP w ρ ps := rfl
    have := wtv_pos hw (q.1.bind ρ)
    omega
theorem binds_idem {ρ : Key → Ter} (h : Thr ρ ρ) {t : Ter} {f : Str} {as : List Ter} (e : t.bind ρ = .ap f as) : Ter.binds ρ as = as := by
  have h1 := h.bind t
  rw [e] at h1
  injection (show Ter.ap f (Ter.binds ρ as) = .ap f as from h1)
theorem LU.args {U : Key → Prop} {s t : Ter} {ρ : Key → Ter} {q : Ter × Ter} {ps : List (Ter × Ter)} {n : Nat} (h : LU U s t ρ (q :: ps) n) {f : Str} {as bs : List Ter} (e1 : q.1.bind ρ = .ap f as) (e2 : q.2.bind ρ = .ap f bs) (hl : as.length = bs.length) : LU U s t ρ (as.zip bs ++ ps) (n + 1) := by
  have i1 := binds_idem h.id e1
  refine ⟨h.id, fun θ => (h.eq θ).trans ⟨fun x => ⟨x.1, unf_app.mpr ⟨?_, (unf_cons.mp x.2).2⟩⟩, fun x => ⟨x.1, unf_cons.mpr ⟨?_, (unf_app.mp x.2).2⟩⟩⟩, fun w hw => ?_, h.dm, h.vs, fun x hx => ?_⟩
  · have := (unf_cons.mp x.2).1
    rw [← x.1.bind q.1, ← x.1.bind q.2, e1, e2] at this
    injection (show Ter.ap f (Ter.binds θ as) = .ap f (Ter.binds θ bs) from this) with _ e
    exact (unf_zip θ as bs hl).mpr e
  · rw [← x.1.bind q.1, ← x.1.bind q.2, e1, e2]
    show Ter.ap f (Ter.binds θ as) = .ap f (Ter.binds θ bs)
    rw [(unf_zip θ as bs hl).mp (unf_app.mp x.2).1]
  · have h1 := h.wt w hw
    have h2 : wtP w ρ (q :: ps) = (q.1.bind ρ).wtv w + wtP w ρ ps := rfl
    have h3 : (q.1.bind ρ).wtv w = Ter.wtvs w as + 1 := by rw [e1]; rfl
    have h4 := wtP_zip w ρ as bs i1
    rw [wtP_app]
    omega
  · rcases List.mem_append.mp hx with hx | hx
    · obtain ⟨v1, v2⟩ := h.av q List.mem_cons_self
      have v1 := h.avB v1
      have v2 := h.avB v2
      rw [e1] at v1
      rw [e2] at v2
      have mem : ∀ {cs : List Ter} {c : Ter}, Ter.allVs U cs → c ∈ cs → c.allV U := fun {cs c} hv hc => by
        induction cs with
        | nil => cases hc
        | cons d r ih =>
          rcases List.mem_cons.mp hc with rfl | hc
          · exact hv.1
          · exact ih hv.2 hc
      exact ⟨mem v1 (List.of_mem_zip (a := x.1) (b := x.2) hx).1, mem v2 (List.of_mem_zip (a := x.1) (b := x.2) hx).2⟩
    · exact h.av x (List.mem_cons_of_mem _ hx)
theorem one_self (x : Key) (u : Ter) : one x u x = u := if_pos rfl
theorem one_not {x k : Key} (u : Ter) (h : k ≠ x) : one x u k = .var k := if_neg h
end Own
namespace Own
open PySem PySem.Spec PyProof.Rows L2 HT
def Src (p : Ter → Prop) (ρ : Key → Ter) (v : Ter) : Prop := ∃ u, p u ∧ v.bind ρ = u.bind ρ
theorem binds_mem (σ : Key → Ter) : ∀ (ts : List Ter) (a : Ter), a ∈ Ter.binds σ ts → ∃ u ∈ ts, a = u.bind σ
  | [], a, h => nomatch h
  | b :: r, a, h => by
    rcases List.mem_cons.mp (show a ∈ b.bind σ :: Ter.binds σ r from h) with h | h
    · exact ⟨b, List.mem_cons_self, h⟩
    · obtain ⟨u, hu, e⟩ := binds_mem σ r a h
      exact ⟨u, List.mem_cons_of_mem _ hu, e⟩
theorem src_args {p : Ter → Prop} {ρ : Key → Ter} (hp : ∀ f as, p (.ap f as) → ∀ a ∈ as, p a) (hi : Thr ρ ρ) (hs : Slv p ρ) {v : Ter} (h : Src p ρ v) {f : Str} {as : List Ter} (e : v.bind ρ = .ap f as) : ∀ a ∈ as, Src p ρ a := by
  have go : ∀ {g : Str} {us : List Ter}, p (.ap g us) → (Ter.ap g us).bind ρ = .ap f as → ∀ a ∈ as, Src p ρ a := fun {g us} hu e a ha => by
    injection (show Ter.ap g (Ter.binds ρ us) = .ap f as from e) with _ e2
    rw [← e2] at ha
    obtain ⟨u, h1, rfl⟩ := binds_mem ρ us a ha
    exact ⟨u, hp _ _ hu u h1, hi.bind u⟩
  obtain ⟨u, hu, e1⟩ := h
  rw [e1] at e
  cases u with
  | var y =>
    have e : ρ y = .ap f as := e
    rcases hs y with ⟨j, h⟩ | ⟨g, us, h1, h2⟩
    · rw [h] at e; cases e
    · exact go h1 (h2 ▸ e)
  | ap g us => exact go hu e
def p2 (W : Str → Nat → Prop) (U : Key → Prop) (t : Ter) : Prop := t.wf W U ∧ t.nest ≤ 2
def Wd (W : Str → Nat → Prop) (U : Key → Prop) (l : Ter) : Prop := l.wf W U ∧ l.size ≤ 8 ∧ (l.nest ≤ 3 ∨ ∃ f a, l = .ap f [a] ∧ a.nest ≤ 3)
def LX (W : Str → Nat → Prop) (U : Key → Prop) (ρ : Key → Ter) (ps : List (Ter × Ter)) : Prop :=
  (Slv (p2 W U) ρ ∧ ∀ q ∈ ps, Src (p2 W U) ρ q.1 ∧ Src (p2 W U) ρ q.2) ∨ (ρ = Ter.var ∧ ∃ l r, ps = [(l, r)] ∧ Wd W U l ∧ Wd W U r) ∨ (ps = [] ∧ ∀ k, (ρ k).size ≤ 8 ∧ (ρ k).nest ≤ 4)
section
variable {W : Str → Nat → Prop} {U : Key → Prop}
theorem nests_mem : ∀ {as : List Ter} {a : Ter}, a ∈ as → a.nest ≤ Ter.nests as ∧ a.size ≤ Ter.sizes as
  | b :: r, a, h => by
    have h1 : Ter.nests (b :: r) = max b.nest (Ter.nests r) := rfl
    have h2 : Ter.sizes (b :: r) = b.size + Ter.sizes r := rfl
    rcases List.mem_cons.mp h with rfl | h
    · omega
    · have := nests_mem h
      omega
theorem wfs_mem : ∀ {as : List Ter} {a : Ter}, Ter.wfs W U as → a ∈ as → a.wf W U
  | b :: r, a, h, m => by
    rcases List.mem_cons.mp m with rfl | m
    · exact h.1
    · exact wfs_mem h.2 m
theorem p2_her : ∀ f as, p2 W U (.ap f as) → ∀ a ∈ as, p2 W U a := fun f as h a ha => by
  have h1 : Ter.nests as + 1 ≤ 2 := h.2
  have := (nests_mem ha).1
  exact ⟨wfs_mem h.1.2 ha, by omega⟩
theorem slv_var (p : Ter → Prop) : Slv p Ter.var := fun k => .inl ⟨k, rfl⟩
theorem LX.start {s t : Ter} (hs : Wd W U s) (ht : Wd W U t) : LX W U Ter.var [(s, t)] := .inr (.inl ⟨rfl, s, t, rfl, hs, ht⟩)
theorem LX.same {ρ : Key → Ter} {q : Ter × Ter} {ps : List (Ter × Ter)} (h : LX W U ρ (q :: ps)) : LX W U ρ ps := by
  rcases h with ⟨h1, h2⟩ | ⟨rfl, l, r, e, _⟩ | ⟨e, _⟩
  · exact .inl ⟨h1, fun x hx => h2 x (List.mem_cons_of_mem _ hx)⟩
  · have : ps = [] := (List.cons.inj e).2
    rw [this]
    exact .inl ⟨slv_var _, fun q h => (List.not_mem_nil h).elim⟩
  · cases e
theorem LX.args {ρ : Key → Ter} {q : Ter × Ter} {ps : List (Ter × Ter)} (h : LX W U ρ (q :: ps)) (hi : Thr ρ ρ) {f : Str} {as bs : List Ter} (e1 : q.1.bind ρ = .ap f as) (e2 : q.2.bind ρ = .ap f bs) (hl : as.length = bs.length) : LX W U ρ (as.zip bs ++ ps) := by
  rcases h with ⟨h1, h2⟩ | ⟨rfl, l, r, e, w1, w2⟩ | ⟨e, _⟩
  · refine .inl ⟨h1, fun x hx => ?_⟩
    rcases List.mem_append.mp hx with hx | hx
    · have hm := List.of_mem_zip (a := x.1) (b := x.2) hx
      obtain ⟨k1, k2⟩ := h2 q List.mem_cons_self
      exact ⟨src_args p2_her hi h1 k1 e1 _ hm.1, src_args p2_her hi h1 k2 e2 _ hm.2⟩
    · exact h2 x (List.mem_cons_of_mem _ hx)
  · obtain ⟨rfl, rfl⟩ := List.cons.inj e
    rw [bind_id] at e1 e2
    have e1 : l = .ap f as := e1
    have e2 : r = .ap f bs := e2
    subst e1
    subst e2
    rw [List.append_nil]
    have n1 : (Ter.ap f as).nest = Ter.nests as + 1 := rfl
    have n2 : (Ter.ap f bs).nest = Ter.nests bs + 1 := rfl
    have z1 : Ter.sizes as + 1 ≤ 8 := w1.2.1
    have z2 : Ter.sizes bs + 1 ≤ 8 := w2.2.1
    by_cases c : as.length = 1
    · obtain ⟨a, rfl⟩ := List.length_eq_one_iff.mp c
      obtain ⟨b, rfl⟩ := List.length_eq_one_iff.mp (hl.symm.trans c)
      have na : a.nest ≤ 3 := by
        rcases w1.2.2 with h | ⟨g, x, e, h⟩
        · have := (nests_mem (List.mem_singleton.mpr rfl : a ∈ [a])).1
          omega
        · injection e with _ e
          rw [(List.cons.inj e).1]; exact h
      have nb : b.nest ≤ 3 := by
        rcases w2.2.2 with h | ⟨g, x, e, h⟩
        · have := (nests_mem (List.mem_singleton.mpr rfl : b ∈ [b])).1
          omega
        · injection e with _ e
          rw [(List.cons.inj e).1]; exact h
      have sa := (nests_mem (List.mem_singleton.mpr rfl : a ∈ [a])).2
      have sb := (nests_mem (List.mem_singleton.mpr rfl : b ∈ [b])).2
      exact .inr (.inl ⟨rfl, a, b, rfl, ⟨w1.1.2.1, by omega, .inl na⟩, w2.1.2.1, by omega, .inl nb⟩)
    · have go : ∀ {cs : List Ter}, Wd W U (.ap f cs) → cs.length ≠ 1 → ∀ a ∈ cs, p2 W U a := fun {cs} w hc a ha => by
        rcases w.2.2 with h | ⟨g, x, e, h⟩
        · have := (nests_mem ha).1
          have h : Ter.nests cs + 1 ≤ 3 := h
          exact ⟨wfs_mem w.1.2 ha, by omega⟩
        · injection e with _ e
          rw [e] at hc
          exact absurd rfl hc
      refine .inl ⟨slv_var _, fun x hx => ?_⟩
      have hm := List.of_mem_zip (a := x.1) (b := x.2) hx
      exact ⟨⟨x.1, go w1 c _ hm.1, rfl⟩, x.2, go w2 (by omega) _ hm.2, rfl⟩
  · cases e
end
end Own
namespace Own
open PySem PySem.Spec PyProof.Rows L2 HT
mutual
theorem mt_comp (σ : Key → Ter) : ∀ (p : Ter) (B : Sb), (∀ e ∈ B, σ e.1 = e.2) → (mt p (p.bind σ) B).1 = true ∧ ∀ e ∈ (mt p (p.bind σ) B).2, σ e.1 = e.2
  | .var k, B, h => by
    show (mt (.var k) (σ k) B).1 = true ∧ _
    cases e : Sb.look B k with
    | some s =>
      rw [show (Ter.var k).bind σ = σ k from rfl, mt_int e]
      exact ⟨(eT_iff s (σ k)).mpr (h _ (slook_mem e)).symm, h⟩
    | none =>
      rw [show (Ter.var k).bind σ = σ k from rfl, mt_new e]
      refine ⟨rfl, fun x hx => ?_⟩
      rcases List.mem_append.mp hx with hx | hx
      · exact h x hx
      · rw [List.mem_singleton.mp hx]
  | .ap g as, B, h => by
    rw [show (Ter.ap g as).bind σ = .ap g (Ter.binds σ as) from rfl, mt_ap, if_pos ⟨rfl, (binds_len σ as).symm⟩]
    exact mts_comp σ as B h
theorem mts_comp (σ : Key → Ter) : ∀ (ps : List Ter) (B : Sb), (∀ e ∈ B, σ e.1 = e.2) → (mts ps (Ter.binds σ ps) B).1 = true ∧ ∀ e ∈ (mts ps (Ter.binds σ ps) B).2, σ e.1 = e.2
  | [], B, h => by rw [mts]; exact ⟨rfl, h⟩
  | a :: r, B, h => by
    rw [show Ter.binds σ (a :: r) = a.bind σ :: Ter.binds σ r from rfl, mts]
    obtain ⟨h1, h2⟩ := mt_comp σ a B h
    rw [if_pos h1]
    exact mts_comp σ r _ h2
end
theorem thr_match {σ ρ : Key → Ter} (h : Thr σ ρ) (c d : Ter) : (mts [c.bind σ, d.bind σ] [c.bind ρ, d.bind ρ] []).1 = true := by
  have := (mts_comp ρ [c.bind σ, d.bind σ] [] fun e h => (List.not_mem_nil h).elim).1
  rw [show Ter.binds ρ [c.bind σ, d.bind σ] = [(c.bind σ).bind ρ, (d.bind σ).bind ρ] from rfl, h.bind c, h.bind d] at this
  exact this
structure UD (τ : Sb) : Prop where
  nd : (Sb.keys τ).Nodup
  ne : ∀ e ∈ τ, e.2 ≠ .var e.1
  fx : Thr (sbF τ) (sbF τ)
theorem UD.look {τ : Sb} (h : UD τ) {x : Key} (hx : sbF τ x = .var x) : Sb.look τ x = none := by
  cases e : Sb.look τ x with
  | none => rfl
  | some t =>
    have : sbF τ x = t := by unfold sbF; rw [e]; rfl
    rw [hx] at this
    exact absurd this.symm (h.ne _ (slook_mem e))
theorem UD.nil : UD [] := ⟨List.nodup_nil, (fun e h => (List.not_mem_nil h).elim), fun _ => rfl⟩
end Own
namespace Own
open PySem PySem.Spec PyProof.Rows L2 HT
end Own
namespace Own
open PySem PySem.Spec PyProof.Rows L2 HT
end Own
namespace Own
open PySem PySem.Spec PyProof.Rows L2 HT
inductive CR (s : List Int → Ter) (t : Ter) (c : List Int → Ter) (r : Ter) (B : Nat) : List (List Int) → List (Ter × Ter) → Prop
  | nil : CR s t c r B [] []
  | skip {p : List Int} {ps : List (List Int)} {rows : List (Ter × Ter)} : (∀ θ : Key → Ter, (s p).bind θ ≠ t.bind θ) → CR s t c r B ps rows → CR s t c r B (p :: ps) rows
  | hit {p : List Int} {ps : List (List Int)} {rows : List (Ter × Ter)} (σ : Key → Ter) : (s p).bind σ = t.bind σ → (∀ θ : Key → Ter, (s p).bind θ = t.bind θ → Thr σ θ) → (∀ k, (σ k).size ≤ B ∧ (σ k).nest ≤ 5) → CR s t c r B ps rows → CR s t c r B (p :: ps) (((c p).bind σ, r.bind σ) :: rows)
section
variable {s : List Int → Ter} {t : Ter} {c : List Int → Ter} {r : Ter} {B B' : Nat}
theorem CR.app {p : List Int} {x : Option (Ter × Ter)} : ∀ {ps : List (List Int)} {rows : List (Ter × Ter)}, CR s t c r B ps rows → CR s t c r B [p] x.toList → CR s t c r B (ps ++ [p]) (rows ++ x.toList)
  | _, _, .nil, h1 => h1
  | _, _, .skip n h, h1 => .skip n (h.app h1)
  | _, _, .hit σ a b d h, h1 => .hit σ a b d (h.app h1)
theorem CR.at {ps : List (List Int)} {rows : List (Ter × Ter)} (h : CR s t c r B ps rows) {i : Nat} {p : List Int} (e : ps[i]? = some p) : (∀ θ : Key → Ter, (s p).bind θ ≠ t.bind θ) ∨ ∃ σ : Key → Ter, (s p).bind σ = t.bind σ ∧ ∀ k, (σ k).size ≤ B ∧ (σ k).nest ≤ 5 := by
  induction h generalizing i with
  | nil => cases e
  | skip n h ih =>
    cases i with
    | zero => cases e; exact .inl n
    | succ i => exact ih e
  | hit σ a b d h ih =>
    cases i with
    | zero => cases e; exact .inr ⟨σ, a, d⟩
    | succ i => exact ih e
theorem CR.same : ∀ {ps : List (List Int)} {rows rows' : List (Ter × Ter)}, CR s t c r B ps rows → CR s t c r B' ps rows' → rows.length = rows'.length ∧ ∀ (i : Nat) (x y : Ter × Ter), rows[i]? = some x → rows'[i]? = some y → (mts [x.1, x.2] [y.1, y.2] []).1 = true ∧ (mts [y.1, y.2] [x.1, x.2] []).1 = true
  | _, _, _, .nil, .nil => ⟨rfl, fun i x y h => by cases h⟩
  | _, _, _, .skip n h, .skip _ g => h.same g
  | _, _, _, .skip n _, .hit σ a _ _ _ => absurd a (n σ)
  | _, _, _, .hit σ a _ _ _, .skip n _ => absurd a (n σ)
  | _, _, _, .hit σ a b d h, .hit ρ a' b' d' g => by
    obtain ⟨k1, k2⟩ := h.same g
    refine ⟨congrArg (· + 1) k1, fun i x y hx hy => ?_⟩
    cases i with
    | zero =>
      cases hx
      cases hy
      exact ⟨thr_match (b ρ a') _ _, thr_match (b' σ a) _ _⟩
    | succ i => exact k2 i x y hx hy
end
end Own
namespace Own
open PySem PySem.Spec PyProof.Rows L2 HT
end Own
namespace Own
open PySem PySem.Spec PyProof.Rows L2 HT
open Classical in
mutual
noncomputable def Ter.cut (S : Str → Nat → Prop) (U : Key → Prop) : Ter → Ter
  | .var k => if U k then .var k else .var (.inl 0)
  | .ap f as => if S f as.length then .ap f (Ter.cuts S U as) else .var (.inl 0)
noncomputable def Ter.cuts (S : Str → Nat → Prop) (U : Key → Prop) : List Ter → List Ter
  | [] => []
  | a :: r => a.cut S U :: Ter.cuts S U r
end
section
variable {S : Str → Nat → Prop} {U : Key → Prop}
open Classical in
noncomputable def cutB (S : Str → Nat → Prop) (U : Key → Prop) (σ : Key → Ter) (k : Key) : Ter := if U k then (σ k).cut S U else .var (.inl 1)
mutual
theorem cut_bind (σ : Key → Ter) : ∀ t : Ter, t.wf S U → t.bind (cutB S U σ) = (t.bind σ).cut S U
  | .var k, h => by
    show cutB S U σ k = (σ k).cut S U
    unfold cutB
    exact if_pos h
  | .ap f as, h => by
    show Ter.ap f (Ter.binds (cutB S U σ) as) = (Ter.ap f (Ter.binds σ as)).cut S U
    rw [Ter.cut, binds_len, if_pos h.1, cuts_bind σ as h.2]
theorem cuts_bind (σ : Key → Ter) : ∀ ts : List Ter, Ter.wfs S U ts → Ter.binds (cutB S U σ) ts = Ter.cuts S U (Ter.binds σ ts)
  | [], _ => by rw [show Ter.binds σ [] = [] from rfl, Ter.cuts]; rfl
  | a :: r, h => by
    show a.bind _ :: Ter.binds _ r = Ter.cuts S U (a.bind σ :: Ter.binds σ r)
    rw [Ter.cuts, cut_bind σ a h.1, cuts_bind σ r h.2]
end
mutual
theorem cut_inv (σ : Key → Ter) : ∀ t : Ter, t.bind (cutB S U σ) = t.cut S U → t.wf S U
  | .var k, h => by
    have h : cutB S U σ k = (Ter.var k).cut S U := h
    show U k
    refine Classical.byContradiction fun z => ?_
    rw [Ter.cut, if_neg z] at h
    unfold cutB at h
    rw [if_neg z] at h
    injection h with h
    injection h with h
    exact absurd h (by decide)
  | .ap f as, h => by
    have h : Ter.ap f (Ter.binds (cutB S U σ) as) = (Ter.ap f as).cut S U := h
    rw [Ter.cut] at h
    by_cases z : S f as.length
    · rw [if_pos z] at h
      injection h with _ h
      exact ⟨z, cuts_inv σ as h⟩
    · rw [if_neg z] at h
      cases h
theorem cuts_inv (σ : Key → Ter) : ∀ ts : List Ter, Ter.binds (cutB S U σ) ts = Ter.cuts S U ts → Ter.wfs S U ts
  | [], _ => trivial
  | a :: r, h => by
    have h : a.bind (cutB S U σ) :: Ter.binds (cutB S U σ) r = Ter.cuts S U (a :: r) := h
    rw [Ter.cuts] at h
    injection h with h1 h2
    exact ⟨cut_inv σ a h1, cuts_inv σ r h2⟩
end
theorem mgu_wf {s t : Ter} {σ : Key → Ter} (hs : s.wf S U) (ht : t.wf S U) (un : s.bind σ = t.bind σ) (mg : ∀ θ : Key → Ter, s.bind θ = t.bind θ → Thr σ θ) (k : Key) (hk : U k) : (σ k).wf S U := by
  have e : s.bind (cutB S U σ) = t.bind (cutB S U σ) := by rw [cut_bind σ s hs, cut_bind σ t ht, un]
  have h := mg _ e k
  refine cut_inv σ (σ k) (h.trans ?_)
  unfold cutB
  exact if_pos hk
theorem CR.all {s : List Int → Ter} {t : Ter} {c : List Int → Ter} {r : Ter} (ht : t.wf S U) (hr : r.wf S U) (r1 : r.size ≤ 16) (r2 : r.nest ≤ 8) : ∀ {ps : List (List Int)} {rows : List (Ter × Ter)}, CR s t c r 61 ps rows → (∀ p ∈ ps, (s p).wf S U ∧ (c p).wf S U ∧ (c p).size ≤ 16 ∧ (c p).nest ≤ 8) →
    ∀ x ∈ rows, x.1.wf S U ∧ x.2.wf S U ∧ x.1.size ≤ 1000 ∧ x.2.size ≤ 1000 ∧ x.1.nest ≤ 20 ∧ x.2.nest ≤ 20
  | _, _, .nil, _ => fun x h => by cases h
  | _, _, .skip _ h, hp => h.all ht hr r1 r2 fun p m => hp p (List.mem_cons_of_mem _ m)
  | _, _, .hit (p := p) σ a b d h, hp => fun x m => by
    rcases List.mem_cons.mp m with rfl | m
    · obtain ⟨h1, h2, h3, h4⟩ := hp _ List.mem_cons_self
      have w := mgu_wf h1 ht a b
      have z1 := bind_size (fun k => (d k).1) (by decide) (c p)
      have z2 := bind_size (fun k => (d k).1) (by decide) r
      have n1 := bind_nest (fun k => (d k).2) (c p)
      have n2 := bind_nest (fun k => (d k).2) r
      have e1 : (c p).size * 61 ≤ 16 * 61 := Nat.mul_le_mul_right 61 h3
      have e2 : r.size * 61 ≤ 16 * 61 := Nat.mul_le_mul_right 61 r1
      exact ⟨bind_wf w _ h2, bind_wf w _ hr, by show ((c p).bind σ).size ≤ 1000; omega, by show (r.bind σ).size ≤ 1000; omega, by show ((c p).bind σ).nest ≤ 20; omega, by show (r.bind σ).nest ≤ 20; omega⟩
    · exact h.all ht hr r1 r2 (fun p m => hp p (List.mem_cons_of_mem _ m)) x m
theorem CR.le {s : List Int → Ter} {t : Ter} {c : List Int → Ter} {r : Ter} {B : Nat} : ∀ {ps : List (List Int)} {rows : List (Ter × Ter)}, CR s t c r B ps rows → rows.length ≤ ps.length
  | _, _, .nil => Nat.le_refl _
  | _, _, .skip _ h => Nat.le_succ_of_le h.le
  | _, _, .hit _ _ _ _ h => Nat.succ_le_succ h.le
end
end Own
set_option maxHeartbeats 1000000
namespace Own
open PySem PySem.Spec PyProof.Rows L2 HT GenW
end Own
set_option maxHeartbeats 1000000
namespace Own
open PySem PySem.Spec PyProof.Rows L2 HT
end Own
namespace Own
open PySem PySem.Spec PyProof.Rows L2 HT
end Own
namespace Own
open PySem PySem.Spec PyProof.Rows L2 HT
structure Mo where
  fn : Str → List Int → Int
  pr : Str → List Int → Bool
mutual
def Ter.va (M : Mo) (ρ : Key → Int) : Ter → Int
  | .var k => ρ k
  | .ap f as => M.fn f (Ter.vas M ρ as)
def Ter.vas (M : Mo) (ρ : Key → Int) : List Ter → List Int
  | [] => []
  | a :: r => a.va M ρ :: Ter.vas M ρ r
end
section
variable {F Pd : Str → Nat → Prop} {U : Key → Prop}
theorem isTrueT_iff (t : Ter) : isTrueT t = true ↔ t = trueT := by
  constructor
  · intro h
    exact eT_eq t trueT h
  · intro h
    subst h
    decide +kernel
end
end Own
namespace Own
open PySem PySem.Spec PyProof.Rows L2 HT
theorem allVs_mem {P : Key → Prop} : ∀ {as : List Ter} {a : Ter}, Ter.allVs P as → a ∈ as → a.allV P
  | b :: r, a, h, m => by
    rcases List.mem_cons.mp m with rfl | m
    · exact h.1
    · exact allVs_mem h.2 m
theorem nest_arg {f : Str} {as : List Ter} {a : Ter} {n : Nat} (h : (Ter.ap f as).nest ≤ n + 1) (m : a ∈ as) : a.nest ≤ n := by
  have h1 : Ter.nests as + 1 ≤ n + 1 := h
  have := (nests_mem m).1
  omega
section
variable {U2 : Key → Prop}
def pS (U2 : Key → Prop) (ts t : Ter) : Prop := (t.allV U2 ∧ t.nest ≤ 2) ∨ t.nest ≤ 1 ∨ t = ts
def tS (U2 : Key → Prop) (t : Ter) : Prop := t.allV U2 ∧ t.nest ≤ 3
def leaf0 : Ter := .ap "true" []
theorem tS_0 : tS U2 leaf0 := ⟨trivial, by show 0 + 1 ≤ 3; decide⟩
theorem pS_her {ts : Ter} (h : tS U2 ts) : ∀ f as, pS U2 ts (.ap f as) → ∀ a ∈ as, pS U2 ts a := fun f as hp a ha => by
  rcases hp with ⟨h1, h2⟩ | h | e
  · exact .inl ⟨allVs_mem h1 ha, Nat.le_succ_of_le (nest_arg h2 ha)⟩
  · exact absurd (nest_arg h ha) (by have := nest_pos a; omega)
  · rw [← e] at h
    exact .inl ⟨allVs_mem h.1 ha, nest_arg h.2 ha⟩
def n2 (t : Ter) : Prop := t.nest ≤ 2
def n3 (t : Ter) : Prop := t.nest ≤ 3
theorem n2_her : ∀ f as, n2 (.ap f as) → ∀ a ∈ as, n2 a := fun f as h a ha => Nat.le_succ_of_le (nest_arg h ha)
def AB (U2 : Key → Prop) (q : Ter × Ter) : Prop := q.1.nest ≤ 2 ∧ q.2.nest ≤ 3 ∧ q.2.allV U2
def LZ (U2 : Key → Prop) (ρ : Key → Ter) (ps : List (Ter × Ter)) : Prop :=
  (ρ = Ter.var ∧ ∃ l r, ps = [(l, r)] ∧ l.nest ≤ 3 ∧ r.nest ≤ 4 ∧ r.allV U2 ∧ ∀ f as, l = .ap f as → as.length ≤ 2) ∨
  (ρ = Ter.var ∧ ∃ q1 q2, ps = [q1, q2] ∧ AB U2 q1 ∧ AB U2 q2) ∨
  (∃ qs q2, ps = qs ++ [q2] ∧ Slv (pS U2 leaf0) ρ ∧ (∀ q ∈ qs, Src (pS U2 leaf0) ρ q.1 ∧ Src (pS U2 leaf0) ρ q.2) ∧ AB U2 q2) ∨
  (∃ x c q2, ρ = one x c ∧ ps = [q2] ∧ (tS U2 c ∨ n2 c) ∧ n3 c ∧ (c.allV fun k => k ≠ x) ∧ AB U2 q2) ∨
  (∃ ts, tS U2 ts ∧ Slv (pS U2 ts) ρ ∧ ∀ q ∈ ps, Src (pS U2 ts) ρ q.1 ∧ Src (pS U2 ts) ρ q.2) ∨
  (Slv n2 ρ ∧ ∀ q ∈ ps, Src n2 ρ q.1 ∧ Src n2 ρ q.2) ∨
  (ps = [] ∧ ∀ k, (ρ k).nest ≤ 5)
theorem LZ.start {l r : Ter} (h1 : l.nest ≤ 3) (h2 : r.nest ≤ 4) (h3 : r.allV U2) (h4 : ∀ f as, l = .ap f as → as.length ≤ 2) : LZ U2 Ter.var [(l, r)] := .inl ⟨rfl, l, r, rfl, h1, h2, h3, h4⟩
theorem one_slv {p : Ter → Prop} {x : Key} {c : Ter} (hp : p c) (ho : c.allV fun k => k ≠ x) : Slv p (one x c) := fun k => by
  by_cases e : k = x
  · rw [e, one_self]
    cases c with
    | var j => exact .inl ⟨j, rfl⟩
    | ap f as => exact .inr ⟨f, as, hp, (one_id ho).symm⟩
  · rw [one_not c e]; exact .inl ⟨k, rfl⟩
theorem LZ.same {ρ : Key → Ter} {q : Ter × Ter} {ps : List (Ter × Ter)} (h : LZ U2 ρ (q :: ps)) : LZ U2 ρ ps := by
  have fin : ps = [] → (∀ k, (ρ k).nest ≤ 5) → LZ U2 ρ ps := fun a b => .inr (.inr (.inr (.inr (.inr (.inr ⟨a, b⟩)))))
  rcases h with ⟨rfl, l, r, e, _⟩ | ⟨rfl, q1, q2, e, a1, a2⟩ | ⟨qs, q2, e, hs, hq, a2⟩ | ⟨x, c, q2, rfl, e, hc, h3, ho, a2⟩ | ⟨ts, ht, hs, hq⟩ | ⟨hs, hq⟩ | ⟨e, _⟩
  · exact fin (List.cons.inj e).2 fun k => by show 1 ≤ 5; decide
  · rw [(List.cons.inj e).2]
    exact .inr (.inr (.inl ⟨[], q2, rfl, slv_var _, fun q h => (List.not_mem_nil h).elim, a2⟩))
  · cases qs with
    | nil =>
      have e := List.cons.inj e
      rw [e.2]
      exact .inr (.inr (.inr (.inr (.inl ⟨leaf0, tS_0, hs, fun q h => (List.not_mem_nil h).elim⟩))))
    | cons q0 r =>
      have e := List.cons.inj e
      exact .inr (.inr (.inl ⟨r, q2, e.2, hs, fun x hx => hq x (List.mem_cons_of_mem _ hx), a2⟩))
  · refine fin (List.cons.inj e).2 fun k => ?_
    by_cases g : k = x
    · rw [g, one_self]; exact Nat.le_trans h3 (by decide)
    · rw [one_not c g]; show 1 ≤ 5; decide
  · exact .inr (.inr (.inr (.inr (.inl ⟨ts, ht, hs, fun x hx => hq x (List.mem_cons_of_mem _ hx)⟩))))
  · exact .inr (.inr (.inr (.inr (.inr (.inl ⟨hs, fun x hx => hq x (List.mem_cons_of_mem _ hx)⟩)))))
  · cases e
theorem zip_src {p : Ter → Prop} {ρ : Key → Ter} {as bs : List Ter} {ps : List (Ter × Ter)} (h1 : ∀ a ∈ as, Src p ρ a) (h2 : ∀ b ∈ bs, Src p ρ b) (h : ∀ q ∈ ps, Src p ρ q.1 ∧ Src p ρ q.2) : ∀ q ∈ as.zip bs ++ ps, Src p ρ q.1 ∧ Src p ρ q.2 := fun x hx => by
  rcases List.mem_append.mp hx with hx | hx
  · have hm := List.of_mem_zip (a := x.1) (b := x.2) hx
    exact ⟨h1 _ hm.1, h2 _ hm.2⟩
  · exact h x hx
theorem src_of {p p' : Ter → Prop} {ρ : Key → Ter} (hp : ∀ f as, p' (.ap f as) → ∀ a ∈ as, p' a) (hi : Thr ρ ρ) (hs : Slv p' ρ) {v : Ter} (hv : ∀ f as, v = .ap f as → ∀ a ∈ as, p' a) {f : Str} {as : List Ter} (e : v.bind ρ = .ap f as) : ∀ a ∈ as, Src p' ρ a := fun a ha => by
  cases v with
  | var y =>
    have e : ρ y = .ap f as := e
    rcases hs y with ⟨j, h⟩ | ⟨g, us, h1, h2⟩
    · rw [h] at e; cases e
    · exact src_args hp hi hs (v := .ap g us) ⟨_, h1, rfl⟩ (h2 ▸ e) a ha
  | ap g us =>
    injection (show Ter.ap g (Ter.binds ρ us) = .ap f as from e) with _ e2
    rw [← e2] at ha
    obtain ⟨u, h1, rfl⟩ := binds_mem ρ us a ha
    exact ⟨u, hv g us rfl u h1, hi.bind u⟩
theorem LZ.args {ρ : Key → Ter} {q : Ter × Ter} {ps : List (Ter × Ter)} (h : LZ U2 ρ (q :: ps)) (hi : Thr ρ ρ) {f : Str} {as bs : List Ter} (e1 : q.1.bind ρ = .ap f as) (e2 : q.2.bind ρ = .ap f bs) (hl : as.length = bs.length) : LZ U2 ρ (as.zip bs ++ ps) := by
  have s1 : ∀ {ts : Ter}, tS U2 ts → Slv (pS U2 ts) ρ → (∀ x ∈ as.zip bs ++ ps, Src (pS U2 ts) ρ x.1 ∧ Src (pS U2 ts) ρ x.2) → LZ U2 ρ (as.zip bs ++ ps) := fun {ts} a b c => .inr (.inr (.inr (.inr (.inl ⟨ts, a, b, c⟩))))
  have s0 : Slv n2 ρ → (∀ x ∈ as.zip bs ++ ps, Src n2 ρ x.1 ∧ Src n2 ρ x.2) → LZ U2 ρ (as.zip bs ++ ps) := fun b c => .inr (.inr (.inr (.inr (.inr (.inl ⟨b, c⟩)))))
  have ab1 : ∀ {ts : Ter}, AB U2 q → ∀ g cs, q.1 = .ap g cs → ∀ a ∈ cs, pS U2 ts a := fun {ts} A g cs e a ha => .inr (.inl (nest_arg (f := g) (by rw [← e]; exact A.1) ha))
  have ab2 : ∀ {ts : Ter}, AB U2 q → ∀ g cs, q.2 = .ap g cs → ∀ a ∈ cs, pS U2 ts a := fun {ts} A g cs e a ha => .inl ⟨allVs_mem (show Ter.allVs U2 cs from by have := A.2.2; rw [e] at this; exact this) ha, nest_arg (f := g) (by rw [← e]; exact A.2.1) ha⟩
  rcases h with ⟨rfl, l, r, e, n1, n4, hv, hlen⟩ | ⟨rfl, q1, q2, e, a1, a2⟩ | ⟨qs, q2, e, hs, hq, a2⟩ | ⟨x, c, q2, rfl, e, hc, h3, ho, a2⟩ | ⟨ts, ht, hs, hq⟩ | ⟨hs, hq⟩ | ⟨e, _⟩
  · obtain ⟨rfl, rfl⟩ := List.cons.inj e
    rw [bind_id] at e1 e2
    have e1 : l = .ap f as := e1
    have e2 : r = .ap f bs := e2
    have ll := hlen f as e1
    subst e1
    subst e2
    rw [List.append_nil]
    have ok : ∀ a b, a ∈ as → b ∈ bs → AB U2 (a, b) := fun a b ha hb => ⟨nest_arg n1 ha, nest_arg n4 hb, allVs_mem hv hb⟩
    match as, bs, hl, ll, ok with
    | [], [], _, _, _ => exact .inr (.inr (.inr (.inr (.inr (.inr ⟨rfl, fun k => by show 1 ≤ 5; decide⟩)))))
    | [a], [b], _, _, ok => exact .inr (.inr (.inl ⟨[], (a, b), rfl, slv_var _, fun q h => (List.not_mem_nil h).elim, ok a b List.mem_cons_self List.mem_cons_self⟩))
    | [a, a'], [b, b'], _, _, ok => exact .inr (.inl ⟨rfl, (a, b), (a', b'), rfl, ok a b List.mem_cons_self List.mem_cons_self, ok a' b' (List.mem_cons_of_mem _ List.mem_cons_self) (List.mem_cons_of_mem _ List.mem_cons_self)⟩)
    | _ :: _ :: _ :: _, _, _, ll, _ => exact absurd ll (by simp)
  · obtain ⟨rfl, rfl⟩ := List.cons.inj e
    refine .inr (.inr (.inl ⟨as.zip bs, q2, rfl, slv_var _, fun x hx => ?_, a2⟩))
    have hm := List.of_mem_zip (a := x.1) (b := x.2) hx
    exact ⟨src_of (p := n2) (pS_her tS_0) hi (slv_var _) (ab1 a1) e1 _ hm.1, src_of (p := n2) (pS_her tS_0) hi (slv_var _) (ab2 a1) e2 _ hm.2⟩
  · cases qs with
    | nil =>
      obtain ⟨rfl, rfl⟩ := List.cons.inj e
      exact s1 tS_0 hs (zip_src (src_of (p := n2) (pS_her tS_0) hi hs (ab1 a2) e1) (src_of (p := n2) (pS_her tS_0) hi hs (ab2 a2) e2) fun q h => (List.not_mem_nil h).elim)
    | cons q0 r =>
      obtain ⟨rfl, rfl⟩ := List.cons.inj e
      obtain ⟨k1, k2⟩ := hq q List.mem_cons_self
      refine .inr (.inr (.inl ⟨as.zip bs ++ r, q2, (List.append_assoc _ _ _).symm, hs, zip_src (src_args (pS_her tS_0) hi hs k1 e1) (src_args (pS_her tS_0) hi hs k2 e2) fun x hx => hq x (List.mem_cons_of_mem _ hx), a2⟩))
  · obtain ⟨rfl, rfl⟩ := List.cons.inj e
    rcases hc with hc | hc
    · have hs : Slv (pS U2 c) (one x c) := one_slv (.inr (.inr rfl)) ho
      exact s1 hc hs (zip_src (src_of (p := n2) (pS_her hc) hi hs (ab1 a2) e1) (src_of (p := n2) (pS_her hc) hi hs (ab2 a2) e2) fun q h => (List.not_mem_nil h).elim)
    · have hs : Slv n2 (one x c) := one_slv hc ho
      refine s0 hs (zip_src (src_of (p := n2) n2_her hi hs (fun g cs e a ha => Nat.le_succ_of_le (nest_arg (f := g) (by rw [← e]; exact a2.1) ha)) e1) (src_of (p := n2) n2_her hi hs (fun g cs e a ha => nest_arg (f := g) (by rw [← e]; exact a2.2.1) ha) e2) fun q h => (List.not_mem_nil h).elim)
  · obtain ⟨k1, k2⟩ := hq q List.mem_cons_self
    exact s1 ht hs (zip_src (src_args (pS_her ht) hi hs k1 e1) (src_args (pS_her ht) hi hs k2 e2) fun x hx => hq x (List.mem_cons_of_mem _ hx))
  · obtain ⟨k1, k2⟩ := hq q List.mem_cons_self
    exact s0 hs (zip_src (src_args n2_her hi hs k1 e1) (src_args n2_her hi hs k2 e2) fun x hx => hq x (List.mem_cons_of_mem _ hx))
  · cases e
end
end Own
namespace Own
open PySem PySem.Spec PyProof.Rows L2 HT
end Own
namespace Own
open PySem PySem.Spec PyProof.Rows L2 HT
end Own
set_option maxHeartbeats 2000000
namespace Own
open PySem PySem.Spec PyProof.Rows L2 HT
section
variable {prog : Program} {w : World} {A : Around} {E : Value → Shared → Prop} {s : Shared}
theorem wpAny_dictStar2 {e1 e2 : Expr} {env : Env} {pos : Pos} {Q : Value → Shared → Prop}
    (h : wpAny (model prog w) A (eval e1 env) (fun m s1 => wpAny (model prog w) A (mergeMapping s.heap.objs.size m false) (fun _ s2 =>
      wpAny (model prog w) A (eval e2 env) (fun m2 s3 => wpAny (model prog w) A (mergeMapping s.heap.objs.size m2 false) (fun _ s4 => Q (.ref s.heap.objs.size) s4) (fun _ _ => False) s3) E s2) (fun _ _ => False) s1) E
      { s with heap := s.heap.push { cls := .type "dict", data := .dict #[] } }) :
    wpAny (model prog w) A (eval (.Dict [none, none] [e1, e2] pos) env) Q E s := by
  rw [arm_eval_Dict]
  refine wpAny_bind (wpAny_standAt ?_)
  show wpAny _ _ (dictDisplay [(none, do let x ← eval e1 env; standAt pos; pure x), (none, do let x ← eval e2 env; standAt pos; pure x)]) Q E s
  unfold dictDisplay
  dsimp only
  rw [List.forIn_cons]
  dsimp only
  rw [if_pos (by decide)]
  refine wpAny_bind (wpAny_bind (wpAny_bind (wpAny_pure ?_)))
  dsimp only
  refine wpAny_bind (wpAny_alloc ?_)
  refine wpAny_bind (wpAny_holding (wpAny_bind (wpAny_mono h (fun m s1 h1 => ?_) (fun _ _ z => z))))
  refine wpAny_bind (wpAny_standAt (wpAny_pure ?_))
  refine wpAny_bind (wpAny_onRaise (wpAny_tryCatch (wpAny_onRaise (wpAny_holding (wpAny_mono h1 (fun _ s2 h2 => ?_) (fun _ _ z => z.elim))))))
  refine wpAny_pure ?_
  dsimp only
  rw [List.forIn_cons]
  dsimp only
  rw [if_pos (by decide)]
  refine wpAny_bind (wpAny_bind (wpAny_pure ?_))
  dsimp only
  refine wpAny_bind (wpAny_pure ?_)
  refine wpAny_bind (wpAny_holding (wpAny_bind (wpAny_mono h2 (fun m2 s3 h3 => ?_) (fun _ _ z => z))))
  refine wpAny_bind (wpAny_standAt (wpAny_pure ?_))
  refine wpAny_bind (wpAny_onRaise (wpAny_tryCatch (wpAny_onRaise (wpAny_holding (wpAny_mono h3 (fun _ s4 h4 => ?_) (fun _ _ z => z.elim))))))
  refine wpAny_pure ?_
  dsimp only
  rw [List.forIn_nil]
  refine wpAny_pure ?_
  dsimp only
  rw [if_pos (by decide)]
  refine wpAny_bind (wpAny_pure ?_)
  exact wpAny_pure h4
end
theorem putK_len_le (kvs : List (Key × V)) (k : Key) (v : V) : (putK kvs k v).length ≤ kvs.length + 1 := by
  have := length_putK kvs k v
  omega
theorem mergeK_len : ∀ (more kvs : List (Key × V)), (mergeK kvs more).length ≤ kvs.length + more.length
  | [], kvs => Nat.le_refl _
  | e :: r, kvs => by
    have h1 := mergeK_len r (putK kvs e.1 e.2)
    have h2 := putK_len_le kvs e.1 e.2
    show (mergeK (putK kvs e.1 e.2) r).length ≤ kvs.length + (r.length + 1)
    omega
def tStar2 (t1 t2 : TE) : TE := fun σ H Q => ∀ p, H p = none → t1 σ (upd H p (.dK [])) fun x H1 => ∃ (a : Addr) (kvs : List (Key × V)), x = .ref a ∧ Rd H1 a (.dK kvs) ∧ H1 p = some (.dK []) ∧ a ≠ p ∧ kvs.length ≤ 1000000 ∧
  t2 σ (upd H1 p (.dK kvs)) fun y H2 => ∃ (b : Addr) (more : List (Key × V)), y = .ref b ∧ Rd H2 b (.dK more) ∧ H2 p = some (.dK kvs) ∧ b ≠ p ∧ kvs.length + more.length ≤ 1000000 ∧ Q (.ref p) (upd H2 p (.dK (mergeK kvs more)))
theorem pe_star2 {X : Cx} {e1 e2 : Expr} {t1 t2 : TE} {pos : Pos} (h1 : PE X e1 t1) (h2 : PE X e2 t2) : PE X (.Dict [none, none] [e1, e2] pos) (tStar2 t1 t2) := by
  refine ⟨fun pins s σ H Q I h => ?_⟩
  have hn := I.hok.fresh (Nat.le_refl s.heap.objs.size)
  have I1 := I.laid (a := s.heap.objs.size) (o := .dK []) (h' := s.heap.push { cls := .type "dict", data := .dict #[] }) (t' := s.toks) (fun _ _ q => Heap.get?_push_of_some _ q) (Nat.le_refl _) (dk_empty s.heap I.big)
  refine wpAny_dictStar2 (thn (h1.run pins _ σ _ _ I1 (h _ hn)) fun m s1 ⟨x, H1, I2, rx, a, kvs, ex, hr, ep, nap, lk, q1⟩ => ?_)
  subst ex
  cases rx
  obtain ⟨z0, hd0, vs0, r0, dd0⟩ := dk_of I2.hok ep
  cases r0
  obtain ⟨za, hda, vs, ra, dda⟩ := dk_rd I2.hok hr
  have lvs : vs.length ≤ 1000000 := by rw [← ra.length]; exact lk
  have hnd : (vs.map (·.1)).Nodup := by obtain ⟨_, _, _, _, _, _, _, _, hn⟩ := dda; exact hn
  refine wpAny_mergeMapping (Ne.symm nap) hda dd0 dda (fun h' dd' _ sb => ?_) (by rw [sizeLine_eq, List.length_nil]; omega)
  rw [merged_nil_of_nodup vs hnd] at dd'
  have hex : ∃ q, h'.get? s.heap.objs.size = some q := let ⟨q, _, _, hq, _⟩ := dd'; ⟨q, hq⟩
  have I3 := d_write (t' := s1.toks) I2 (ob := .dK kvs) (by rw [ep]; exact True.intro) sb hex (dk_new za hd0 ra dd')
  refine thn (h2.run pins _ σ _ _ I3 q1) fun m2 s3 ⟨y, H5, I5, ry, b, more, ey, hr5, ep5, nbp, lk5, q2⟩ => ?_
  subst ey
  cases ry
  obtain ⟨zp, hdp, vsp, rp, ddp⟩ := dk_of I5.hok ep5
  obtain ⟨zb, hdb, vsb, rb, ddb⟩ := dk_rd I5.hok hr5
  have lvp : vsp.length + vsb.length ≤ 1000000 := by rw [← rp.length, ← rb.length]; exact lk5
  refine wpAny_mergeMapping (Ne.symm nbp) hdb ddp ddb (fun h7 dd7 _ sb7 => ?_) (by rw [sizeLine_eq]; omega)
  have hex7 : ∃ q, h7.get? s.heap.objs.size = some q := let ⟨q, _, _, hq, _⟩ := dd7; ⟨q, hq⟩
  have lz : (mergeK kvs more).length ≤ sizeLine := by
    have := mergeK_len more kvs
    rw [sizeLine_eq]; omega
  have I7 := d_write (t' := s3.toks) I5 (ob := .dK (mergeK kvs more)) (by rw [ep5]; exact True.intro) sb7 hex7 (dk_new lz hdp (rb.merge rp) dd7)
  exact ⟨.ref s.heap.objs.size, _, I7, rfl, q2⟩
end Own
set_option maxHeartbeats 2000000
namespace Own
open PySem PySem.Spec PyProof.Rows L2 HT
def N3 : List Str := ["X", "Y", "Z"]
def s23 (f : Str) (n : Nat) : Prop := (f = "a" ∧ n = 0) ∨ (f = "b" ∧ n = 0) ∨ (f = "r" ∧ n = 0) ∨ (f = "f" ∧ n = 1) ∨ (f = "p" ∧ n = 1) ∨ (f = "g" ∧ n = 2) ∨ (f = "q" ∧ n = 2)
def cpL (s : Str) : List Nat := s.cps.toList
theorem cpL_app (s t : Str) : cpL (s ++ t) = cpL s ++ cpL t := by
  show (s.cps ++ t.cps).toList = _
  exact Array.toList_append
def arg1 (f : Str) : Option (Ter × List Nat) → Option (Ter × List Nat)
  | some (t, 41 :: s) => some (.ap f [t], s)
  | _ => none
def arg2 (f : Str) (t : Ter) : Option (Ter × List Nat) → Option (Ter × List Nat)
  | some (u, 41 :: s) => some (.ap f [t, u], s)
  | _ => none
def decT : Nat → List Nat → Option (Ter × List Nat)
  | 0, _ => none
  | n + 1, 88 :: s => some (.var (.inr "X"), s)
  | n + 1, 89 :: s => some (.var (.inr "Y"), s)
  | n + 1, 90 :: s => some (.var (.inr "Z"), s)
  | n + 1, 97 :: s => some (.ap "a" [], s)
  | n + 1, 98 :: s => some (.ap "b" [], s)
  | n + 1, 114 :: s => some (.ap "r" [], s)
  | n + 1, 102 :: 40 :: s => arg1 "f" (decT n s)
  | n + 1, 112 :: 40 :: s => arg1 "p" (decT n s)
  | n + 1, 103 :: 40 :: s => match decT n s with
    | some (t, 44 :: s) => arg2 "g" t (decT n s)
    | _ => none
  | n + 1, 113 :: 40 :: s => match decT n s with
    | some (t, 44 :: s) => arg2 "q" t (decT n s)
    | _ => none
  | _, _ => none
theorem show1 (f : Str) (t : Ter) : cpL (showT (.ap f [t])) = cpL f ++ 40 :: (cpL (showT t) ++ [41]) := by
  show cpL (f ++ (("(" : Str) ++ (Txt.join "," [showT t] ++ (")" : Str)))) = _
  rw [cpL_app, cpL_app, cpL_app]
  rfl
theorem show2 (f : Str) (t u : Ter) : cpL (showT (.ap f [t, u])) = cpL f ++ 40 :: (cpL (showT t) ++ 44 :: (cpL (showT u) ++ [41])) := by
  show cpL (f ++ (("(" : Str) ++ (Txt.join "," [showT t, showT u] ++ (")" : Str)))) = _
  rw [cpL_app, cpL_app, cpL_app]
  have e : cpL (Txt.join "," [showT t, showT u]) = cpL (showT t) ++ 44 :: cpL (showT u) := by
    show ((showT t).cps ++ (("," : Str)).cps ++ (showT u).cps).toList = _
    rw [Array.toList_append, Array.toList_append, List.append_assoc]
    rfl
  rw [e]
  show cpL f ++ ([40] ++ ((cpL (showT t) ++ 44 :: cpL (showT u)) ++ [41])) = _
  simp
theorem dec_show : ∀ (n : Nat) (t : Ter), t.wf s23 (nam20 N3) → t.nest ≤ n → ∀ s, decT n (cpL (showT t) ++ s) = some (t, s) := by
  intro n
  induction n with
  | zero => exact fun t _ h => absurd (nest_pos t) (by omega)
  | succ n ih =>
    intro t hw hn s
    cases t with
    | var k =>
      obtain ⟨x, rfl, hx⟩ := hw
      rcases List.mem_cons.mp hx with rfl | hx
      · rfl
      rcases List.mem_cons.mp hx with rfl | hx
      · rfl
      rw [List.mem_singleton.mp hx]
      rfl
    | ap f as =>
      obtain ⟨hf, ha⟩ := hw
      have hn : Ter.nests as + 1 ≤ n + 1 := hn
      match as, hf, ha, hn with
      | [], hf, _, _ =>
        rcases hf with ⟨rfl, h⟩ | ⟨rfl, h⟩ | ⟨rfl, h⟩ | ⟨rfl, h⟩ | ⟨rfl, h⟩ | ⟨rfl, h⟩ | ⟨rfl, h⟩
        · rfl
        · rfl
        · rfl
        all_goals (cases h)
      | [a], hf, ha, hn =>
        have h1 := ih a ha.1 (by have : Ter.nests [a] = max a.nest 0 := rfl; omega)
        rcases hf with ⟨rfl, h⟩ | ⟨rfl, h⟩ | ⟨rfl, h⟩ | ⟨rfl, h⟩ | ⟨rfl, h⟩ | ⟨rfl, h⟩ | ⟨rfl, h⟩
        · cases h
        · cases h
        · cases h
        · rw [show1, List.append_assoc, List.cons_append, List.append_assoc]
          show arg1 "f" (decT n _) = _
          rw [h1]; rfl
        · rw [show1, List.append_assoc, List.cons_append, List.append_assoc]
          show arg1 "p" (decT n _) = _
          rw [h1]; rfl
        · cases h
        · cases h
      | [a, b], hf, ha, hn =>
        have hm : Ter.nests [a, b] = max a.nest (max b.nest 0) := rfl
        have h1 := ih a ha.1 (by omega)
        have h2 := ih b ha.2.1 (by omega)
        rcases hf with ⟨rfl, h⟩ | ⟨rfl, h⟩ | ⟨rfl, h⟩ | ⟨rfl, h⟩ | ⟨rfl, h⟩ | ⟨rfl, h⟩ | ⟨rfl, h⟩
        · cases h
        · cases h
        · cases h
        · cases h
        · cases h
        · rw [show2, List.append_assoc, List.cons_append, List.append_assoc, List.cons_append, List.append_assoc]
          show (match decT n (cpL (showT a) ++ _) with
            | some (t, 44 :: s) => arg2 "g" t (decT n s)
            | _ => none) = _
          rw [h1]
          show arg2 "g" a (decT n (cpL (showT b) ++ _)) = _
          rw [h2]; rfl
        · rw [show2, List.append_assoc, List.cons_append, List.append_assoc, List.cons_append, List.append_assoc]
          show (match decT n (cpL (showT a) ++ _) with
            | some (t, 44 :: s) => arg2 "q" t (decT n s)
            | _ => none) = _
          rw [h1]
          show arg2 "q" a (decT n (cpL (showT b) ++ _)) = _
          rw [h2]; rfl
      | a :: b :: c :: r, hf, _, _ =>
        exfalso
        have l : (a :: b :: c :: r).length = r.length + 3 := rfl
        rw [l] at hf
        rcases hf with ⟨_, h⟩ | ⟨_, h⟩ | ⟨_, h⟩ | ⟨_, h⟩ | ⟨_, h⟩ | ⟨_, h⟩ | ⟨_, h⟩ <;> omega
def decL (n : Nat) : List Nat → Option Lit
  | 126 :: s => match decT n s with
    | some (t, []) => some (false, t, trueT)
    | _ => none
  | s => match decT n s with
    | some (t, []) => some (true, t, trueT)
    | some (t, 32 :: 61 :: 32 :: s) => (match decT n s with
      | some (u, []) => some (true, t, u)
      | _ => none)
    | some (t, 32 :: 33 :: 61 :: 32 :: s) => (match decT n s with
      | some (u, []) => some (false, t, u)
      | _ => none)
    | _ => none
def litS (x : Lit) : Prop := x.2.1.wf s23 (nam20 N3) ∧ (x.2.2 = trueT ∨ x.2.2.wf s23 (nam20 N3)) ∧ x.2.1.nest ≤ 9 ∧ x.2.2.nest ≤ 9
theorem head_show {t : Ter} (h : t.wf s23 (nam20 N3)) : ∃ c r, cpL (showT t) = c :: r ∧ c ≠ 126 := by
  cases t with
  | var k =>
    obtain ⟨x, rfl, hx⟩ := h
    rcases List.mem_cons.mp hx with rfl | hx
    · exact ⟨88, [], rfl, by decide⟩
    rcases List.mem_cons.mp hx with rfl | hx
    · exact ⟨89, [], rfl, by decide⟩
    rw [List.mem_singleton.mp hx]
    exact ⟨90, [], rfl, by decide⟩
  | ap f as =>
    have hf : ∃ c, cpL f = [c] ∧ c ≠ 126 := by
      rcases h.1 with ⟨rfl, _⟩ | ⟨rfl, _⟩ | ⟨rfl, _⟩ | ⟨rfl, _⟩ | ⟨rfl, _⟩ | ⟨rfl, _⟩ | ⟨rfl, _⟩
      · exact ⟨97, rfl, by decide⟩
      · exact ⟨98, rfl, by decide⟩
      · exact ⟨114, rfl, by decide⟩
      · exact ⟨102, rfl, by decide⟩
      · exact ⟨112, rfl, by decide⟩
      · exact ⟨103, rfl, by decide⟩
      · exact ⟨113, rfl, by decide⟩
    obtain ⟨c, hc, h126⟩ := hf
    cases as with
    | nil => exact ⟨c, [], hc, h126⟩
    | cons a r =>
      refine ⟨c, cpL (("(" : Str) ++ (Txt.join "," (showTs (a :: r)) ++ (")" : Str))), ?_, h126⟩
      show cpL (f ++ _) = _
      rw [cpL_app, hc]; rfl
def shL (x : Lit) : Str := showL x.1 x.2.1 x.2.2
theorem dec_lit {x : Lit} (h : litS x) : decL 9 (cpL (shL x)) = some x := by
  obtain ⟨b, l, r⟩ := x
  obtain ⟨h1, h2, n1, n2⟩ := h
  have h1 : l.wf s23 (nam20 N3) := h1
  have n1 : l.nest ≤ 9 := n1
  have n2 : r.nest ≤ 9 := n2
  have d1 := dec_show 9 l h1 n1
  obtain ⟨c, q, ec, hc⟩ := head_show h1
  unfold shL showL
  by_cases ht : isTrueT r = true
  · have er : r = trueT := (isTrueT_iff r).mp ht
    subst er
    show decL 9 (cpL (if isTrueT trueT = true then _ else _)) = _
    rw [if_pos ht]
    cases b with
    | true =>
      show decL 9 (cpL (showT l)) = _
      have e := d1 []
      rw [List.append_nil] at e
      rw [ec] at e ⊢
      unfold decL
      split
      · rename_i h; injection h with h _; exact absurd h hc
      · rw [e]
    | false =>
      show decL 9 (cpL (("~" : Str) ++ showT l)) = _
      rw [cpL_app]
      have e := d1 []
      rw [List.append_nil] at e
      show (match decT 9 (cpL (showT l)) with
        | some (t, []) => some ((false, t, trueT) : Lit)
        | _ => none) = _
      rw [e]; rfl
  · show decL 9 (cpL (if isTrueT r = true then _ else _)) = _
    rw [if_neg ht]
    have h2 : r.wf s23 (nam20 N3) := by
      rcases h2 with rfl | h2
      · exact absurd (show isTrueT trueT = true by decide +kernel) ht
      · exact h2
    have d2 := dec_show 9 r h2 n2 []
    rw [List.append_nil] at d2
    cases b with
    | true =>
      show decL 9 (cpL (showT l ++ ((" = " : Str) ++ showT r))) = _
      rw [cpL_app, cpL_app]
      have e := d1 (cpL (" = " : Str) ++ cpL (showT r))
      rw [ec] at e ⊢
      rw [List.cons_append] at e ⊢
      unfold decL
      split
      · rename_i h; injection h with h _; exact absurd h hc
      · rw [e]
        show (match decT 9 (cpL (showT r)) with
          | some (u, []) => some ((true, l, u) : Lit)
          | _ => none) = _
        rw [d2]; rfl
    | false =>
      show decL 9 (cpL (showT l ++ ((" != " : Str) ++ showT r))) = _
      rw [cpL_app, cpL_app]
      have e := d1 (cpL (" != " : Str) ++ cpL (showT r))
      rw [ec] at e ⊢
      rw [List.cons_append] at e ⊢
      unfold decL
      split
      · rename_i h; injection h with h _; exact absurd h hc
      · rw [e]
        show (match decT 9 (cpL (showT r)) with
          | some (u, []) => some ((false, l, u) : Lit)
          | _ => none) = _
        rw [d2]; rfl
theorem shL_inj {x y : Lit} (hx : litS x) (hy : litS y) (h : shL x = shL y) : x = y := by
  have a := dec_lit hx
  have b := dec_lit hy
  rw [h, b] at a
  exact (Option.some.inj a).symm
end Own
set_option maxHeartbeats 2000000
namespace Own
open PySem PySem.Spec PyProof.Rows L2 HT
def addL (acc : List Lit) (x : Lit) : List Lit := if shL x ∈ acc.map shL then acc else acc ++ [x]
def ddL (c : List Lit) : List Lit := c.foldl addL []
theorem addL_keys {acc : List Lit} {x : Lit} {s : Str} : s ∈ (addL acc x).map shL ↔ s ∈ acc.map shL ∨ s = shL x := by
  unfold addL
  by_cases h : shL x ∈ acc.map shL
  · rw [if_pos h]
    exact ⟨.inl, fun z => z.elim id fun e => e ▸ h⟩
  · rw [if_neg h, List.map_append, List.mem_append]
    show _ ∨ s ∈ [shL x] ↔ _
    rw [List.mem_singleton]
theorem fold_keys : ∀ (c acc : List Lit) {s : Str}, s ∈ (c.foldl addL acc).map shL ↔ s ∈ acc.map shL ∨ s ∈ c.map shL
  | [], acc, s => ⟨.inl, fun z => z.elim id fun e => by cases e⟩
  | x :: r, acc, s => by
    show s ∈ (r.foldl addL (addL acc x)).map shL ↔ _ ∨ s ∈ shL x :: r.map shL
    rw [fold_keys r, addL_keys, List.mem_cons, or_assoc]
theorem fold_add (acc0 acc : List Lit) (x : Lit) : (addL acc0 x).foldl addL acc = addL (acc0.foldl addL acc) x := by
  by_cases h : shL x ∈ acc0.map shL
  · rw [show addL acc0 x = acc0 from if_pos h]
    exact (if_pos ((fold_keys acc0 acc).mpr (.inr h))).symm
  · rw [show addL acc0 x = acc0 ++ [x] from if_neg h, List.foldl_append]; rfl
theorem fold_fold : ∀ (b acc0 acc : List Lit), (b.foldl addL acc0).foldl addL acc = b.foldl addL (acc0.foldl addL acc)
  | [], _, _ => rfl
  | x :: r, acc0, acc => by
    show (r.foldl addL (addL acc0 x)).foldl addL acc = r.foldl addL (addL (acc0.foldl addL acc) x)
    rw [fold_fold r, fold_add]
theorem dd_app (a b : List Lit) : ddL (a ++ b) = (ddL b).foldl addL (ddL a) := by
  unfold ddL
  rw [List.foldl_append, fold_fold]
  rfl
theorem addL_sub {acc : List Lit} {x y : Lit} (h : y ∈ addL acc x) : y ∈ acc ∨ y = x := by
  unfold addL at h
  split at h
  · exact .inl h
  · rcases List.mem_append.mp h with h | h
    · exact .inl h
    · exact .inr (List.mem_singleton.mp h)
theorem fold_sub : ∀ (c acc : List Lit) {y : Lit}, y ∈ c.foldl addL acc → y ∈ acc ∨ y ∈ c
  | [], acc, y, h => .inl h
  | x :: r, acc, y, h => by
    rcases fold_sub r (addL acc x) h with h | h
    · rcases addL_sub h with h | rfl
      · exact .inl h
      · exact .inr List.mem_cons_self
    · exact .inr (List.mem_cons_of_mem _ h)
theorem dd_sub {c : List Lit} {y : Lit} (h : y ∈ ddL c) : y ∈ c := (fold_sub c [] h).elim (fun z => by cases z) id
theorem dd_mem {c : List Lit} (hc : ∀ x ∈ c, litS x) {y : Lit} : y ∈ ddL c ↔ y ∈ c := by
  refine ⟨dd_sub, fun h => ?_⟩
  have := (fold_keys c [] (s := shL y)).mpr (.inr (List.mem_map_of_mem h))
  obtain ⟨z, hz, e⟩ := List.mem_map.mp this
  rw [← shL_inj (hc z (dd_sub hz)) (hc y h) e]
  exact hz
theorem addL_len (acc : List Lit) (x : Lit) : (addL acc x).length ≤ acc.length + 1 := by
  unfold addL
  split
  · omega
  · rw [List.length_append, List.length_singleton]; omega
theorem fold_len : ∀ (c acc : List Lit), (c.foldl addL acc).length ≤ acc.length + c.length
  | [], acc => Nat.le_refl _
  | x :: r, acc => by
    have h1 := fold_len r (addL acc x)
    have h2 := addL_len acc x
    show (r.foldl addL (addL acc x)).length ≤ acc.length + (r.length + 1)
    omega
theorem dd_len (c : List Lit) : (ddL c).length ≤ c.length := by have := fold_len c []; rw [List.length_nil] at this; unfold ddL; omega
inductive DcR (H : Hp) : List (Key × V) → List Lit → Prop
  | nil : DcR H [] []
  | cons {e : Key × V} {kvs : List (Key × V)} {x : Lit} {l : List Lit} : e.1 = .inr (shL x) → LitAt H e.2 x → DcR H kvs l → DcR H (e :: kvs) (x :: l)
theorem DcR.mono {H H' : Hp} (m : Tups H H') {kvs : List (Key × V)} {l : List Lit} (h : DcR H kvs l) : DcR H' kvs l := by
  induction h with
  | nil => exact .nil
  | cons a b _ ih => exact .cons a (b.mono m) ih
theorem DcR.len {H : Hp} {kvs : List (Key × V)} {l : List Lit} (h : DcR H kvs l) : kvs.length = l.length := by
  induction h with
  | nil => rfl
  | cons _ _ _ ih => exact congrArg (· + 1) ih
theorem DcR.vals {H : Hp} {kvs : List (Key × V)} {l : List Lit} (h : DcR H kvs l) : LitAll H (kvs.map (·.2)) l := by
  induction h with
  | nil => exact .nil
  | cons _ b _ ih => exact .cons b ih
theorem DcR.any {H : Hp} {kvs : List (Key × V)} {l : List Lit} (h : DcR H kvs l) (x : Lit) : (kvs.any fun kv => decide (kv.1 = (.inr (shL x) : Key))) = true ↔ shL x ∈ l.map shL := by
  induction h with
  | nil => exact ⟨fun z => (by cases z), fun z => (by cases z)⟩
  | @cons e kvs y l a b r ih =>
    rw [List.any_cons, Bool.or_eq_true, ih, decide_eq_true_iff, a]
    show _ ↔ shL x ∈ shL y :: l.map shL
    rw [List.mem_cons]
    exact ⟨fun z => z.imp (fun e => (Sum.inr.inj e).symm) id, fun z => z.imp (fun e => congrArg Sum.inr e.symm) id⟩
theorem DcR.snoc {H : Hp} {kvs : List (Key × V)} {l : List Lit} (h : DcR H kvs l) {e : Key × V} {x : Lit} (a : e.1 = .inr (shL x)) (b : LitAt H e.2 x) : DcR H (kvs ++ [e]) (l ++ [x]) := by
  induction h with
  | nil => exact .cons a b .nil
  | cons a' b' _ ih => exact .cons a' b' ih
theorem DcR.over {H : Hp} {kvs : List (Key × V)} {l : List Lit} (h : DcR H kvs l) {v : V} {x : Lit} (hl : ∀ y ∈ l, litS y) (hx : litS x) (b : LitAt H v x) : DcR H (kvs.map fun kv => if kv.1 = (.inr (shL x) : Key) then (kv.1, v) else kv) l := by
  induction h with
  | nil => exact .nil
  | @cons e kvs y l a' b' _ ih =>
    refine .cons ?_ ?_ (ih fun z hz => hl z (List.mem_cons_of_mem _ hz))
    · show (if e.1 = (.inr (shL x) : Key) then (e.1, v) else e).1 = _
      by_cases c : e.1 = (.inr (shL x) : Key)
      · rw [if_pos c]; exact a'
      · rw [if_neg c]; exact a'
    · show LitAt H (if e.1 = (.inr (shL x) : Key) then (e.1, v) else e).2 y
      by_cases c : e.1 = (.inr (shL x) : Key)
      · rw [if_pos c]
        rw [a'] at c
        rw [shL_inj (hl y List.mem_cons_self) hx (Sum.inr.inj c)]
        exact b
      · rw [if_neg c]; exact b'
theorem DcR.put {H : Hp} {kvs : List (Key × V)} {l : List Lit} (h : DcR H kvs l) {v : V} {x : Lit} (hl : ∀ y ∈ l, litS y) (hx : litS x) (b : LitAt H v x) : DcR H (putK kvs (.inr (shL x)) v) (addL l x) := by
  unfold putK addL
  by_cases c : shL x ∈ l.map shL
  · rw [if_pos c, if_pos ((h.any x).mpr c)]
    exact h.over hl hx b
  · rw [if_neg c, if_neg fun z => c ((h.any x).mp z)]
    exact h.snoc rfl b
theorem DcR.merge {H : Hp} : ∀ {more : List (Key × V)} {m : List Lit} {kvs : List (Key × V)} {l : List Lit}, DcR H more m → (∀ y ∈ m, litS y) → DcR H kvs l → (∀ y ∈ l, litS y) → DcR H (mergeK kvs more) (m.foldl addL l)
  | _, _, kvs, l, .nil, _, h, _ => h
  | _, _, kvs, l, .cons (e := e) (kvs := more) (x := x) (l := m) a b r, hm, h, hl => by
    have hx := hm x List.mem_cons_self
    show DcR H (mergeK (putK kvs e.1 e.2) more) (m.foldl addL (addL l x))
    rw [a]
    refine DcR.merge r (fun y hy => hm y (List.mem_cons_of_mem _ hy)) (h.put hl hx b) fun y hy => ?_
    rcases addL_sub hy with hy | rfl
    · exact hl y hy
    · exact hx
inductive Mx where
  | tt (b : Bool)
  | lt (b : Bool) (l r : Ter)
  | an (f g : Mx)
  | or (f g : Mx)
def Mx.fm : Mx → Fm
  | .tt b => .tt b
  | .lt true l r => .eq l r
  | .lt false l r => .neg (.eq l r)
  | .an f g => .bin .and f.fm g.fm
  | .or f g => .bin .or f.fm g.fm
def Mx.ok : Mx → Prop
  | .tt _ => True
  | .lt _ l r => atom20 N3 l r ∧ l.nest ≤ 3 ∧ r.nest ≤ 3 ∧ l.size ≤ 20 ∧ r.size ≤ 20
  | .an f g => f.ok ∧ g.ok
  | .or f g => f.ok ∧ g.ok
def Mx.high : Mx → Nat
  | .tt _ => 1
  | .lt _ _ _ => 1
  | .an f g => max f.high g.high + 1
  | .or f g => max f.high g.high + 1
def Mx.raw : Mx → List (List Lit)
  | .tt true => []
  | .tt false => [[]]
  | .lt b l r => [[(b, l, r)]]
  | .an f g => f.raw ++ g.raw
  | .or f g => f.raw.flatMap fun a => g.raw.map fun b => a ++ b
def Mx.cnt : Mx → Nat
  | .tt true => 0
  | .tt false => 1
  | .lt _ _ _ => 1
  | .an f g => f.cnt + g.cnt
  | .or f g => f.cnt * g.cnt
def Mx.most : Mx → Nat
  | .tt true => 0
  | .tt false => 1
  | .lt _ _ _ => 1
  | .an f g => max (f.cnt + g.cnt) (max f.most g.most)
  | .or f g => max (f.cnt * g.cnt) (max f.most g.most)
def Mx.wid : Mx → Nat
  | .tt _ => 0
  | .lt _ _ _ => 1
  | .an f g => max f.wid g.wid
  | .or f g => f.wid + g.wid
theorem raw_or_len (A B : List (List Lit)) : (A.flatMap fun a => B.map fun b => a ++ b).length = A.length * B.length := by
  induction A with
  | nil => exact (Nat.zero_mul _).symm
  | cons a r ih =>
    rw [List.flatMap_cons, List.length_append, ih, List.length_map]
    show _ = (r.length + 1) * B.length
    rw [Nat.succ_mul]; omega
theorem raw_len : ∀ m : Mx, m.raw.length = m.cnt
  | .tt true => rfl
  | .tt false => rfl
  | .lt _ _ _ => rfl
  | .an f g => by show (f.raw ++ g.raw).length = f.cnt + g.cnt; rw [List.length_append, raw_len f, raw_len g]
  | .or f g => by show (f.raw.flatMap _).length = f.cnt * g.cnt; rw [raw_or_len, raw_len f, raw_len g]
theorem cnt_most : ∀ m : Mx, m.cnt ≤ m.most
  | .tt true => Nat.le_refl _
  | .tt false => Nat.le_refl _
  | .lt _ _ _ => Nat.le_refl _
  | .an f g => Nat.le_max_left _ _
  | .or f g => Nat.le_max_left _ _
theorem raw_mem {f g : Mx} {c : List Lit} (h : c ∈ (Mx.or f g).raw) : ∃ a ∈ f.raw, ∃ b ∈ g.raw, c = a ++ b := by
  obtain ⟨a, ha, h⟩ := List.mem_flatMap.mp h
  obtain ⟨b, hb, rfl⟩ := List.mem_map.mp h
  exact ⟨a, ha, b, hb, rfl⟩
theorem raw_wid : ∀ m : Mx, ∀ c ∈ m.raw, c.length ≤ m.wid
  | .tt true => fun c h => by cases h
  | .tt false => fun c h => by rw [List.mem_singleton.mp h]; exact Nat.le_refl _
  | .lt _ _ _ => fun c h => by rw [List.mem_singleton.mp h]; exact Nat.le_refl _
  | .an f g => fun c h => by
    rcases List.mem_append.mp h with h | h
    · exact Nat.le_trans (raw_wid f c h) (Nat.le_max_left _ _)
    · exact Nat.le_trans (raw_wid g c h) (Nat.le_max_right _ _)
  | .or f g => fun c h => by
    obtain ⟨a, ha, b, hb, rfl⟩ := raw_mem h
    have h1 := raw_wid f a ha
    have h2 := raw_wid g b hb
    rw [List.length_append]
    exact Nat.add_le_add h1 h2
theorem sym_s23 {t : Ter} (h : t.wf sym20 (nam20 N3)) : t.wf s23 (nam20 N3) := wf_mono (fun f n h => by
  rcases h with h | h | h | h
  · exact .inl h
  · exact .inr (.inl h)
  · exact .inr (.inr (.inr (.inl h)))
  · exact .inr (.inr (.inr (.inr (.inr (.inl h)))))) (fun k h => h) t h
theorem syms_s23 : ∀ {ts : List Ter}, Ter.wfs sym20 (nam20 N3) ts → Ter.wfs s23 (nam20 N3) ts
  | [], _ => trivial
  | a :: r, h => ⟨sym_s23 h.1, syms_s23 h.2⟩
theorem atom_litS {b : Bool} {l r : Ter} (h : atom20 N3 l r) (n1 : l.nest ≤ 3) (n2 : r.nest ≤ 3) : litS (b, l, r) := by
  rcases h with ⟨h1, h2⟩ | ⟨f, as, rfl, hp, hw, rfl⟩
  · exact ⟨sym_s23 h1, .inr (sym_s23 h2), by show l.nest ≤ 9; omega, by show r.nest ≤ 9; omega⟩
  · refine ⟨⟨?_, syms_s23 hw⟩, .inl rfl, by show (Ter.ap f as).nest ≤ 9; omega, by show 1 ≤ 9; decide⟩
    rcases hp with h | h | h
    · exact .inr (.inr (.inr (.inr (.inl h))))
    · exact .inr (.inr (.inr (.inr (.inr (.inr h)))))
    · exact .inr (.inr (.inl h))
def litM (x : Lit) : Prop := atom20 N3 x.2.1 x.2.2 ∧ x.2.1.nest ≤ 3 ∧ x.2.2.nest ≤ 3 ∧ x.2.1.size ≤ 20 ∧ x.2.2.size ≤ 20
theorem litM.S {x : Lit} (h : litM x) : litS x := atom_litS (b := x.1) h.1 h.2.1 h.2.2.1
theorem raw_ok : ∀ m : Mx, m.ok → ∀ c ∈ m.raw, ∀ x ∈ c, litM x
  | .tt true, _ => fun c h => by cases h
  | .tt false, _ => fun c h x hx => by rw [List.mem_singleton.mp h] at hx; cases hx
  | .lt _ _ _, ok => fun c h x hx => by
    rw [List.mem_singleton.mp h] at hx
    rw [List.mem_singleton.mp hx]
    exact ok
  | .an f g, ok => fun c h x hx => by
    rcases List.mem_append.mp h with h | h
    · exact raw_ok f ok.1 c h x hx
    · exact raw_ok g ok.2 c h x hx
  | .or f g, ok => fun c h x hx => by
    obtain ⟨a, ha, b, hb, rfl⟩ := raw_mem h
    rcases List.mem_append.mp hx with hx | hx
    · exact raw_ok f ok.1 a ha x hx
    · exact raw_ok g ok.2 b hb x hx
def Mx.dd (m : Mx) : List (List Lit) := m.raw.map ddL
theorem dd_or (f g : Mx) : (Mx.or f g).dd = f.dd.flatMap fun a => g.dd.map fun b => b.foldl addL a := by
  unfold Mx.dd
  show ((f.raw.flatMap fun a => g.raw.map fun b => a ++ b)).map ddL = _
  rw [List.map_flatMap, List.flatMap_map]
  congr 1
  funext a
  rw [List.map_map, List.map_map]
  refine List.map_congr_left fun b _ => ?_
  exact dd_app a b
def litTr (M : Mdl) (ρ : Str → Int) (x : Lit) : Bool := eqHolds M ρ x.2.1 x.2.2 == x.1
theorem truth_raw (M : Mdl) (ρ : Str → Int) : ∀ m : Mx, m.fm.truth M ρ = m.raw.all fun c => c.any (litTr M ρ)
  | .tt true => rfl
  | .tt false => rfl
  | .lt true l r => by
    show eqHolds M ρ l r = (((eqHolds M ρ l r == true) || false) && true)
    cases eqHolds M ρ l r <;> rfl
  | .lt false l r => by
    show (!eqHolds M ρ l r) = (((eqHolds M ρ l r == false) || false) && true)
    cases eqHolds M ρ l r <;> rfl
  | .an f g => by
    show (f.fm.truth M ρ && g.fm.truth M ρ) = (f.raw ++ g.raw).all _
    rw [truth_raw M ρ f, truth_raw M ρ g, List.all_append]
  | .or f g => by
    show (f.fm.truth M ρ || g.fm.truth M ρ) = (f.raw.flatMap _).all _
    rw [truth_raw M ρ f, truth_raw M ρ g, Bool.eq_iff_iff, Bool.or_eq_true, List.all_eq_true, List.all_eq_true, List.all_eq_true]
    constructor
    · intro h c hc
      obtain ⟨a, ha, b, hb, rfl⟩ := raw_mem hc
      rw [List.any_append, Bool.or_eq_true]
      exact h.imp (fun z => z a ha) fun z => z b hb
    · intro h
      by_cases hf : ∀ a ∈ f.raw, (a.any (litTr M ρ)) = true
      · exact .inl hf
      · refine .inr fun b hb => ?_
        refine Classical.byContradiction fun nb => hf fun a ha => ?_
        have := h (a ++ b) (List.mem_flatMap.mpr ⟨a, ha, List.mem_map.mpr ⟨b, hb, rfl⟩⟩)
        rw [List.any_append, Bool.or_eq_true] at this
        exact this.resolve_right nb
mutual
def Ter.valK (M : Mdl) (σ : Key → Int) : Ter → Int
  | .var k => σ k
  | .ap f as => M.fn f (Ter.valsK M σ as)
def Ter.valsK (M : Mdl) (σ : Key → Int) : List Ter → List Int
  | [] => []
  | a :: r => a.valK M σ :: Ter.valsK M σ r
end
theorem valsK_app (M : Mdl) (σ : Key → Int) : ∀ as bs : List Ter, Ter.valsK M σ (as ++ bs) = Ter.valsK M σ as ++ Ter.valsK M σ bs
  | [], _ => rfl
  | a :: r, bs => congrArg (a.valK M σ :: ·) (valsK_app M σ r bs)
theorem valsK_len (M : Mdl) (σ : Key → Int) : ∀ as : List Ter, (Ter.valsK M σ as).length = as.length
  | [] => rfl
  | a :: r => congrArg (· + 1) (valsK_len M σ r)
def eqHoldsK (M : Mdl) (σ : Key → Int) (l r : Ter) : Bool := if isTr r = true then (match l with | .ap f as => M.pr f (Ter.valsK M σ as) | .var _ => false) else decide (l.valK M σ = r.valK M σ)
def litTrK (M : Mdl) (σ : Key → Int) (x : Lit) : Bool := eqHoldsK M σ x.2.1 x.2.2 == x.1
mutual
theorem valK_num {M : Mdl} {ρ : Str → Int} {σ : Key → Int} {ks : List Key} (h : ∀ x, (.inr x : Key) ∈ ks → σ (nf ks (.inr x)) = ρ x) : ∀ t : Ter, t.wf sym20 (nam20 N3) → t.inK ks → (t.num ks).valK M σ = t.val M ρ
  | .var k, hw, hi => by
    obtain ⟨x, rfl, _⟩ := hw
    exact h x hi
  | .ap f as, hw, hi => congrArg (M.fn f) (valsK_num h as hw.2 hi.2)
theorem valsK_num {M : Mdl} {ρ : Str → Int} {σ : Key → Int} {ks : List Key} (h : ∀ x, (.inr x : Key) ∈ ks → σ (nf ks (.inr x)) = ρ x) : ∀ ts : List Ter, Ter.wfs sym20 (nam20 N3) ts → Ter.insK ks ts → Ter.valsK M σ (Ter.nums ks ts) = Ter.vals M ρ ts
  | [], _, _ => rfl
  | a :: r, hw, hi => by
    show (a.num ks).valK M σ :: Ter.valsK M σ (Ter.nums ks r) = a.val M ρ :: Ter.vals M ρ r
    rw [valK_num h a hw.1 hi.1, valsK_num h r hw.2 hi.2]
end
theorem isTr_num {ks : List Key} (t : Ter) : isTr (t.num ks) = isTr t := by
  cases t with
  | var k => rfl
  | ap f as => cases as <;> rfl
theorem litTrK_num {M : Mdl} {ρ : Str → Int} {σ : Key → Int} {ks : List Key} (h : ∀ x, (.inr x : Key) ∈ ks → σ (nf ks (.inr x)) = ρ x) {x : Lit} (hx : litM x) (hi : litIn ks x) : litTrK M σ (litNum ks x) = litTr M ρ x := by
  obtain ⟨b, l, r⟩ := x
  unfold litTrK litTr eqHoldsK eqHolds litNum
  show ((if isTr (r.num ks) = true then _ else _) == b) = ((if isTr r = true then _ else _) == b)
  rw [isTr_num]
  rcases hx.1 with ⟨h1, h2⟩ | ⟨f, as, e1, hp, hw, e2⟩
  · have h2 : r.wf sym20 (nam20 N3) := h2
    rw [if_neg (by rw [isTr_wf h2]; exact Bool.false_ne_true), if_neg (by rw [isTr_wf h2]; exact Bool.false_ne_true)]
    show (decide ((l.num ks).valK M σ = (r.num ks).valK M σ) == b) = _
    rw [valK_num h l h1 hi.1, valK_num h r h2 hi.2]
  · have e1 : l = .ap f as := e1
    have e2 : r = .ap "true" [] := e2
    subst e1
    subst e2
    rw [if_pos (show isTr (.ap "true" []) = true from rfl), if_pos (show isTr (.ap "true" []) = true from rfl)]
    show (M.pr f (Ter.valsK M σ (Ter.nums ks as)) == b) = (M.pr f (Ter.vals M ρ as) == b)
    rw [valsK_num h as hw hi.1.2]
mutual
theorem cnt_U {S : Str → Nat → Prop} {U : Key → Prop} {k : Key} : ∀ t : Ter, t.wf S U → t.cnt k ≠ 0 → U k
  | .var j, hw, h => by
    have h : (if j = k then (1 : Int) else 0) ≠ 0 := h
    by_cases c : j = k
    · rw [← c]; exact hw
    · rw [if_neg c] at h; exact absurd rfl h
  | .ap f as, hw, h => cnts_U as hw.2 h
theorem cnts_U {S : Str → Nat → Prop} {U : Key → Prop} {k : Key} : ∀ ts : List Ter, Ter.wfs S U ts → Ter.cnts k ts ≠ 0 → U k
  | [], _, h => absurd rfl h
  | a :: r, hw, h => by
    have h : a.cnt k + Ter.cnts k r ≠ 0 := h
    by_cases c : a.cnt k = 0
    · exact cnts_U r hw.2 (by omega)
    · exact cnt_U a hw.1 c
end
theorem clVars_N3 {c : List Lit} (h : ∀ x ∈ c, litM x) : ∀ k ∈ clVars c, nam20 N3 k := by
  have w : Ter.wfs anySym (nam20 N3) (sides c) := sides_wf fun x hx => by
    rcases (h x hx).1 with ⟨h1, h2⟩ | ⟨f, as, e1, _, hw, e2⟩
    · exact ⟨wf_mono (fun _ _ _ => trivial) (fun _ h => h) _ h1, wf_mono (fun _ _ _ => trivial) (fun _ h => h) _ h2⟩
    · rw [e1, e2]
      have : ∀ ts : List Ter, Ter.wfs sym20 (nam20 N3) ts → Ter.wfs anySym (nam20 N3) ts := fun ts => by
        induction ts with
        | nil => exact fun _ => trivial
        | cons a r ih => exact fun h => ⟨wf_mono (fun _ _ _ => trivial) (fun _ h => h) _ h.1, ih h.2⟩
      exact ⟨⟨trivial, this as hw⟩, trivial, trivial⟩
  intro k hk
  rcases (mem_intos (sides c) []).mp (show k ∈ Ter.intos [] (sides c) from hk) with z | z
  · cases z
  · exact cnts_U (sides c) w z
theorem mx_all {M : Mdl} (hs : 1 ≤ M.sz) {m : Mx} (ok : m.ok) : (∀ ρ : Str → Int, (∀ x ∈ N3, 0 ≤ ρ x ∧ ρ x < (M.sz : Int)) → m.fm.truth M ρ = true) ↔
    ∀ c ∈ m.raw, ∀ σ : Key → Int, (∀ k ∈ clVars (numC (ddL c)), 0 ≤ σ k ∧ σ k < (M.sz : Int)) → (numC (ddL c)).any (litTrK M σ) = true := by
  classical
  have okd : ∀ c ∈ m.raw, ∀ x ∈ ddL c, litM x := fun c hc x hx => raw_ok m ok c hc x (dd_sub hx)
  have okS : ∀ c ∈ m.raw, ∀ x ∈ c, litS x := fun c hc x hx => (raw_ok m ok c hc x hx).S
  constructor
  · intro h c hc σ hσ
    rw [clVars_num] at hσ
    obtain ⟨ks, hks⟩ : ∃ ks, ks = clVars (ddL c) := ⟨_, rfl⟩
    rw [← hks] at hσ
    have hσ' : ∀ k ∈ ks, 0 ≤ σ (nf ks k) ∧ σ (nf ks k) < (M.sz : Int) := fun k hk => hσ _ (List.mem_map_of_mem hk)
    obtain ⟨ρ, key, hr⟩ : ∃ ρ : Str → Int, (∀ x, (.inr x : Key) ∈ ks → σ (nf ks (.inr x)) = ρ x) ∧ ∀ x, 0 ≤ ρ x ∧ ρ x < (M.sz : Int) := by
      refine ⟨fun x => if (.inr x : Key) ∈ ks then σ (nf ks (.inr x)) else 0, fun x hx => (if_pos hx).symm, fun x => ?_⟩
      by_cases g : (.inr x : Key) ∈ ks
      · have e : (fun x => if (.inr x : Key) ∈ ks then σ (nf ks (.inr x)) else 0) x = σ (nf ks (.inr x)) := if_pos g
        rw [e]; exact hσ' _ g
      · have e : (fun x => if (.inr x : Key) ∈ ks then σ (nf ks (.inr x)) else 0) x = 0 := if_neg g
        rw [e]; omega
    have t := h ρ fun x _ => hr x
    rw [truth_raw, List.all_eq_true] at t
    obtain ⟨x, hx, tx⟩ := List.any_eq_true.mp (t c hc)
    have hxd := (dd_mem (okS c hc)).mpr hx
    refine List.any_eq_true.mpr ⟨litNum ks x, ?_, ?_⟩
    · unfold numC
      rw [← hks]
      exact List.mem_map_of_mem hxd
    · rw [← tx]
      exact litTrK_num key (okd c hc x hxd) (by rw [hks]; exact clVars_in _ x hxd)
  · intro h ρ hρ
    rw [truth_raw, List.all_eq_true]
    intro c hc
    obtain ⟨ks, hks⟩ : ∃ ks, ks = clVars (ddL c) := ⟨_, rfl⟩
    have hn := clVars_N3 (okd c hc)
    rw [← hks] at hn
    obtain ⟨σ, key⟩ : ∃ σ : Key → Int, ∀ x, (.inr x : Key) ∈ ks → σ (nf ks (.inr x)) = ρ x := ⟨fun k => match k with
        | .inl j => (match ks[j.toNat]? with
          | some (.inr x) => ρ x
          | _ => 0)
        | .inr _ => 0, fun x hx => by
      show (match ks[((idxK ks (.inr x) : Nat) : Int).toNat]? with
          | some (.inr x) => ρ x
          | _ => 0) = ρ x
      rw [Int.toNat_natCast, idxK_get hx]⟩
    have t := h c hc σ (fun k hk => by
      rw [clVars_num, ← hks] at hk
      obtain ⟨k0, hk0, rfl⟩ := List.mem_map.mp hk
      obtain ⟨x, rfl, hx⟩ := hn k0 hk0
      rw [key x hk0]
      exact hρ x hx)
    obtain ⟨y, hy, ty⟩ := List.any_eq_true.mp t
    unfold numC at hy
    obtain ⟨x, hx, rfl⟩ := List.mem_map.mp hy
    refine List.any_eq_true.mpr ⟨x, dd_sub hx, ?_⟩
    rw [← ty]
    refine (litTrK_num (ρ := ρ) ?_ (okd c hc x hx) (clVars_in _ x hx)).symm
    rw [← hks]
    exact key
end Own
set_option maxHeartbeats 2000000
namespace Own
open PySem PySem.Spec PyProof.Rows L2 HT
theorem run_fnSD {X : Cx} {CX : CXT} {k : Nat} {f : Addr} {fd : FuncData} {ps : List Str} {sp : Sp} {dvs : List V} {ds : List Value} {E : XK} {pins : List (Addr × Obj)} {σ : L2.St} {H : Hp} {s : Shared} {Q : VK} {us : List Value} {vs : List V}
    (F : FnOk X.prog X.w X.K X.mg X.base CX k f fd ps sp) (hr : Room k X.A) (hb : L2.Binds X.K fd ps ds) (hd : Vals dvs ds) (hx : PassesAt CX X σ E) (I : L2.Inv X pins σ H s) (r : Vals vs us) (h : sp (vs ++ dvs) H Q E) : wpAny (model X.prog X.w) X.A (call (Value.ref f) us) (EP X pins σ Q) X.xe s := by
  have r2 := r.append hd
  have hl : (us ++ ds).length = ps.length := by rw [← r2.length]; exact F.len _ H Q E h
  refine wpAny_call (codeAny_mono (F.run X.A X.stack s H { pos := us } (us ++ ds) (vs ++ dvs) Q E hr I.env0 (hb s us I.kIn hl) r2 h) fun r s' hq => ?_)
  cases r with
  | error e => exact hx pins H s e s' I hq
  | ok fl =>
    cases fl with
    | ret u => exact I.after hq
    | _ => exact hq.elim
def tCallSD : Sp → List V → (L2.St → XK) → TA → TE := fun sp dvs E t σ H Q => t σ H fun vs H1 => sp (vs ++ dvs) H1 Q (E σ)
theorem pe_callSD {X : Cx} {CX : CXT} {k : Nat} {f : Addr} {fd : FuncData} {ps : List Str} {sp : Sp} {dvs : List V} {ds : List Value} {E : L2.St → XK} {x : Str} {q pos : Pos} {e : Expr} {es : List Expr} {t : TA}
    (F : FnOk X.prog X.w X.K X.mg X.base CX k f fd ps sp) (hr : Room k X.A) (hg : Gl X x) (hm : X.mg x = some (.ref f)) (hk : PySem.W.keepIn X.K (.ref f) = true) (hb : L2.Binds X.K fd ps ds) (hd : Vals dvs ds) (hx : ∀ σ, PassesAt CX X σ (E σ))
    (ha : PA X (e :: es) t) (hdb : (x == ("__debug__" : Str)) = false := by decide) (he : starEach (e :: es) X.env = (false, eval e X.env) :: starEach es X.env := by rfl) (hpl : (backTo pos (starEach es X.env)).any (·.1) = false := by rfl) :
    PE X (.Call (.Name x q) (e :: es) [] pos) (tCallSD sp dvs E t) := by
  refine ⟨fun pins s σ H Q I h => ?_⟩
  refine wpAny_Call_Name_kw (ld_glob I hg hm ?_ hdb)
  refine PySem.W.callWith_K (h₀ := X.base) I.ok.mod.kin hk (thn (ha.run pos pins s σ H _ I h) fun us s1 ⟨vs, H1, I1, r, q⟩ => ⟨I1.kIn, ?_⟩) he hpl
  exact run_fnSD F hr hb hd (hx σ) I1 r q
theorem run_fnNS {X : Cx} {CX : CXT} {k n : Nat} {f : Addr} {fd : FuncData} {ps ks : List Str} {sp : Sp} {E : XK} {g : List Value → List Value → List Value} {gV : List V → List V → List V} {pins : List (Addr × Obj)} {σ : L2.St} {H : Hp} {s : Shared} {Q : VK} {us ws : List Value} {vs zs : List V}
    (F : FnOk X.prog X.w X.K X.mg X.base CX k f fd ps sp) (hr : Room k X.A) (hb : KBn X.K fd ps n ks g gV) (hx : PassesAt CX X σ E) (I : L2.Inv X pins σ H s) (r : Vals vs us) (rz : Vals zs ws) (l1 : vs.length = n) (l2 : zs.length = ks.length) (h : sp (gV vs zs) H Q E) : wpAny (model X.prog X.w) X.A (call (Value.ref f) us (ks.zip ws)) (EP X pins σ Q) X.xe s := by
  refine wpAny_call (codeAny_mono (F.run X.A X.stack s H { pos := us, kw := ks.zip ws } (g us ws) (gV vs zs) Q E hr I.env0 (hb.to s us ws I.kIn (by rw [← r.length]; exact l1) (by rw [← rz.length]; exact l2)) (hb.rel r rz) h) fun r s' hq => ?_)
  cases r with
  | error e => exact hx pins H s e s' I hq
  | ok fl =>
    cases fl with
    | ret u => exact I.after hq
    | _ => exact hq.elim
def tCallNS : Nat → Nat → Sp → (List V → List V → List V) → (L2.St → XK) → TA → TA → TE := fun n m sp gV E t tk σ H Q => t σ H fun vs H1 => tk σ H1 fun zs H2 => vs.length = n ∧ zs.length = m ∧ sp (gV vs zs) H2 Q (E σ)
theorem pe_callNS {X : Cx} {CX : CXT} {k n : Nat} {f : Addr} {fd : FuncData} {ps ks : List Str} {sp : Sp} {E : L2.St → XK} {x : Str} {p pos : Pos} {e : Expr} {es : List Expr} {kws : List Keyword} {t tk : TA} {g : List Value → List Value → List Value} {gV : List V → List V → List V}
    (F : FnOk X.prog X.w X.K X.mg X.base CX k f fd ps sp) (hr : Room k X.A) (hg : Gl X x) (hm : X.mg x = some (.ref f)) (hk : PySem.W.keepIn X.K (.ref f) = true) (hb : KBn X.K fd ps n ks g gV) (hx : ∀ σ, PassesAt CX X σ (E σ)) (ha : PA X (e :: es) t) (hkw : PK X kws tk)
    (hall : ((backToKw pos (keywordEach kws X.env)).all fun x => x.fst.isSome) = true := by rfl) (hks : List.filterMap (fun x => x.fst) (backToKw pos (keywordEach kws X.env)) = ks := by rfl) (hdb : (x == ("__debug__" : Str)) = false := by decide) (he : starEach (e :: es) X.env = (false, eval e X.env) :: starEach es X.env := by rfl)
    (hpl : (((backTo pos (starEach (e :: es) X.env)).any fun x => x.fst) || (backToKw pos (keywordEach kws X.env)).any fun x => x.fst.isNone) = false := by rfl) :
    PE X (.Call (.Name x p) (e :: es) kws pos) (tCallNS n ks.length sp gV E t tk) := by
  refine ⟨fun pins s σ H Q I h => ?_⟩
  refine wpAny_Call_Name_kw (ld_glob I hg hm ?_ hdb)
  refine PySem.W.callWith_KW (h₀ := X.base) I.ok.mod.kin hk hall (thn (ha.run pos pins s σ H _ I h) fun us s1 ⟨vs, H1, I1, r, q⟩ => thn (hkw.run pos pins s1 σ H1 _ I1 q) fun ws s2 ⟨zs, H2, I2, rz, l1, l2, q2⟩ => ⟨I2.kIn, ?_⟩) hpl he
  rw [hks]
  exact run_fnNS F hr hb (hx σ) I2 r rz l1 l2 q2
end Own
set_option maxHeartbeats 2000000
namespace Own
open PySem PySem.Spec PyProof.Rows L2 HT
mutual
def Ter.ky : Ter → List Key
  | .var k => [k]
  | .ap _ as => Ter.kys as
def Ter.kys : List Ter → List Key
  | [] => []
  | a :: r => a.ky ++ Ter.kys r
end
theorem kys_app : ∀ as bs : List Ter, Ter.kys (as ++ bs) = Ter.kys as ++ Ter.kys bs
  | [], _ => rfl
  | a :: r, bs => by
    show a.ky ++ Ter.kys (r ++ bs) = (a.ky ++ Ter.kys r) ++ Ter.kys bs
    rw [kys_app r bs, List.append_assoc]
mutual
theorem into_ky : ∀ (t : Ter) (acc : List Key), Ter.into acc t = t.ky.foldl addK acc
  | .var k, acc => rfl
  | .ap _ as, acc => intos_ky as acc
theorem intos_ky : ∀ (ts : List Ter) (acc : List Key), Ter.intos acc ts = (Ter.kys ts).foldl addK acc
  | [], _ => rfl
  | a :: r, acc => by
    show Ter.intos (Ter.into acc a) r = (a.ky ++ Ter.kys r).foldl addK acc
    rw [List.foldl_append, ← into_ky a, intos_ky r]
end
mutual
theorem ky_len : ∀ t : Ter, t.ky.length ≤ t.size
  | .var k => by show 1 ≤ _; exact Nat.le_refl 1
  | .ap _ as => by have := kys_len as; show (Ter.kys as).length ≤ Ter.sizes as + 1; omega
theorem kys_len : ∀ ts : List Ter, (Ter.kys ts).length ≤ Ter.sizes ts
  | [] => Nat.le_refl _
  | a :: r => by
    have h1 := ky_len a
    have h2 := kys_len r
    show (a.ky ++ Ter.kys r).length ≤ a.size + Ter.sizes r
    rw [List.length_append]; omega
end
theorem foldA_len : ∀ (ks acc : List Key), (ks.foldl addK acc).length ≤ acc.length + ks.length
  | [], acc => Nat.le_refl _
  | k :: r, acc => by
    have h1 := foldA_len r (addK acc k)
    have h2 : (addK acc k).length ≤ acc.length + 1 := by
      unfold addK
      split
      · omega
      · rw [List.length_append, List.length_singleton]; omega
    show (r.foldl addK (addK acc k)).length ≤ acc.length + (r.length + 1)
    omega
theorem sizes_take1 {as : List Ter} {i : Nat} {t : Ter} (h : as[i]? = some t) : Ter.sizes (as.take i) + t.size ≤ Ter.sizes as := by
  have li := (List.getElem?_eq_some_iff.mp h).1
  have e : as = as.take i ++ t :: as.drop (i + 1) := by
    conv => lhs; rw [← List.take_append_drop i as]
    rw [List.drop_eq_getElem_cons li, (List.getElem?_eq_some_iff.mp h).2]
  conv => rhs; rw [e]
  rw [Ter.sizes_app]
  show _ ≤ Ter.sizes (as.take i) + (t.size + Ter.sizes (as.drop (i + 1)))
  omega
end Own
set_option maxHeartbeats 2000000
namespace Own
open PySem PySem.Spec PyProof.Rows L2 HT
def asg (sz : Nat) : Nat → List (List Int)
  | 0 => [[]]
  | n + 1 => (asg sz n).flatMap fun r => (List.range sz).map fun i => r ++ [((i : Nat) : Int)]
theorem asg_mem {sz : Nat} : ∀ {n : Nat} {r : List Int}, r ∈ asg sz n ↔ r.length = n ∧ ∀ v ∈ r, 0 ≤ v ∧ v < (sz : Int)
  | 0, r => by
    show r ∈ [[]] ↔ _
    rw [List.mem_singleton]
    constructor
    · rintro rfl
      exact ⟨rfl, fun v h => by cases h⟩
    · rintro ⟨h, _⟩
      exact List.length_eq_zero_iff.mp h
  | n + 1, r => by
    show r ∈ (asg sz n).flatMap _ ↔ _
    rw [List.mem_flatMap]
    constructor
    · rintro ⟨q, hq, h⟩
      obtain ⟨i, hi, rfl⟩ := List.mem_map.mp h
      obtain ⟨h1, h2⟩ := asg_mem.mp hq
      have hi := List.mem_range.mp hi
      refine ⟨by rw [List.length_append, h1]; rfl, fun v hv => ?_⟩
      rcases List.mem_append.mp hv with hv | hv
      · exact h2 v hv
      · rw [List.mem_singleton.mp hv]; omega
    · rintro ⟨h1, h2⟩
      have hne : r ≠ [] := fun z => by rw [z] at h1; cases h1
      refine ⟨r.dropLast, asg_mem.mpr ⟨by rw [List.length_dropLast, h1]; rfl, fun v hv => h2 v (List.dropLast_subset r hv)⟩, ?_⟩
      have hl := h2 _ (List.getLast_mem hne)
      refine List.mem_map.mpr ⟨(r.getLast hne).toNat, List.mem_range.mpr (by omega), ?_⟩
      rw [show ((r.getLast hne).toNat : Int) = r.getLast hne by omega]
      exact List.dropLast_concat_getLast hne
theorem flat_len_le {α β : Type} {g : α → List β} {m : Nat} : ∀ (L : List α), (∀ a ∈ L, (g a).length ≤ m) → (L.flatMap g).length ≤ L.length * m
  | [], _ => Nat.zero_le _
  | a :: L, h => by
    have h1 := h a List.mem_cons_self
    have h2 := flat_len_le L fun x hx => h x (List.mem_cons_of_mem _ hx)
    rw [List.flatMap_cons, List.length_append]
    show _ ≤ (L.length + 1) * m
    rw [Nat.succ_mul]; omega
theorem asg_len {sz : Nat} (hs : sz ≤ 3) : ∀ n : Nat, (asg sz n).length ≤ 3 ^ n
  | 0 => Nat.le_refl _
  | n + 1 => by
    have h1 := asg_len hs n
    have h2 := flat_len_le (g := fun r : List Int => (List.range sz).map fun i => r ++ [((i : Nat) : Int)]) (m := 3) (asg sz n) fun a _ => by rw [List.length_map, List.length_range]; exact hs
    show ((asg sz n).flatMap _).length ≤ 3 ^ n * 3
    exact Nat.le_trans h2 (Nat.mul_le_mul_right _ h1)
theorem asg_27 {sz n : Nat} (hs : sz ≤ 3) (hn : n ≤ 3) : (asg sz n).length ≤ 27 := by
  refine Nat.le_trans (asg_len hs n) ?_
  have : n = 0 ∨ n = 1 ∨ n = 2 ∨ n = 3 := by omega
  rcases this with rfl | rfl | rfl | rfl <;> decide
def zipK : List Key → List Int → List (Key × V)
  | k :: ks, i :: r => (k, .int i) :: zipK ks r
  | _, _ => []
theorem zipK_snoc (k : Key) (i : Int) : ∀ {ks : List Key} {r : List Int}, r.length = ks.length → zipK (ks ++ [k]) (r ++ [i]) = zipK ks r ++ [(k, .int i)]
  | [], [], _ => rfl
  | a :: ks, b :: r, h => congrArg ((a, V.int b) :: ·) (zipK_snoc k i (Nat.succ.inj h))
  | [], _ :: _, h => by cases h
  | _ :: _, [], h => by cases h
def sgm (ks : List Key) (r : List Int) (k : Key) : Int := (r[idxK ks k]?).getD 0
theorem zipK_none {k : Key} : ∀ {ks : List Key} {r : List Int}, k ∉ ks → valV (zipK ks r) k = none
  | [], _, _ => rfl
  | _ :: _, [], _ => rfl
  | a :: ks, i :: r, h => by
    have h1 : a ≠ k := fun z => h (z ▸ List.mem_cons_self)
    have ih := zipK_none (r := r) fun z => h (List.mem_cons_of_mem a z)
    unfold valV at ih ⊢
    show Option.map _ (List.find? _ ((a, V.int i) :: zipK ks r)) = none
    rw [List.find?_cons_of_neg (by show ¬ decide (a = k) = true; rw [decide_eq_false h1]; exact Bool.false_ne_true)]
    exact ih
theorem zipK_val {k : Key} : ∀ {ks : List Key} {r : List Int}, r.length = ks.length → k ∈ ks → valV (zipK ks r) k = some (.int (sgm ks r k))
  | [], _, _, h => by cases h
  | _ :: _, [], h, _ => by cases h
  | a :: ks, i :: r, hl, h => by
    unfold valV
    show Option.map _ (List.find? _ ((a, V.int i) :: zipK ks r)) = _
    by_cases e : a = k
    · rw [List.find?_cons_of_pos (by show decide (a = k) = true; exact decide_eq_true e)]
      unfold sgm idxK
      rw [if_pos e]; rfl
    · rw [List.find?_cons_of_neg (by show ¬ decide (a = k) = true; rw [decide_eq_false e]; exact Bool.false_ne_true)]
      have hk : k ∈ ks := (List.mem_cons.mp h).resolve_left fun z => e z.symm
      have ih := zipK_val (Nat.succ.inj hl) hk
      unfold valV at ih
      rw [ih]
      unfold sgm
      show some (V.int ((r[idxK ks k]?).getD 0)) = some (V.int (((i :: r)[idxK (a :: ks) k]?).getD 0))
      rw [show idxK (a :: ks) k = idxK ks k + 1 from if_neg e]
      rfl
theorem sgm_map {ks : List Key} {σ : Key → Int} {k : Key} (h : k ∈ ks) : sgm ks (ks.map σ) k = σ k := by
  unfold sgm
  rw [List.getElem?_map, idxK_get h]
  rfl
theorem sgm_mem {sz : Nat} {ks : List Key} {r : List Int} (h : r ∈ asg sz ks.length) {k : Key} (hk : k ∈ ks) : 0 ≤ sgm ks r k ∧ sgm ks r k < (sz : Int) := by
  obtain ⟨h1, h2⟩ := asg_mem.mp h
  have l := idxK_lt hk
  unfold sgm
  rw [List.getElem?_eq_getElem (by omega)]
  exact h2 _ (List.getElem_mem _)
mutual
theorem valK_congr {M : Mdl} {σ τ : Key → Int} {ks : List Key} (h : ∀ k ∈ ks, σ k = τ k) : ∀ t : Ter, t.inK ks → t.valK M σ = t.valK M τ
  | .var k, hi => h k hi
  | .ap f as, hi => congrArg (M.fn f) (valsK_congr h as hi.2)
theorem valsK_congr {M : Mdl} {σ τ : Key → Int} {ks : List Key} (h : ∀ k ∈ ks, σ k = τ k) : ∀ ts : List Ter, Ter.insK ks ts → Ter.valsK M σ ts = Ter.valsK M τ ts
  | [], _ => rfl
  | a :: r, hi => by
    show a.valK M σ :: Ter.valsK M σ r = a.valK M τ :: Ter.valsK M τ r
    rw [valK_congr h a hi.1, valsK_congr h r hi.2]
end
theorem litTrK_congr {M : Mdl} {σ τ : Key → Int} {ks : List Key} (h : ∀ k ∈ ks, σ k = τ k) {x : Lit} (hi : litIn ks x) : litTrK M σ x = litTrK M τ x := by
  obtain ⟨b, l, r⟩ := x
  obtain ⟨h1, h2⟩ := hi
  have e2 : r.valK M σ = r.valK M τ := valK_congr h r h2
  cases l with
  | var k =>
    have e1 : (Ter.var k).valK M σ = (Ter.var k).valK M τ := valK_congr h _ h1
    show ((if isTr r = true then false else decide ((Ter.var k).valK M σ = r.valK M σ)) == b) = ((if isTr r = true then false else decide ((Ter.var k).valK M τ = r.valK M τ)) == b)
    rw [e1, e2]
  | ap f as =>
    have e1 : (Ter.ap f as).valK M σ = (Ter.ap f as).valK M τ := valK_congr h _ h1
    have e3 : Ter.valsK M σ as = Ter.valsK M τ as := valsK_congr h as h1.2
    show ((if isTr r = true then M.pr f (Ter.valsK M σ as) else decide ((Ter.ap f as).valK M σ = r.valK M σ)) == b) = ((if isTr r = true then M.pr f (Ter.valsK M τ as) else decide ((Ter.ap f as).valK M τ = r.valK M τ)) == b)
    rw [e1, e2, e3]
theorem holds_rows {M : Mdl} {c : List Lit} : (∀ σ : Key → Int, (∀ k ∈ clVars c, 0 ≤ σ k ∧ σ k < (M.sz : Int)) → c.any (litTrK M σ) = true) ↔ ∀ r ∈ asg M.sz (clVars c).length, c.any (litTrK M (sgm (clVars c) r)) = true := by
  constructor
  · intro h r hr
    exact h _ fun k hk => sgm_mem hr hk
  · intro h σ hσ
    have hr : (clVars c).map σ ∈ asg M.sz (clVars c).length := asg_mem.mpr ⟨List.length_map .., fun v hv => by
      obtain ⟨k, hk, rfl⟩ := List.mem_map.mp hv
      exact hσ k hk⟩
    obtain ⟨x, hx, tx⟩ := List.any_eq_true.mp (h _ hr)
    refine List.any_eq_true.mpr ⟨x, hx, ?_⟩
    rw [← tx]
    exact (litTrK_congr (fun k hk => sgm_map hk) (clVars_in c x hx)).symm
def Mx.lf : Mx → Nat
  | .tt _ => 1
  | .lt _ _ _ => 1
  | .an f g => f.lf + g.lf
  | .or f g => f.lf + g.lf
theorem lf_pos : ∀ m : Mx, 1 ≤ m.lf
  | .tt _ => Nat.le_refl _
  | .lt _ _ _ => Nat.le_refl _
  | .an f g => by have := lf_pos f; show 1 ≤ f.lf + g.lf; omega
  | .or f g => by have := lf_pos f; show 1 ≤ f.lf + g.lf; omega
theorem cnt_lf : ∀ m : Mx, m.cnt ≤ 2 ^ m.lf
  | .tt true => Nat.zero_le _
  | .tt false => by show 1 ≤ 2 ^ 1; decide
  | .lt _ _ _ => by show 1 ≤ 2 ^ 1; decide
  | .an f g => by
    have h1 := cnt_lf f
    have h2 := cnt_lf g
    have p1 := lf_pos f
    have p2 := lf_pos g
    show f.cnt + g.cnt ≤ 2 ^ (f.lf + g.lf)
    rw [Nat.pow_add]
    have q1 : 2 ≤ 2 ^ f.lf := by
      have := Nat.pow_le_pow_right (show 0 < 2 by decide) p1
      omega
    have q2 : 2 ≤ 2 ^ g.lf := by
      have := Nat.pow_le_pow_right (show 0 < 2 by decide) p2
      omega
    have e1 : 2 ^ f.lf * 2 ≤ 2 ^ f.lf * 2 ^ g.lf := Nat.mul_le_mul_left _ q2
    have e2 : 2 * 2 ^ g.lf ≤ 2 ^ f.lf * 2 ^ g.lf := Nat.mul_le_mul_right _ q1
    omega
  | .or f g => by
    have h1 := cnt_lf f
    have h2 := cnt_lf g
    show f.cnt * g.cnt ≤ 2 ^ (f.lf + g.lf)
    rw [Nat.pow_add]
    exact Nat.mul_le_mul h1 h2
end Own
set_option maxHeartbeats 2000000
namespace Own
open PySem PySem.Spec PyProof.Rows L2 HT
def K3 : List Key := [.inr "X", .inr "Y", .inr "Z"]
def rhoR (r : List Int) (x : Str) : Int := sgm K3 r (.inr x)
mutual
theorem val_congr {M : Mdl} {ρ τ : Str → Int} (h : ∀ x ∈ N3, ρ x = τ x) : ∀ t : Ter, t.wf sym20 (nam20 N3) → t.val M ρ = t.val M τ
  | .var k, hw => by
    obtain ⟨x, rfl, hx⟩ := hw
    exact h x hx
  | .ap f as, hw => congrArg (M.fn f) (vals_congr h as hw.2)
theorem vals_congr {M : Mdl} {ρ τ : Str → Int} (h : ∀ x ∈ N3, ρ x = τ x) : ∀ ts : List Ter, Ter.wfs sym20 (nam20 N3) ts → Ter.vals M ρ ts = Ter.vals M τ ts
  | [], _ => rfl
  | a :: r, hw => by
    show a.val M ρ :: Ter.vals M ρ r = a.val M τ :: Ter.vals M τ r
    rw [val_congr h a hw.1, vals_congr h r hw.2]
end
theorem litTr_congr {M : Mdl} {ρ τ : Str → Int} (h : ∀ x ∈ N3, ρ x = τ x) {x : Lit} (hx : litM x) : litTr M ρ x = litTr M τ x := by
  obtain ⟨b, l, r⟩ := x
  unfold litTr eqHolds
  rcases hx.1 with ⟨h1, h2⟩ | ⟨f, as, e1, hp, hw, e2⟩
  · have h1 : l.wf sym20 (nam20 N3) := h1
    have h2 : r.wf sym20 (nam20 N3) := h2
    show ((if isTr r = true then _ else decide (l.val M ρ = r.val M ρ)) == b) = ((if isTr r = true then _ else decide (l.val M τ = r.val M τ)) == b)
    rw [if_neg (by rw [isTr_wf h2]; exact Bool.false_ne_true), if_neg (by rw [isTr_wf h2]; exact Bool.false_ne_true), val_congr h l h1, val_congr h r h2]
  · have e1 : l = .ap f as := e1
    have e2 : r = .ap "true" [] := e2
    subst e1
    subst e2
    rw [if_pos (show isTr (.ap "true" []) = true from rfl), if_pos (show isTr (.ap "true" []) = true from rfl)]
    show (M.pr f (Ter.vals M ρ as) == b) = (M.pr f (Ter.vals M τ as) == b)
    rw [vals_congr h as hw]
theorem any_ext {α : Type} {f g : α → Bool} : ∀ {c : List α}, (∀ x ∈ c, f x = g x) → c.any f = c.any g
  | [], _ => rfl
  | a :: r, h => by rw [List.any_cons, List.any_cons, h a List.mem_cons_self, any_ext fun x hx => h x (List.mem_cons_of_mem _ hx)]
theorem all_ext {α : Type} {f g : α → Bool} : ∀ {c : List α}, (∀ x ∈ c, f x = g x) → c.all f = c.all g
  | [], _ => rfl
  | a :: r, h => by rw [List.all_cons, List.all_cons, h a List.mem_cons_self, all_ext fun x hx => h x (List.mem_cons_of_mem _ hx)]
theorem truth_congr {M : Mdl} {ρ τ : Str → Int} (h : ∀ x ∈ N3, ρ x = τ x) {m : Mx} (ok : m.ok) : m.fm.truth M ρ = m.fm.truth M τ := by
  rw [truth_raw, truth_raw]
  exact all_ext fun c hc => any_ext fun x hx => litTr_congr h (raw_ok m ok c hc x hx)
theorem K3_mem {x : Str} (h : x ∈ N3) : (.inr x : Key) ∈ K3 := by
  rcases List.mem_cons.mp h with rfl | h
  · exact List.mem_cons_self
  rcases List.mem_cons.mp h with rfl | h
  · exact List.mem_cons_of_mem _ List.mem_cons_self
  rw [List.mem_singleton.mp h]
  exact List.mem_cons_of_mem _ (List.mem_cons_of_mem _ List.mem_cons_self)
theorem mx_rows {M : Mdl} (hs : 1 ≤ M.sz) {m : Mx} (ok : m.ok) : (∀ r ∈ asg M.sz 3, m.fm.truth M (rhoR r) = true) ↔ ∀ c ∈ m.raw, ∀ r ∈ asg M.sz (clVars (numC (ddL c))).length, (numC (ddL c)).any (litTrK M (sgm (clVars (numC (ddL c))) r)) = true := by
  have e1 : (∀ r ∈ asg M.sz 3, m.fm.truth M (rhoR r) = true) ↔ (∀ ρ : Str → Int, (∀ x ∈ N3, 0 ≤ ρ x ∧ ρ x < (M.sz : Int)) → m.fm.truth M ρ = true) := by
    constructor
    · intro h ρ hρ
      have hr : (K3.map fun k => match k with | .inr x => ρ x | .inl _ => 0) ∈ asg M.sz 3 := asg_mem.mpr ⟨rfl, fun v hv => by
        obtain ⟨k, hk, rfl⟩ := List.mem_map.mp hv
        rcases List.mem_cons.mp hk with rfl | hk
        · exact hρ _ List.mem_cons_self
        rcases List.mem_cons.mp hk with rfl | hk
        · exact hρ _ (List.mem_cons_of_mem _ List.mem_cons_self)
        rw [List.mem_singleton.mp hk]
        exact hρ _ (List.mem_cons_of_mem _ (List.mem_cons_of_mem _ List.mem_cons_self))⟩
      have t := h _ hr
      rw [← t]
      refine truth_congr (fun x hx => ?_) ok
      exact (sgm_map (σ := fun k => match k with | .inr x => ρ x | .inl _ => 0) (K3_mem hx)).symm
    · intro h r hr
      exact h _ fun x hx => sgm_mem (ks := K3) hr (K3_mem hx)
  rw [e1, mx_all hs ok]
  exact ⟨fun h c hc => holds_rows.mp (h c hc), fun h c hc => holds_rows.mpr (h c hc)⟩
theorem mx_fm : ∀ m : Mx, m.ok → fmS N3 m.fm ∧ m.fm.qs okS ∧ m.fm.high ≤ m.high + 1
  | .tt _, _ => ⟨trivial, trivial, by show 1 ≤ 2; decide⟩
  | .lt true l r, h => ⟨h, trivial, by show 1 ≤ 2; decide⟩
  | .lt false l r, h => ⟨h, trivial, by show 2 ≤ 2; decide⟩
  | .an f g, h => by
    obtain ⟨a1, a2, a3⟩ := mx_fm f h.1
    obtain ⟨b1, b2, b3⟩ := mx_fm g h.2
    exact ⟨⟨a1, b1⟩, ⟨a2, b2⟩, by show max f.fm.high g.fm.high + 1 ≤ max f.high g.high + 1 + 1; omega⟩
  | .or f g, h => by
    obtain ⟨a1, a2, a3⟩ := mx_fm f h.1
    obtain ⟨b1, b2, b3⟩ := mx_fm g h.2
    exact ⟨⟨a1, b1⟩, ⟨a2, b2⟩, by show max f.fm.high g.fm.high + 1 ≤ max f.high g.high + 1 + 1; omega⟩
theorem clv_len {c : List Lit} (h : ∀ x ∈ c, litM x) : (clVars (numC c)).length ≤ 3 := by
  rw [clVars_num, List.length_map]
  refine nd_len K3 _ (clVars_nd c) fun k hk => ?_
  obtain ⟨x, rfl, hx⟩ := clVars_N3 h k hk
  exact K3_mem hx
end Own
namespace K23
open PySem PySem.Spec PyProof.Rows L2 Own HT
def topS (i : Nat) : Stmt := PySem.Challenge.pw_elenchus_k23_clauses_of_a_matrix.main.body.getD i (.Pass ⟨0, 0, 0, 0⟩)
abbrev s_decimal : Stmt := topS 3
abbrev s_TooLarge : Stmt := topS 6
abbrev s_is_variable : Stmt := topS 9
abbrev s_variables_of : Stmt := topS 10
abbrev s_replace_variables : Stmt := topS 11
abbrev s_numbered : Stmt := topS 13
abbrev s_clause_variables : Stmt := topS 14
abbrev s_show_term : Stmt := topS 16
abbrev s_show_literal : Stmt := topS 17
abbrev s_matrix_clauses : Stmt := topS 19
abbrev s_clause_count : Stmt := topS 20
abbrev s_literal_dicts : Stmt := topS 21
abbrev s__law_mix : Stmt := topS 23
abbrev s__law_numbers : Stmt := topS 24
abbrev s__law_take : Stmt := topS 25
abbrev s__law_term : Stmt := topS 26
abbrev s__law_atom : Stmt := topS 27
abbrev s__law_tables : Stmt := topS 28
abbrev s__law_value : Stmt := topS 29
abbrev s__law_equal_holds : Stmt := topS 30
abbrev s__law_with : Stmt := topS 31
abbrev s__law_truth : Stmt := topS 32
abbrev s__law_clause_names : Stmt := topS 33
abbrev s__law_names : Stmt := topS 34
abbrev s__law_assignments : Stmt := topS 35
abbrev s__law_clause_holds : Stmt := topS 36
abbrev s__law_matrix : Stmt := topS 37
abbrev s__law_counts : Stmt := topS 38
abbrev s__law_raw : Stmt := topS 39
abbrev s__law_numbered : Stmt := topS 40
abbrev s__law_due : Stmt := topS 41
abbrev s__law_asked : Stmt := topS 42
abbrev s__law_wide : Stmt := topS 43
abbrev s_law : Stmt := topS 44
structure Df (K : PySem.W.Frag) (mg : Str → Option Value) (x : Str) (st : Stmt) (ps : List Str) (f : Addr) (fd : FuncData) : Prop where
  F : Fun K x x st f fd
  b : Binds K fd ps []
  m : mg x = some (.ref f)
section
variable {P : Program} {w : World} {K : PySem.W.Frag} {mg : Str → Option Value} {base : Heap}
def spIsVar : Sp := fun vs H Q _ => ∃ v t, vs = [v] ∧ TmAt H v t ∧ Q (.bl t.isVar) H
theorem sc_is_variable : FnScope ["term"] ["term"] (defScope s_is_variable) := ⟨rfl, rfl, rfl, by decide +kernel, rfl, by decide +kernel, by decide +kernel⟩
theorem ok_is_variable {f : Addr} {fd : FuncData} (D : Df K mg "is_variable" s_is_variable ["term"] f fd) (mi : mg "isinstance" = none) (mt : mg "tuple" = none) : FnOk P w K mg base CX0 1 f fd ["term"] spIsVar := by
  refine D.F.ok sc_is_variable (fun vs H Q E h => ?_) (fun cdv A outer s H vs Q E hr h => ?_)
  · obtain ⟨v, t, rfl, _⟩ := h; rfl
  obtain ⟨v, t, rfl, ht, q⟩ := h
  refine ⟨_, pss_one (ps_ret (pe_not (pe_callB call_isiTer (by rfl) mi (by decide +kernel) (pa_cons (pv 0) (pa_cons (pe_bltn (v := .ty "tuple") (by rfl) mt (by decide +kernel) rfl) pa_nil))))), ?_⟩
  refine ⟨v, rfl, v, t, rfl, ht, _, rfl, ?_⟩
  rw [Bool.not_not]
  exact q
end
section
variable {P : Program} {w : World} {K : PySem.W.Frag} {mg : Str → Option Value} {base : Heap}
def PIECE10 : Int := 10000000000000000000000000000000000000000000000000000000000000000
def spDec : Sp := fun vs H Q _ => ∃ n : Int, vs = [.int n] ∧ 0 ≤ n ∧ n < PIECE10 ∧ Q (.str (toString n)) H
theorem sc_decimal : FnScope ["number", "powers", "power", "pieces", "divisor", "half", "piece"] ["number"] (defScope s_decimal) := ⟨rfl, rfl, rfl, by decide +kernel, rfl, by decide +kernel, by decide +kernel⟩
theorem log_small {n : Int} (h0 : 0 ≤ n) (h1 : n < PIECE10) : n.natAbs.log2 < 1920 := by
  have h2 : n.natAbs < 2 ^ 1919 := Nat.lt_of_lt_of_le (show n.natAbs < 10000000000000000000000000000000000000000000000000000000000000000 by unfold PIECE10 at h1; omega) (by decide +kernel)
  by_cases z : n.natAbs = 0
  · rw [z]; decide
  · have := (Nat.log2_lt z).mpr h2; omega
theorem ok_decimal {f : Addr} {fd : FuncData} {tP : Tok} (D : Df K mg "decimal" s_decimal ["number"] f fd) (gP : mg "PIECE" = some (.int PIECE10 tP)) (m_str : mg "str" = none) : FnOk P w K mg base CX0 1 f fd ["number"] spDec := by
  refine D.F.ok sc_decimal (fun vs H Q E h => ?_) (fun cdv A outer s H vs Q E hr h => ?_)
  · obtain ⟨x, rfl, _⟩ := h; rfl
  obtain ⟨n, rfl, h0, h1, q⟩ := h
  refine ⟨_, (pss_cons (ps_if (pt_cmpR op_lt (pv 0) pe_int (nomark _)) (pss_one ps_no) pss_nil) (pss_cons (ps_if (pt_cmpR op_lt (pv 0) (pe_glob (v := .int PIECE10) (by rfl) gP ⟨_, rfl⟩) (nomark _)) (pss_one (ps_ret (pe_callTy call_str_int (by rfl) m_str (by decide +kernel) (pa_cons (pv 0) pa_nil)))) pss_nil) (pss_cons ps_no (pss_cons ps_no (pss_cons ps_no (pss_cons ps_no (pss_cons ps_no (pss_one ps_no)))))))), ?_⟩
  refine ⟨_, rfl, _, _, rfl, rfl, _, rfl, iteNo (decide_eq_false (by omega)) ?_⟩
  refine ⟨_, rfl, _, _, rfl, rfl, _, rfl, ?_⟩
  rw [decide_eq_true h1]
  exact iteT ⟨_, rfl, _, rfl, log_small h0 h1, q⟩
end
structure Tops5 (K : PySem.W.Frag) (w : World) (mg : Str → Option Value) : Prop where
  tru : ∃ a, mg "TRUE" = some (.ref a) ∧ ∀ H, SqT K H a [.str "true"]
section
variable {P : Program} {w : World} {K : PySem.W.Frag} {mg : Str → Option Value} {base : Heap}
def spShowT (n : Nat) : Sp := fun vs H Q _ => ∃ v t, vs = [v] ∧ TmAt H v t ∧ t.nest < n ∧ t.wf shSym shKey ∧ t.size ≤ 2000 ∧ ∀ H', Same H H' → Q (.str (showT t)) H'
theorem sc_show_term : FnScope ["term", "inner", "argument"] ["term"] (defScope s_show_term) := ⟨rfl, rfl, rfl, by decide +kernel, rfl, by decide +kernel, by decide +kernel⟩
theorem zL {n : Nat} (h : n ≤ 1000000) : n ≤ sizeLine := Nat.le_trans h (by decide)
theorem ok_show_term1 {f fV : Addr} {fd fdV : FuncData} (D : Df K mg "show_term" s_show_term ["term"] f fd) (DV : Df K mg "is_variable" s_is_variable ["term"] fV fdV) (GV : FnOk P w K mg base CX0 1 fV fdV ["term"] spIsVar) (mi : mg "isinstance" = none) (ms : mg "str" = none) (ml : mg "len" = none) {fDc : Addr} {fdDc : FuncData} (DDc : Df K mg "decimal" s_decimal ["number"] fDc fdDc) (GDc : FnOk P w K mg base CX0 1 fDc fdDc ["number"] spDec) {n : Nat}
    (G : FnOk P w K mg base CX0 (n + 1) f fd ["term"] (spShowT n)) : FnOk P w K mg base CX0 (n + 1 + 1) f fd ["term"] (spShowT (n + 1)) := by
  refine D.F.ok sc_show_term (fun vs H Q E h => ?_) (fun cdv A outer s H vs Q E hr h => ?_)
  · obtain ⟨v, t, rfl, _⟩ := h; rfl
  obtain ⟨v, t, rfl, ht, hn, hw, hz, q⟩ := h
  have nd := sc_show_term.nd
  have r1 : Room 1 _ := hr.mono (by omega)
  refine ⟨_, pss_cons (ps_if (pt_val (pe_callB call_isiDat (by rfl) mi (by decide +kernel) (pa_cons (pv 0) (pa_cons (pe_bltn (v := .ty "str") (by rfl) ms (by decide +kernel) rfl) pa_nil)))) (pss_one (ps_ret (pv 0))) pss_nil)
    (pss_cons (ps_if (pt_val (pe_call GV r1 (by rfl) DV.m DV.F.kp DV.b .nil pass0 (pa_cons (pv 0) pa_nil))) (pss_one (ps_ret (pe_joined (.cons pe_str (.cons (pe_fmt (pe_call GDc r1 (by rfl) DDc.m DDc.F.kp DDc.b .nil pass0 (pa_cons (pv 0) pa_nil))) .nil))))) pss_nil)
    (pss_cons (ps_if (pt_cmpR op_eq (pe_callB call_len_seq (by rfl) ml PySem.boot_len (pa_cons (pv 0) pa_nil)) pe_int (nomark _)) (pss_one (ps_ret (pe_ix ix_tup (pv 0) pe_int (fun _ _ => rfl)))) pss_nil)
    (pss_cons (ps_set (i := 1) nd rfl (.inl rfl) (pe_join pe_str (pe_lc (own := [("argument", 2)]) (g := gName 2) (tt := tYes) (te := tCall (spShowT n) [] E0 (tCons (tVar 2) tNil)) rfl nd (pi_tup (pe_slice sl_1 (pv 0) (po_some pe_int) po_none)) (blkOk_by (N := ["term", "inner", "argument"]) (sc := defScope s_show_term) (by decide +kernel))
        (fun _ _ _ _ _ => pg_name (i := 2) nd rfl (Or.inl rfl)) (fun _ _ _ _ _ => pts_nil) (fun _ _ _ _ _ => pe_call G hr (by rfl) D.m D.F.kp D.b .nil pass0 (pa_cons (pv 2) pa_nil)))))
    (pss_one (ps_ret (pe_joined (.cons (pe_fmt (pe_ix ix_tup (pv 0) pe_int (fun _ _ => rfl))) (.cons pe_str (.cons (pe_fmt (pv 1)) (.cons pe_str .nil)))))))))), ?_⟩
  refine ⟨_, rfl, v, t.dat, "str", _, rfl, dp_ter t v ht, k_str _, _, rfl, ?_⟩
  have hlen := showT_len t hw
  cases ht with
  | str x => exact iteT ⟨_, rfl, q H (Same.refl _)⟩
  | int i =>
    refine iteF ⟨_, rfl, _, _, rfl, .int i, _, rfl, iteT ?_⟩
    have ni := num_len i hw.1 hw.2
    have z1 := len1.1
    refine ⟨"X", rfl, zL (by rw [sEmp]; omega), ?_⟩
    refine ⟨_, rfl, i, rfl, hw.1, by have := hw.2; unfold PIECE10; omega, .inl ⟨_, rfl, zL (by omega), _, rfl, zL (by rw [sEmp, app_len]; omega), ?_⟩⟩
    rw [sEmp]
    exact q H (Same.refl _)
  | @ap a g xs as e hs =>
    have T : SqT K H a (.str g :: xs) := .inl (.inl e)
    have ls := hs.len
    refine iteF ⟨_, rfl, _, _, rfl, .ap e hs, _, rfl, iteF ?_⟩
    refine ⟨_, rfl, a, _, rfl, .inr T, rfl, _, rfl, ite2 (fun c => ?_) (fun c => ?_)⟩
    · have c : ((xs.length + 1 : Nat) : Int) = 1 := V.int.inj (of_decide_eq_true c)
      have x0 : as = [] := List.eq_nil_of_length_eq_zero (by omega)
      subst x0
      exact ⟨_, rfl, a, _, 0, _, rfl, rfl, T, head_at, q H (Same.refl _)⟩
    · have c : ¬ ((xs.length + 1 : Nat) : Int) = 1 := fun z => c (decide_eq_true (congrArg V.int z))
      obtain ⟨b, r, rfl⟩ : ∃ b r, as = b :: r := by
        cases as with
        | nil => exact absurd (by rw [ls]; rfl) c
        | cons b r => exact ⟨b, r, rfl⟩
      have hn : Ter.nests (b :: r) + 1 < n + 1 := hn
      have hz : Ter.sizes (b :: r) + 1 ≤ 2000 := hz
      have hg : g.length ≤ 40 := hw.1.1
      have hws : Ter.wfs shSym shKey (b :: r) := hw.2
      have hsl := showTs_len2 _ hws
      have la := Ter.sizes_len (b :: r)
      refine ⟨⟨_, rfl⟩, .ref a, rfl, 1, rfl, a, _, xs, rfl, rfl, rfl, T, fun p1 np1 => ?_⟩
      have s1 := same_new np1 (.tup xs)
      refine ⟨p1, rfl, ⟨xs, .inl (.inl upd_same)⟩, fun d nd' => ?_⟩
      have nd0 : H d = none := s1.free nd'
      refine walk_t (xs := xs) (fun i H2 => Same (upd H p1 (.tup xs)) H2 ∧ H2 d = some (.lst ((showTs ((b :: r).take i)).map V.str))) ⟨same_new nd' _, upd_same⟩ (fun i H2 _ h => .inl (.inl (h.1 _ _ upd_same))) (fun i x H2 hx h => ?_) (fun H2 h => ?_)
      · obtain ⟨sm, ed⟩ := h
        obtain ⟨t1, et, hx1⟩ := hs.get hx
        have n1 := nest_le_of et
        have m1 := size_le_of et
        have li := (List.getElem?_eq_some_iff.mp et).1
        refine ⟨rfl, ?_⟩
        refine ⟨_, rfl, x, t1, rfl, TmAt.mono (s1.trans sm).tups _ _ hx1, by omega, wfs_get hws et, by omega, fun H3 s3 => ?_⟩
        have ed3 := s3 _ _ ed
        refine ⟨_, ed3, Nat.lt_of_le_of_lt (show _ ≤ 100000 by rw [List.length_map, showTs_len, List.length_take]; omega) (by decide), But.same nd' (sm.trans s3) But.upd, ?_⟩
        rw [upd_same, List.take_add_one, et, showTs_app, List.map_append]
        rfl
      · obtain ⟨sm, ed⟩ := h
        rw [ls, List.take_length] at ed
        have q3 := join_len "," (showTs (b :: r))
        rw [showTs_len, len1.2.2.2] at q3
        refine ⟨_, d, _, rfl, rfl, .inl (.inl (.inl ed)), ?_, ?_⟩
        · have z4 := len1.2.2.2
          have e3 : ((showTs (b :: r)).map (·.length)).sum = tlen (showTs (b :: r)) := rfl
          rw [e3, showTs_len]
          show tlen (showTs (b :: r)) + (b :: r).length * ("," : Str).length ≤ 16777216
          rw [z4]
          omega
        · have sa := s1.trans sm
          have T2 : SqT K H2 a (.str g :: xs) := .inl (.inl (sa _ _ e))
          have z2 := len1.2.1
          have z3 := len1.2.2.1
          refine ⟨_, rfl, a, _, 0, _, rfl, rfl, T2, head_at, .inl ⟨g, rfl, zL (by omega), _, rfl, zL (by rw [sEmp]; omega), ?_⟩⟩
          refine ⟨_, rfl, zL (by rw [sEmp, app_len]; omega), ?_⟩
          refine ⟨_, rfl, .inl ⟨_, rfl, zL (by omega), _, rfl, zL (by rw [sEmp, app_len, app_len]; omega), ?_⟩⟩
          refine ⟨_, rfl, zL (by rw [sEmp, app_len, app_len, app_len]; omega), ?_⟩
          have e5 : (((Str.empty ++ g) ++ ("(" : Str)) ++ Txt.join "," (showTs (b :: r))) ++ (")" : Str) = showT (.ap g (b :: r)) := by
            rw [sEmp, sApp, sApp]
            rfl
          rw [e5]
          exact q H2 sa
theorem ok_show_term {f fV : Addr} {fd fdV : FuncData} (D : Df K mg "show_term" s_show_term ["term"] f fd) (DV : Df K mg "is_variable" s_is_variable ["term"] fV fdV) (GV : FnOk P w K mg base CX0 1 fV fdV ["term"] spIsVar) (mi : mg "isinstance" = none) (ms : mg "str" = none) (ml : mg "len" = none) {fDc : Addr} {fdDc : FuncData} (DDc : Df K mg "decimal" s_decimal ["number"] fDc fdDc) (GDc : FnOk P w K mg base CX0 1 fDc fdDc ["number"] spDec) : ∀ n : Nat, FnOk P w K mg base CX0 (n + 1) f fd ["term"] (spShowT n)
  | 0 => by
    have no : ∀ vs H Q E, ¬ spShowT 0 vs H Q E := fun vs H Q E h => by
      obtain ⟨v, t, _, _, hn, _⟩ := h
      omega
    exact ⟨fun vs H Q E h => absurd h (no vs H Q E), fun A outer s H args us vs Q E _ _ _ _ h => absurd h (no vs H Q E)⟩
  | n + 1 => ok_show_term1 D DV GV mi ms ml DDc GDc (ok_show_term D DV GV mi ms ml DDc GDc n)
def spShowL : Sp := fun vs H Q _ => ∃ (v : V) (x : Lit), vs = [v] ∧ LitAt H v x ∧ x.ok ∧ ∀ H', Same H H' → Q (.str (showL x.1 x.2.1 x.2.2)) H'
theorem sc_show_literal : FnScope ["literal", "positive", "left", "right", "sign"] ["literal"] (defScope s_show_literal) := ⟨rfl, rfl, rfl, by decide +kernel, rfl, by decide +kernel, by decide +kernel⟩
theorem ok_show_literal {f fT : Addr} {fd fdT : FuncData} (D : Df K mg "show_literal" s_show_literal ["literal"] f fd) (DT : Df K mg "show_term" s_show_term ["term"] fT fdT) (GT : FnOk P w K mg base CX0 62 fT fdT ["term"] (spShowT 61)) (T5 : Tops5 K w mg) : FnOk P w K mg base CX0 63 f fd ["literal"] spShowL := by
  refine D.F.ok sc_show_literal (fun vs H Q E h => ?_) (fun cdv A outer s H vs Q E hr h => ?_)
  · obtain ⟨v, x, rfl, _⟩ := h; rfl
  obtain ⟨v, x, rfl, hx, ok, q⟩ := h
  obtain ⟨aT, mT, tT⟩ := T5.tru
  have nd := sc_show_literal.nd
  refine ⟨_, pss_cons (ps_asg (pv 0) (pg_tup rfl (pgs_cons (pg_name (i := 1) nd rfl (.inl rfl)) (pgs_cons (pg_name (i := 2) nd rfl (.inl rfl)) (pgs_cons (pg_name (i := 3) nd rfl (.inl rfl)) pgs_nil)))))
    (pss_cons (ps_if (pt_cmpR (op_eqD hr.units) (pv 3) (pe_glob (v := .ref aT) (by rfl) mT rfl) (nomark _)) (pss_one (ps_ret (pe_ifExp (pt_val (pv 1)) (pe_call GT hr (by rfl) DT.m DT.F.kp DT.b .nil pass0 (pa_cons (pv 2) pa_nil)) (pe_joined (.cons pe_str (.cons (pe_fmt (pe_call GT hr (by rfl) DT.m DT.F.kp DT.b .nil pass0 (pa_cons (pv 2) pa_nil))) .nil)))))) pss_nil)
    (pss_cons (ps_set (i := 4) nd rfl (.inl rfl) (pe_ifExp (pt_val (pv 1)) pe_str pe_str))
    (pss_one (ps_ret (pe_joined (.cons (pe_fmt (pe_call GT hr (by rfl) DT.m DT.F.kp DT.b .nil pass0 (pa_cons (pv 2) pa_nil))) (.cons pe_str (.cons (pe_fmt (pv 4)) (.cons pe_str (.cons (pe_fmt (pe_call GT hr (by rfl) DT.m DT.F.kp DT.b .nil pass0 (pa_cons (pv 3) pa_nil))) .nil)))))))))), ?_⟩
  cases hx with
  | @mk p b x y l r e hl hrr =>
  obtain ⟨wl, wr, nl, nr, sl, sr⟩ := ok
  have wl : l.wf shSym shKey := wl
  have wr : r.wf shSym shKey := wr
  have nl : l.nest ≤ 60 := nl
  have nr : r.nest ≤ 60 := nr
  have sl : l.size ≤ 1000 := sl
  have sr : r.size ≤ 1000 := sr
  have ql := showT_len l wl
  have qr := showT_len r wr
  have z1 : ("~" : Str).length = 1 := by decide +kernel
  have z2 : (" " : Str).length = 1 := by decide +kernel
  refine ⟨.ref p, rfl, p, _, rfl, .inl (.inl e), rfl, _, _, rfl, _, _, rfl, _, _, rfl, rfl, ?_⟩
  refine ⟨_, rfl, r.dat, trueT.dat, dp_ter r y hrr, .tup (tT H) (.cons (.str "true") .nil), shaped_ter (sh_fine r wr) (by omega), by decide +kernel, _, rfl, ?_⟩
  have fin : Q (.str (showL b l r)) H → Q (.str (showL b l r)) H := id
  unfold showL at q
  cases hT : isTrueT r with
  | true =>
    have hT' : PyData.eqv r.dat trueT.dat = true := hT
    rw [hT']
    refine iteT ?_
    refine ⟨_, rfl, b, rfl, ?_⟩
    have q : ∀ H', Same H H' → Q (.str (if isTrueT r = true then (if b = true then showT l else ("~" : Str) ++ showT l) else showT l ++ ((if b = true then (" = " : Str) else (" != " : Str)) ++ showT r))) H' := q
    rw [hT] at q
    cases b with
    | true => exact iteT ⟨_, rfl, x, l, rfl, hl, by omega, wl, by omega, fun H1 s1 => q H1 s1⟩
    | false =>
      refine iteF ⟨_, rfl, zL (by rw [sEmp]; omega), _, rfl, x, l, rfl, hl, by omega, wl, by omega, fun H1 s1 => .inl ⟨_, rfl, zL (by omega), _, rfl, zL (by rw [sEmp, app_len]; omega), ?_⟩⟩
      have q1 := q H1 s1
      rw [sEmp]
      exact q1
  | false =>
    have hT' : PyData.eqv r.dat trueT.dat = false := hT
    rw [hT']
    refine iteF ?_
    refine ⟨_, rfl, b, rfl, ?_⟩
    have q : ∀ H', Same H H' → Q (.str (if isTrueT r = true then (if b = true then showT l else ("~" : Str) ++ showT l) else showT l ++ ((if b = true then (" = " : Str) else (" != " : Str)) ++ showT r))) H' := q
    rw [hT] at q
    have e3 : (" " : Str) ++ (("=" : Str) ++ (" " : Str)) = (" = " : Str) := by decide +kernel
    have e4 : (" " : Str) ++ (("!=" : Str) ++ (" " : Str)) = (" != " : Str) := by decide +kernel
    have z3 : ("=" : Str).length = 1 := by decide +kernel
    have z4 : ("!=" : Str).length = 2 := by decide +kernel
    cases b with
    | true =>
      refine iteT ?_
      refine ⟨_, rfl, x, l, rfl, hl, by omega, wl, by omega, fun H1 s1 => .inl ⟨_, rfl, zL (by omega), _, rfl, zL (by rw [sEmp]; omega), _, rfl, zL (by rw [sEmp, app_len]; omega), _, rfl, .inl ⟨_, rfl, zL (by omega), _, rfl, zL (by rw [sEmp, app_len, app_len]; omega), _, rfl, zL (by rw [sEmp, app_len, app_len, app_len]; omega), ?_⟩⟩⟩
      refine ⟨_, rfl, y, r, rfl, TmAt.mono s1.tups _ _ hrr, by omega, wr, by omega, fun H2 s2 => .inl ⟨_, rfl, zL (by omega), _, rfl, zL (by rw [sEmp, app_len, app_len, app_len, app_len]; omega), ?_⟩⟩
      have q1 := q H2 (s1.trans s2)
      rw [sEmp, sApp, sApp, sApp, ← sApp ("=" : Str), ← sApp (" " : Str), e3]
      exact q1
    | false =>
      refine iteF ?_
      refine ⟨_, rfl, x, l, rfl, hl, by omega, wl, by omega, fun H1 s1 => .inl ⟨_, rfl, zL (by omega), _, rfl, zL (by rw [sEmp]; omega), _, rfl, zL (by rw [sEmp, app_len]; omega), _, rfl, .inl ⟨_, rfl, zL (by omega), _, rfl, zL (by rw [sEmp, app_len, app_len]; omega), _, rfl, zL (by rw [sEmp, app_len, app_len, app_len]; omega), ?_⟩⟩⟩
      refine ⟨_, rfl, y, r, rfl, TmAt.mono s1.tups _ _ hrr, by omega, wr, by omega, fun H2 s2 => .inl ⟨_, rfl, zL (by omega), _, rfl, zL (by rw [sEmp, app_len, app_len, app_len, app_len]; omega), ?_⟩⟩
      have q1 := q H2 (s1.trans s2)
      rw [sEmp, sApp, sApp, sApp, ← sApp ("!=" : Str), ← sApp (" " : Str), e4]
      exact q1
end
end K23
namespace K23
open PySem PySem.Spec PyProof.Rows L2 Own HT
section
variable {P : Program} {w : World} {K : PySem.W.Frag} {mg : Str → Option Value} {base : Heap}
def spMix : Sp := fun vs H Q _ => ∃ n k : Int, vs = [.int n, .int k] ∧ ∀ r : Int, Q (.int r) H
theorem sc_mix : FnScope ["number", "k"] ["number", "k"] (defScope s__law_mix) := ⟨rfl, rfl, rfl, by decide +kernel, rfl, by decide +kernel, by decide +kernel⟩
theorem ok_mix {f : Addr} {fd : FuncData} (D : Df K mg "_law_mix" s__law_mix ["number", "k"] f fd) (m_int : mg "int" = none) : FnOk P w K mg base CX0 1 f fd ["number", "k"] spMix := by
  refine D.F.ok sc_mix (fun vs H Q E h => ?_) (fun cdv A outer s H vs Q E hr h => ?_)
  · obtain ⟨n, k, rfl, _⟩ := h; rfl
  obtain ⟨n, k, rfl, q⟩ := h
  refine ⟨_, (pss_one (ps_ret (pe_op op_mod (pe_op op_mul (pe_op op_mod (pe_callTy call_int1 (by rfl) m_int (by decide +kernel) (pa_cons (pe_op op_mul (pe_op op_add (pe_op op_add (pe_op op_mod (pe_callTy call_int1 (by rfl) m_int (by decide +kernel) (pa_cons (pv 0) pa_nil)) pe_int) (pe_op op_mul pe_int (pv 1))) pe_int) pe_int) pa_nil)) pe_int) pe_int) pe_int))), ?_⟩
  refine ⟨_, rfl, .inl ⟨n, rfl, _, _, rfl, rfl, (by show (0 : Int) < 1000003; decide), ?_⟩⟩
  refine ⟨_, rfl, _, _, rfl, rfl, .inl ⟨by decide, by decide⟩, _, _, rfl, rfl, _, _, rfl, rfl, _, _, rfl, rfl, .inr ⟨by decide, by decide⟩, .inl ⟨_, rfl, _, _, rfl, rfl, (by show (0 : Int) < 1000033; decide), ?_⟩⟩
  exact ⟨_, _, rfl, rfl, .inr ⟨by decide, by decide⟩, _, _, rfl, rfl, (by show (0 : Int) < 998244353; decide), q _⟩
def spNums (K : PySem.W.Frag) : Sp := fun vs H Q _ => ∃ (a : Addr) (ns : List Int) (n : Nat), vs = [.ref a, .int n] ∧ SqL K H a (ns.map V.int) ∧ ns.length ≤ 63 ∧ n ≤ 1000 ∧ ∀ (d : Addr) (H' : Hp), Same H H' → H d = none → Ints H' d → Q (.ref d) H'
theorem sc_nums : FnScope ["script", "count", "row", "base", "cell", "rest", "k"] ["script", "count"] (defScope s__law_numbers) := ⟨rfl, rfl, rfl, by decide +kernel, rfl, by decide +kernel, by decide +kernel⟩
theorem ok_nums {f fM : Addr} {fd dM : FuncData} (D : Df K mg "_law_numbers" s__law_numbers ["script", "count"] f fd) (DM : Df K mg "_law_mix" s__law_mix ["number", "k"] fM dM) (GM : FnOk P w K mg base CX0 1 fM dM ["number", "k"] spMix) (m_range : mg "range" = none) (m_int : mg "int" = none) :
    FnOk P w K mg base CX0 2 f fd ["script", "count"] (spNums K) := by
  refine D.F.ok sc_nums (fun vs H Q E h => ?_) (fun cdv A outer s H vs Q E hr h => ?_)
  · obtain ⟨a, ns, n, rfl, _⟩ := h; rfl
  obtain ⟨a, ns, n, rfl, ha, hn, hn2, q⟩ := h
  have nd := sc_nums.nd
  refine ⟨_, (pss_cons (ps_set (i := 2) nd rfl (.inl rfl) (pe_lst pa_nil))
    (pss_cons (ps_set (i := 3) nd rfl (.inl rfl) pe_int)
    (pss_cons (ps_for PassesOwn.never rfl (pi_list (pe_slice sl_list (pv 0) po_none (po_some pe_int))) (pg_name (i := 4) nd rfl (.inl rfl))
      (pss_cons (ps_set (i := 3) nd rfl (.inl rfl) (pe_op op_add (pv 3) (pv 4)))
    (pss_one (ps_if (pt_cmpR op_ge (pv 4) pe_int (nomark _))
      (pss_cons (ps_set (i := 5) nd rfl (.inl rfl) (pv 4))
    (pss_one (ps_for PassesOwn.never rfl (pi_range1 (by rfl) m_range (pa_cons pe_int pa_nil)) (pg_name (i := 6) nd rfl (.inl rfl))
      (pss_cons (ps_expr (pe_bm PySem.F.plainAttrs_list PySem.F.slot_list_append PySem.F.type_list_append mt_append (pv 2) (pa_cons (pe_op op_mod (pe_callTy call_int1 (by rfl) m_int (by decide +kernel) (pa_cons (pv 5) pa_nil)) pe_int) pa_nil)))
    (pss_cons (ps_set (i := 5) nd rfl (.inl rfl) (pe_op op_fdiv (pv 5) pe_int))
    (pss_one (ps_if (pt_cmpR op_eq (pv 5) pe_int (nomark _))
      (pss_one ps_break)
      pss_nil)))))))
      (pss_one (ps_expr (pe_bm PySem.F.plainAttrs_list PySem.F.slot_list_append PySem.F.type_list_append mt_append (pv 2) (pa_cons (pe_call GM hr (by rfl) DM.m DM.F.kp DM.b .nil pass0 (pa_cons (pe_call GM hr (by rfl) DM.m DM.F.kp DM.b .nil pass0 (pa_cons (pv 4) (pa_cons pe_int pa_nil))) (pa_cons pe_int pa_nil))) pa_nil))))))))
    (pss_cons (ps_for PassesOwn.never rfl (pi_range1 (by rfl) m_range (pa_cons (pv 1) pa_nil)) (pg_name (i := 6) nd rfl (.inl rfl))
      (pss_one (ps_expr (pe_bm PySem.F.plainAttrs_list PySem.F.slot_list_append PySem.F.type_list_append mt_append (pv 2) (pa_cons (pe_call GM hr (by rfl) DM.m DM.F.kp DM.b .nil pass0 (pa_cons (pe_call GM hr (by rfl) DM.m DM.F.kp DM.b .nil pass0 (pa_cons (pe_op op_add (pv 3) (pe_op op_mul pe_int (pv 6))) (pa_cons (pe_op op_add pe_int (pv 6)) pa_nil))) (pa_cons pe_int pa_nil))) pa_nil)))))
    (pss_cons (ps_expr (pe_bm0 PySem.F.plainAttrs_list PySem.F.slot_list_reverse PySem.F.type_list_reverse mt_reverse (pv 2)))
    (pss_one (ps_ret (pv 2)))))))), ?_⟩
  refine ⟨Nat.zero_le _, fun d nd' => ?_⟩
  have s1 := same_new nd' (.lst [])
  have ed1 : upd H d (.lst []) d = some (.lst ([].map V.int)) := upd_same
  have ha1 : SqL K (upd H d (.lst [])) a (ns.map V.int) := by
    rcases ha with (ha | ⟨o, ha⟩) | ha
    · exact .inl (.inl (s1 _ _ ha))
    · exact .inl (.inr ⟨o, s1 _ _ ha⟩)
    · exact .inr ha
  refine ⟨.ref a, rfl, 63, rfl, a, _, rfl, ha1, fun p np => ?_⟩
  have s2 := s1.trans (same_new np (.lst (cutV (ns.map V.int) none (some 63))))
  have npd : p ≠ d := fun z => by rw [z, upd_same] at np; cases np
  obtain ⟨cs, ecs, lcs⟩ : ∃ cs : List Int, cutV (ns.map V.int) none (some 63) = cs.map V.int ∧ cs.length ≤ 63 := by
    by_cases h : 63 ≤ ns.length
    · refine ⟨ns.take 63, ?_, by rw [List.length_take]; omega⟩
      have := cut_take (ns.map V.int) 63 (by rw [List.length_map]; exact h)
      rw [List.map_take]
      exact this
    · have e : ns.length = 63 ∨ ns.length < 63 := by omega
      refine ⟨ns, ?_, hn⟩
      unfold cutV
      rw [show HT.sIx (ns.map V.int).length (ns.map V.int).length (some 63) = min 63 (ns.map V.int).length from HT.sIx_nat .., HT.sIx_none, List.length_map, Nat.min_eq_right (by omega)]
      exact List.take_of_length_le (by rw [List.length_drop, List.length_map]; omega)
  rw [ecs] at s2 ⊢
  have nH : H p = none := s1.free np
  refine ⟨p, rfl, ⟨_, .inl (.inl upd_same)⟩, for_list (xs := cs.map V.int) (fun i σ H2 => ∃ ms b y4 y5 y6, σ = [some (.ref a), some (.int n), some (.ref d), some (.int b), y4, y5, y6] ∧ Same H H2 ∧ H2 p = some (.lst (cs.map V.int)) ∧ H2 d = some (.lst (ms.map V.int)) ∧ ms.length ≤ 60 * i)
    ⟨[], 0, none, none, none, rfl, s2, upd_same, by rw [upd_ne npd.symm]; exact ed1, Nat.zero_le _⟩ (fun i σ H2 _ h => ?_) (fun i x σ H2 hx h => ?_) (fun σ H2 h => ?_)⟩
  · obtain ⟨_, _, _, _, _, _, _, e, _⟩ := h
    exact .inl (.inl e)
  · obtain ⟨ms, b, y4, y5, y6, rfl, sm, ep, ed, lm⟩ := h
    rw [List.getElem?_map] at hx
    obtain ⟨c, ec, rfl⟩ : ∃ c, cs[i]? = some c ∧ x = V.int c := by
      cases z : cs[i]? with
      | none => rw [z] at hx; cases hx
      | some n => rw [z] at hx; exact ⟨n, rfl, (Option.some.inj hx).symm⟩
    have li : i < cs.length := (List.getElem?_eq_some_iff.mp ec).1
    refine ⟨_, rfl, _, rfl, _, _, rfl, rfl, ?_⟩
    refine ⟨_, rfl, _, _, rfl, rfl, _, rfl, ite2 (fun _ => ?_) (fun _ => ?_)⟩
    · refine ⟨_, rfl, ?_⟩
      refine ⟨_, rfl, by decide, by decide, for_range (lo := 0) (n := 60) (fun j σ H3 => ∃ ms r y6, σ = [some (.ref a), some (.int n), some (.ref d), some (.int (b + c)), some (.int c), some (.int r), y6] ∧ Same H H3 ∧ H3 p = some (.lst (cs.map V.int)) ∧ H3 d = some (.lst (ms.map V.int)) ∧ ms.length ≤ 60 * i + j)
        ⟨ms, c, y6, rfl, sm, ep, ed, lm⟩ (fun j σ H3 hj h => ?_) (fun σ H3 h => ?_)⟩
      · obtain ⟨ms, r, y6, rfl, sm, ep, ed, lm⟩ := h
        have hj : j < 60 := hj
        refine ⟨.ref d, rfl, tyl ed, _, rfl, .inl ⟨_, rfl, _, _, rfl, rfl, (by show (0 : Int) < 840; decide), d, _, _, rfl, rfl, ed, small6' (by rw [List.length_map]; omega), ?_⟩⟩
        have e2 : upd H3 d (.lst (ms.map V.int ++ [V.int (r % 840)])) d = some (.lst ((ms ++ [r % 840]).map V.int)) := by rw [upd_same, List.map_append]; rfl
        have st : ∀ y6 : Option V, ∃ (ms' : List Int) (r' : Int) (y6' : Option V), [some (V.ref a), some (.int n), some (.ref d), some (.int (b + c)), some (.int c), some (.int (r / 840)), y6] = [some (V.ref a), some (.int n), some (.ref d), some (.int (b + c)), some (.int c), some (.int r'), y6'] ∧ Same H (upd H3 d (.lst (ms.map V.int ++ [V.int (r % 840)]))) ∧ upd H3 d (.lst (ms.map V.int ++ [V.int (r % 840)])) p = some (.lst (cs.map V.int)) ∧ upd H3 d (.lst (ms.map V.int ++ [V.int (r % 840)])) d = some (.lst (ms'.map V.int)) ∧ ms'.length ≤ 60 * i + (j + 1) := fun y6 =>
          ⟨ms ++ [r % 840], _, y6, rfl, same_fresh sm nd', by rw [upd_ne npd]; exact ep, e2, by rw [List.length_append, List.length_singleton]; omega⟩
        refine ⟨_, rfl, _, _, rfl, rfl, ⟨by decide, by decide⟩, ?_⟩
        refine ⟨_, rfl, rfl, _, rfl, ite2 (fun _ => ?_) (fun _ => st _)⟩
        obtain ⟨ms', r', y6', e, g1, g2, g3, g4⟩ := st (some (.int (0 + (j : Int))))
        exact ⟨ms', _, _, _, _, rfl, g1, g2, g3, by omega⟩
      · obtain ⟨ms, r, y6, rfl, sm, ep, ed, lm⟩ := h
        exact ⟨ms, _, _, _, _, rfl, sm, ep, ed, by omega⟩
    · refine ⟨.ref d, rfl, tyl ed, _, rfl, _, _, rfl, fun r1 => ⟨_, _, rfl, fun r2 => ⟨d, _, _, rfl, rfl, ed, small6' (by rw [List.length_map]; omega), ?_⟩⟩⟩
      exact ⟨ms ++ [r2], _, _, _, _, rfl, same_fresh sm nd', by rw [upd_ne npd]; exact ep, by rw [upd_same, List.map_append]; rfl, by rw [List.length_append, List.length_singleton]; omega⟩
  obtain ⟨ms, b, y4, y5, y6, rfl, sm, ep, ed, lm⟩ := h
  rw [List.length_map] at lm
  refine ⟨_, rfl, _, rfl, by omega, by omega, for_range (lo := 0) (n := n) (fun j σ H3 => ∃ ms y6, σ = [some (.ref a), some (.int n), some (.ref d), some (.int b), y4, y5, y6] ∧ Same H H3 ∧ H3 d = some (.lst (ms.map V.int)) ∧ ms.length ≤ 3780 + j)
    ⟨ms, y6, rfl, sm, ed, by omega⟩ (fun j σ H3 hj h => ?_) (fun σ H3 h => ?_)⟩
  · obtain ⟨ms, y6, rfl, sm, ed, lm⟩ := h
    refine ⟨.ref d, rfl, tyl ed, _, rfl, _, rfl, _, _, rfl, rfl, .inl ⟨by decide, by decide⟩, _, _, rfl, rfl, _, rfl, _, _, rfl, rfl, _, _, rfl, fun r1 => ⟨_, _, rfl, fun r2 => ⟨d, _, _, rfl, rfl, ed, small6' (by rw [List.length_map]; omega), ?_⟩⟩⟩
    exact ⟨ms ++ [r2], _, rfl, same_fresh sm nd', by rw [upd_same, List.map_append]; rfl, by rw [List.length_append, List.length_singleton]; omega⟩
  · obtain ⟨ms, y6, rfl, sm, ed, lm⟩ := h
    refine ⟨.ref d, rfl, tyl ed, d, _, rfl, rfl, ed, _, rfl, ?_⟩
    exact q d _ (same_fresh sm nd') nd' ⟨ms.reverse, by rw [List.length_reverse]; omega, by rw [upd_same, List.map_reverse]⟩
def spTake : Sp := fun vs H Q _ => ∃ (d : Addr) (b : Int), vs = [.ref d, .int b] ∧ Ints H d ∧ 0 < b ∧ ∀ (r : Int) (H' : Hp), 0 ≤ r → r < b → But d H H' → Ints H' d → Q (.int r) H'
theorem sc_take : FnScope ["row", "bound"] ["row", "bound"] (defScope s__law_take) := ⟨rfl, rfl, rfl, by decide +kernel, rfl, by decide +kernel, by decide +kernel⟩
theorem ok_take {f : Addr} {fd : FuncData} (D : Df K mg "_law_take" s__law_take ["row", "bound"] f fd) (m_int : mg "int" = none) : FnOk P w K mg base CX0 1 f fd ["row", "bound"] spTake := by
  refine D.F.ok sc_take (fun vs H Q E h => ?_) (fun cdv A outer s H vs Q E hr h => ?_)
  · obtain ⟨d, b, rfl, _⟩ := h; rfl
  obtain ⟨d, b, rfl, ⟨ms, lm, ed⟩, hb, q⟩ := h
  refine ⟨_, (pss_cons (ps_if (pt_not (pt_truth (pv 0) (by intro _; rfl)))
      (pss_one (ps_ret pe_int))
      pss_nil)
    (pss_one (ps_ret (pe_op op_mod (pe_callTy call_int1 (by rfl) m_int (by decide +kernel) (pa_cons (pe_bm0 PySem.F.plainAttrs_list PySem.F.slot_list_pop PySem.F.type_list_pop mt_popL (pv 0)) pa_nil)) (pv 1))))), ?_⟩
  refine ⟨.ref d, rfl, _, tru_l ed, ?_⟩
  cases ms with
  | nil => exact iteT (q 0 H (Int.le_refl 0) hb (But.refl d H) ⟨[], lm, ed⟩)
  | cons m0 mr =>
    refine iteF ?_
    have hm : (m0 :: mr) ≠ [] := fun z => by cases z
    generalize m0 :: mr = ms at lm ed hm
    obtain ⟨ms', m, rfl⟩ : ∃ ms' m, ms = ms' ++ [m] := ⟨_, _, (List.dropLast_concat_getLast hm).symm⟩
    rw [List.map_append] at ed
    refine ⟨.ref d, rfl, tyl ed, d, ms'.map V.int, .int m, rfl, rfl, ed, .inl ⟨m, rfl, .int b, rfl, _, _, rfl, rfl, hb, ?_⟩⟩
    exact q _ _ (Int.emod_nonneg _ (by omega)) (Int.emod_lt_of_pos _ hb) But.upd ⟨ms', by rw [List.length_append] at lm; omega, upd_same⟩
def spT20 (NM : List Str) (n : Nat) : Sp := fun vs H Q _ => ∃ (d l : Addr) (xs : List Str) (k : Nat), vs = [.ref d, .ref l, .int k] ∧ Ints H d ∧ H l = some (.lst (xs.map V.str)) ∧ l ≠ d ∧ (∀ x ∈ xs, x ∈ NM) ∧ xs.length ≤ 100 ∧ k < n ∧
  ∀ v t H', But d H H' → Ints H' d → TmAt H' v t → t.wf sym20 (nam20 NM) → t.nest ≤ k + 1 → t.size < 2 ^ (k + 1) → Q v H'
theorem sc_t20 : FnScope ["row", "names", "depth", "choice"] ["row", "names", "depth"] (defScope s__law_term) := ⟨rfl, rfl, rfl, by decide +kernel, rfl, by decide +kernel, by decide +kernel⟩
theorem ok_t20_1 {f fT : Addr} {fd dT : FuncData} (NM : List Str) (D : Df K mg "_law_term" s__law_term ["row", "names", "depth"] f fd) (DT : Df K mg "_law_take" s__law_take ["row", "bound"] fT dT) (GT : FnOk P w K mg base CX0 1 fT dT ["row", "bound"] spTake) (m_len : mg "len" = none) (m_int : mg "int" = none)
    {n : Nat} (G : FnOk P w K mg base CX0 (n + 1) f fd ["row", "names", "depth"] (spT20 NM n)) : FnOk P w K mg base CX0 (n + 1 + 1) f fd ["row", "names", "depth"] (spT20 NM (n + 1)) := by
  refine D.F.ok sc_t20 (fun vs H Q E h => ?_) (fun cdv A outer s H vs Q E hr h => ?_)
  · obtain ⟨d, l, xs, k, rfl, _⟩ := h; rfl
  obtain ⟨d, l, xs, k, rfl, hI, el, nld, hx, lx, hk, q⟩ := h
  have nd := sc_t20.nd
  have r1 : Room 1 _ := hr.mono (by omega)
  refine ⟨_, (pss_cons (ps_set (i := 3) nd rfl (.inl rfl) (pe_call GT r1 (by rfl) DT.m DT.F.kp DT.b .nil pass0 (pa_cons (pv 0) (pa_cons pe_int pa_nil))))
    (pss_cons (ps_if (PW.pt (pw_and (pt_truth (pv 1) (by intro _; rfl)) (pw_and1 (pt_cmpR op_lt (pv 3) pe_int (nomark _)))))
      (pss_one (ps_ret (pe_ix ix_list (pv 1) (pe_call GT r1 (by rfl) DT.m DT.F.kp DT.b .nil pass0 (pa_cons (pv 0) (pa_cons (pe_callB call_len_seq (by rfl) m_len PySem.boot_len (pa_cons (pv 1) pa_nil)) pa_nil))) (fun _ _ => rfl))))
      pss_nil)
    (pss_cons (ps_if (PW.pt (pw_and (pt_cmpR op_gt (pv 2) pe_int (nomark _)) (pw_and1 (pt_cmpR op_eq (pv 3) pe_int (nomark _)))))
      (pss_one (ps_ret (pe_tup (pa_cons pe_str (pa_cons (pe_call G hr (by rfl) D.m D.F.kp D.b .nil pass0 (pa_cons (pv 0) (pa_cons (pv 1) (pa_cons (pe_op op_sub (pv 2) pe_int) pa_nil)))) (pa_cons (pe_call G hr (by rfl) D.m D.F.kp D.b .nil pass0 (pa_cons (pv 0) (pa_cons (pv 1) (pa_cons (pe_op op_sub (pv 2) pe_int) pa_nil)))) pa_nil))))))
      pss_nil)
    (pss_cons (ps_if (PW.pt (pw_and (pt_cmpR op_gt (pv 2) pe_int (nomark _)) (pw_and1 (pt_cmpR op_lt (pv 3) pe_int (nomark _)))))
      (pss_one (ps_ret (pe_tup (pa_cons pe_str (pa_cons (pe_call G hr (by rfl) D.m D.F.kp D.b .nil pass0 (pa_cons (pv 0) (pa_cons (pv 1) (pa_cons (pe_op op_sub (pv 2) pe_int) pa_nil)))) pa_nil)))))
      pss_nil)
    (pss_one (ps_ret (pe_tup (pa_cons (pe_ix ix_list (pe_lst (pa_cons pe_str (pa_cons pe_str pa_nil))) (pe_op op_mod (pe_callTy call_int1 (by rfl) m_int (by decide +kernel) (pa_cons (pv 3) pa_nil)) pe_int) (fun _ _ => rfl)) pa_nil)))))))), ?_⟩
  refine ⟨_, rfl, d, 8, rfl, hI, by decide, fun r H1 r0 r8 b1 hI1 => ?_⟩
  have el1 := b1 l _ nld el
  have p1 : 2 ≤ 2 ^ (k + 1) := by
    have := Nat.pow_le_pow_right (n := 2) (by decide) (show 1 ≤ k + 1 by omega)
    omega
  have sub : ∀ {H2 : Hp} {Q2 : VK}, 1 ≤ k → But d H1 H2 → Ints H2 d → (∀ v t H', But d H2 H' → Ints H' d → TmAt H' v t → t.wf sym20 (nam20 NM) → t.nest ≤ k → t.size < 2 ^ k → Q2 v H') → spT20 NM n [.ref d, .ref l, .int ((k : Int) - 1)] H2 Q2 E0 := fun {H2 Q2} k1 b2 hI2 h => by
    have e : k - 1 + 1 = k := by omega
    refine ⟨d, l, xs, k - 1, ?_, hI2, b2 l _ nld el1, nld, hx, lx, by omega, fun v t H' b hI' hv hw hn hs => h v t H' b hI' hv hw (by omega) (by rw [e] at hs; exact hs)⟩
    rw [show ((k - 1 : Nat) : Int) = (k : Int) - 1 by omega]
  have pk : 2 ^ (k + 1) = 2 ^ k * 2 := Nat.pow_succ 2 k
  refine ⟨.ref l, rfl, _, tru_l el1, ?_⟩
  refine (fun (rest : _) => ite2 (fun ne => ⟨_, rfl, _, _, rfl, rfl, _, rfl, ite2 (fun _ => ?_) (fun _ => rest)⟩) (fun _ => rest)) ?_
  rotate_left
  · have hne : 0 < xs.length := by
      cases xs with
      | nil => cases ne
      | cons _ _ => exact Nat.succ_pos _
    refine ⟨.ref l, rfl, .ref d, rfl, .ref l, rfl, l, _, rfl, .inl (.inl (.inl el1)), d, _, rfl, hI1, by rw [List.length_map]; omega, fun r2 H2 q0 q1 b2 hI2 => ?_⟩
    rw [List.length_map] at q1
    have lt : r2.toNat < xs.length := by omega
    have g := List.getElem?_eq_getElem lt
    generalize xs[r2.toNat] = x at g
    refine ⟨l, _, r2, .str x, rfl, rfl, .inl (.inl (b2 l _ nld el1)), at_of (j := r2.toNat) (by omega) (by rw [List.getElem?_map, g]; rfl), ?_⟩
    exact q (.str x) (.var (.inr x)) _ (b1.trans b2) hI2 (.str x) ⟨x, rfl, hx x (List.mem_of_getElem? g)⟩ (by show 1 ≤ _; omega) (by show 1 < _; omega)
  refine ⟨_, rfl, _, _, rfl, rfl, _, rfl, ?_⟩
  have last : ∀ {t1 : Ter} {f : Str}, True := fun {_ _} => trivial
  have pos : ∀ {z : Bool}, z = decide ((0 : Int) < (k : Int)) → z = true → 1 ≤ k := fun e h => by
    rw [e] at h
    have := of_decide_eq_true h
    omega
  refine (fun (rest : _) => ite2 (fun z => ⟨_, rfl, rfl, _, rfl, ite2 (fun _ => ?_) (fun _ => rest)⟩) (fun _ => rest)) ?_
  rotate_left
  · have k1 := pos rfl z
    refine ⟨_, rfl, _, rfl, _, rfl, _, _, rfl, rfl, sub k1 (But.refl d H1) hI1 fun v t H2 b2 hI2 hv hw hn hs => ?_⟩
    refine ⟨_, rfl, _, rfl, _, rfl, _, _, rfl, rfl, sub k1 b2 hI2 fun v2 t2 H3 b3 hI3 hv2 hw2 hn2 hs2 => ?_⟩
    refine ⟨by show 3 ≤ sizeLine; decide, fun p np => ?_⟩
    have s2 := same_new np (.tup [.str "g", v, v2])
    exact q (.ref p) (.ap "g" [t, t2]) _ (b1.trans (b2.trans (b3.trans s2.but))) (hI3.same s2) (.ap upd_same (.cons (TmAt.mono ((b3.tupsI hI2).trans s2.tups) _ _ hv) (.cons (TmAt.mono s2.tups _ _ hv2) .nil))) ⟨.inr (.inr (.inr ⟨rfl, rfl⟩)), hw, hw2, trivial⟩ (by show max t.nest (max t2.nest 0) + 1 ≤ _; omega) (by show (t.size + (t2.size + 0)) + 1 < _; omega)
  refine ⟨_, rfl, _, _, rfl, rfl, _, rfl, ?_⟩
  refine (fun (rest : _) => ite2 (fun z => ⟨_, rfl, _, _, rfl, rfl, _, rfl, ite2 (fun _ => ?_) (fun _ => rest)⟩) (fun _ => rest)) ?_
  rotate_left
  · have k1 := pos rfl z
    refine ⟨_, rfl, _, rfl, _, rfl, _, _, rfl, rfl, sub k1 (But.refl d H1) hI1 fun v t H2 b2 hI2 hv hw hn hs => ?_⟩
    refine ⟨by show 2 ≤ sizeLine; decide, fun p np => ?_⟩
    have s2 := same_new np (.tup [.str "f", v])
    exact q (.ref p) (.ap "f" [t]) _ (b1.trans (b2.trans s2.but)) (hI2.same s2) (.ap upd_same (.cons (TmAt.mono s2.tups _ _ hv) .nil)) ⟨.inr (.inr (.inl ⟨rfl, rfl⟩)), hw, trivial⟩ (by show max t.nest 0 + 1 ≤ _; omega) (by show (t.size + 0) + 1 < _; omega)
  refine ⟨by show 2 ≤ sizeLine; decide, fun l2 nl2 => ?_⟩
  have s1 := same_new nl2 (.lst [.str "a", .str "b"])
  obtain ⟨x, hx2, hw⟩ : ∃ x : Str, atI [V.str "a", V.str "b"] (r % 2) = some (.str x) ∧ sym20 x 0 := by
    rcases (show r % 2 = 0 ∨ r % 2 = 1 by omega) with e | e <;> rw [e]
    · exact ⟨"a", rfl, .inl ⟨rfl, rfl⟩⟩
    · exact ⟨"b", rfl, .inr (.inl ⟨rfl, rfl⟩)⟩
  refine ⟨_, rfl, .inl ⟨r, rfl, _, _, rfl, rfl, (by show (0 : Int) < 2; decide), l2, _, _, _, rfl, rfl, .inl (.inl upd_same), hx2, by show 1 ≤ sizeLine; decide, fun p np => ?_⟩⟩
  have s2 := same_new np (.tup [.str x])
  exact q (.ref p) (.ap x []) _ (b1.trans (s1.trans s2).but) (hI1.same (s1.trans s2)) (.ap upd_same .nil) ⟨hw, trivial⟩ (by show 0 + 1 ≤ _; omega) (by show 0 + 1 < _; omega)
theorem ok_t20 {f fT : Addr} {fd dT : FuncData} (NM : List Str) (D : Df K mg "_law_term" s__law_term ["row", "names", "depth"] f fd) (DT : Df K mg "_law_take" s__law_take ["row", "bound"] fT dT) (GT : FnOk P w K mg base CX0 1 fT dT ["row", "bound"] spTake) (m_len : mg "len" = none) (m_int : mg "int" = none) :
    ∀ n : Nat, FnOk P w K mg base CX0 (n + 1) f fd ["row", "names", "depth"] (spT20 NM n)
  | 0 => by
    have no : ∀ vs H Q E, ¬ spT20 NM 0 vs H Q E := fun vs H Q E h => by
      obtain ⟨_, _, _, _, _, _, _, _, _, _, hk, _⟩ := h
      omega
    exact ⟨fun vs H Q E h => absurd h (no vs H Q E), fun A outer s H args us vs Q E _ _ _ _ h => absurd h (no vs H Q E)⟩
  | n + 1 => ok_t20_1 NM D DT GT m_len m_int (ok_t20 NM D DT GT m_len m_int n)
def spA20 (NM : List Str) : Sp := fun vs H Q _ => ∃ (d l : Addr) (xs : List Str) (k : Nat), vs = [.ref d, .ref l, .int k] ∧ Ints H d ∧ H l = some (.lst (xs.map V.str)) ∧ l ≠ d ∧ (∀ x ∈ xs, x ∈ NM) ∧ xs.length ≤ 100 ∧ k ≤ 1 ∧
  ∀ (p : Addr) v1 v2 t1 t2 H', But d H H' → Ints H' d → H' p = some (.tup [v1, v2]) → TmAt H' v1 t1 → TmAt H' v2 t2 → atom20 NM t1 t2 → t1.nest ≤ 3 → t2.nest ≤ 3 → t1.size ≤ 20 → t2.size ≤ 20 → Q (.ref p) H'
theorem sc_a20 : FnScope ["row", "names", "depth", "choice"] ["row", "names", "depth"] (defScope s__law_atom) := ⟨rfl, rfl, rfl, by decide +kernel, rfl, by decide +kernel, by decide +kernel⟩
theorem ok_a20 {f fT fM : Addr} {fd dT dM : FuncData} (NM : List Str) (D : Df K mg "_law_atom" s__law_atom ["row", "names", "depth"] f fd) (DT : Df K mg "_law_take" s__law_take ["row", "bound"] fT dT) (GT : FnOk P w K mg base CX0 1 fT dT ["row", "bound"] spTake)
    (DM : Df K mg "_law_term" s__law_term ["row", "names", "depth"] fM dM) (GM : FnOk P w K mg base CX0 3 fM dM ["row", "names", "depth"] (spT20 NM 2)) : FnOk P w K mg base CX0 4 f fd ["row", "names", "depth"] (spA20 NM) := by
  refine D.F.ok sc_a20 (fun vs H Q E h => ?_) (fun cdv A outer s H vs Q E hr h => ?_)
  · obtain ⟨d, l, xs, k, rfl, _⟩ := h; rfl
  obtain ⟨d, l, xs, k, rfl, hI, el, nld, hx, lx, hk, q⟩ := h
  have nd := sc_a20.nd
  have r1 : Room 1 _ := hr.mono (by omega)
  refine ⟨_, (pss_cons (ps_set (i := 3) nd rfl (.inl rfl) (pe_call GT r1 (by rfl) DT.m DT.F.kp DT.b .nil pass0 (pa_cons (pv 0) (pa_cons pe_int pa_nil))))
    (pss_cons (ps_if (pt_cmpR op_lt (pv 3) pe_int (nomark _))
      (pss_one (ps_ret (pe_tup (pa_cons (pe_call GM hr (by rfl) DM.m DM.F.kp DM.b .nil pass0 (pa_cons (pv 0) (pa_cons (pv 1) (pa_cons (pv 2) pa_nil)))) (pa_cons (pe_call GM hr (by rfl) DM.m DM.F.kp DM.b .nil pass0 (pa_cons (pv 0) (pa_cons (pv 1) (pa_cons (pv 2) pa_nil)))) pa_nil)))))
      pss_nil)
    (pss_cons (ps_if (pt_cmpR op_eq (pv 3) pe_int (nomark _))
      (pss_one (ps_ret (pe_tup (pa_cons (pe_tup (pa_cons pe_str (pa_cons (pe_call GM hr (by rfl) DM.m DM.F.kp DM.b .nil pass0 (pa_cons (pv 0) (pa_cons (pv 1) (pa_cons (pv 2) pa_nil)))) (pa_cons (pe_call GM hr (by rfl) DM.m DM.F.kp DM.b .nil pass0 (pa_cons (pv 0) (pa_cons (pv 1) (pa_cons (pv 2) pa_nil)))) pa_nil)))) (pa_cons (pe_tup (pa_cons pe_str pa_nil)) pa_nil)))))
      pss_nil)
    (pss_cons (ps_if (pt_cmpR op_eq (pv 3) pe_int (nomark _))
      (pss_one (ps_ret (pe_tup (pa_cons (pe_tup (pa_cons pe_str pa_nil)) (pa_cons (pe_tup (pa_cons pe_str pa_nil)) pa_nil)))))
      pss_nil)
    (pss_one (ps_ret (pe_tup (pa_cons (pe_tup (pa_cons pe_str (pa_cons (pe_call GM hr (by rfl) DM.m DM.F.kp DM.b .nil pass0 (pa_cons (pv 0) (pa_cons (pv 1) (pa_cons (pv 2) pa_nil)))) pa_nil))) (pa_cons (pe_tup (pa_cons pe_str pa_nil)) pa_nil))))))))), ?_⟩
  refine ⟨_, rfl, d, 6, rfl, hI, by decide, fun r H1 r0 r6 b1 hI1 => ?_⟩
  have el1 := b1 l _ nld el
  have tz : 2 ^ (k + 1) ≤ 2 ^ 2 := Nat.pow_le_pow_right (by decide) (by omega)
  have tz2 : 2 ^ 2 = 4 := by decide
  have one : ∀ {H2 : Hp} {Q2 : VK}, But d H1 H2 → Ints H2 d → (∀ v t H', But d H2 H' → Ints H' d → TmAt H' v t → t.wf sym20 (nam20 NM) → t.nest ≤ 2 → t.size ≤ 3 → Q2 v H') → spT20 NM 2 [.ref d, .ref l, .int (k : Int)] H2 Q2 E0 := fun {H2 Q2} b2 hI2 h =>
    ⟨d, l, xs, k, rfl, hI2, b2 l _ nld el1, nld, hx, lx, by omega, fun v t H' b hI' hv hw hn hs => h v t H' b hI' hv hw (by omega) (by omega)⟩
  refine ⟨_, rfl, _, _, rfl, rfl, _, rfl, ite2 (fun _ => ?_) (fun _ => ?_)⟩
  · refine ⟨_, rfl, _, rfl, _, rfl, one (But.refl d H1) hI1 fun v1 t1 H2 b2 hI2 h1 w1 n1 z1 => ?_⟩
    refine ⟨_, rfl, _, rfl, _, rfl, one b2 hI2 fun v2 t2 H3 b3 hI3 h2 w2 n2 z2 => ⟨by show 2 ≤ sizeLine; decide, fun p np => ?_⟩⟩
    have s4 := same_new np (.tup [v1, v2])
    exact q p v1 v2 t1 t2 _ (b1.trans (b2.trans (b3.trans s4.but))) (hI3.same s4) upd_same (TmAt.mono ((b3.tupsI hI2).trans s4.tups) _ _ h1) (TmAt.mono s4.tups _ _ h2) (.inl ⟨w1, w2⟩) (by omega) (by omega) (by omega) (by omega)
  -- a predicate and ('true',)
  have pred : ∀ {H2 : Hp} {f : Str} {vs : List V} {as : List Ter} {p1 : Addr}, But d H1 H2 → Ints H2 d → H2 p1 = some (.tup (.str f :: vs)) → TmAll H2 vs as → ((f = ("p" : Str) ∧ as.length = 1) ∨ (f = ("q" : Str) ∧ as.length = 2) ∨ (f = ("r" : Str) ∧ as.length = 0)) → Ter.wfs sym20 (nam20 NM) as → Ter.nests as ≤ 2 → Ter.sizes as ≤ 6 →
      ∀ p2, H2 p2 = none → ∀ p3, upd H2 p2 (.tup [.str "true"]) p3 = none → Q (.ref p3) (upd (upd H2 p2 (.tup [.str "true"])) p3 (.tup [.ref p1, .ref p2])) := fun {H2 f vs as p1} b2 hI2 e1 hs hf hw hn hz p2 np2 p3 np3 => by
    have s2 := same_new np2 (.tup [.str "true"])
    have s3 := same_new np3 (.tup [.ref p1, .ref p2])
    have s23 := s2.trans s3
    exact q p3 (.ref p1) (.ref p2) (.ap f as) (.ap "true" []) _ (b1.trans (b2.trans s23.but)) (hI2.same s23) upd_same (.ap (s23 _ _ e1) (TmAll.mono s23.tups _ _ hs)) (.ap (s3 _ _ upd_same) .nil) (.inr ⟨f, as, rfl, hf, hw, rfl⟩) (by show Ter.nests as + 1 ≤ 3; omega) (by show 0 + 1 ≤ 3; omega) (by show Ter.sizes as + 1 ≤ 20; omega) (by show 0 + 1 ≤ 20; omega)
  refine ⟨_, rfl, rfl, _, rfl, ite2 (fun _ => ?_) (fun _ => ?_)⟩
  · refine ⟨_, rfl, _, rfl, _, rfl, one (But.refl d H1) hI1 fun v1 t1 H2 b2 hI2 h1 w1 n1 z1 => ?_⟩
    refine ⟨_, rfl, _, rfl, _, rfl, one b2 hI2 fun v2 t2 H3 b3 hI3 h2 w2 n2 z2 => ⟨by show 3 ≤ sizeLine; decide, fun p1 np1 => ⟨by show 1 ≤ sizeLine; decide, fun p2 np2 => ⟨by show 2 ≤ sizeLine; decide, fun p3 np3 => ?_⟩⟩⟩⟩
    have s4 := same_new np1 (.tup [.str "q", v1, v2])
    exact pred (as := [t1, t2]) (b2.trans (b3.trans s4.but)) (hI3.same s4) upd_same (.cons (TmAt.mono ((b3.tupsI hI2).trans s4.tups) _ _ h1) (.cons (TmAt.mono s4.tups _ _ h2) .nil)) (.inr (.inl ⟨rfl, rfl⟩)) ⟨w1, w2, trivial⟩ (by show max t1.nest (max t2.nest 0) ≤ 2; omega) (by show t1.size + (t2.size + 0) ≤ 6; omega) p2 np2 p3 np3
  refine ⟨_, rfl, rfl, _, rfl, ite2 (fun _ => ?_) (fun _ => ?_)⟩
  · refine ⟨by show 1 ≤ sizeLine; decide, fun p1 np1 => ⟨by show 1 ≤ sizeLine; decide, fun p2 np2 => ⟨by show 2 ≤ sizeLine; decide, fun p3 np3 => ?_⟩⟩⟩
    have s4 := same_new np1 (.tup [.str "r"])
    exact pred (as := []) s4.but (hI1.same s4) upd_same .nil (.inr (.inr ⟨rfl, rfl⟩)) trivial (Nat.zero_le _) (Nat.zero_le _) p2 np2 p3 np3
  · refine ⟨_, rfl, _, rfl, _, rfl, one (But.refl d H1) hI1 fun v1 t1 H2 b2 hI2 h1 w1 n1 z1 => ⟨by show 2 ≤ sizeLine; decide, fun p1 np1 => ⟨by show 1 ≤ sizeLine; decide, fun p2 np2 => ⟨by show 2 ≤ sizeLine; decide, fun p3 np3 => ?_⟩⟩⟩⟩
    have s4 := same_new np1 (.tup [.str "p", v1])
    exact pred (as := [t1]) (b2.trans s4.but) (hI2.same s4) upd_same (.cons (TmAt.mono s4.tups _ _ h1) .nil) (.inl ⟨rfl, rfl⟩) ⟨w1, trivial⟩ (by show max t1.nest 0 ≤ 2; omega) (by show t1.size + 0 ≤ 6; omega) p2 np2 p3 np3
end
end K23
namespace K23
open PySem PySem.Spec PyProof.Rows L2 Own HT
section
variable {P : Program} {w : World} {K : PySem.W.Frag} {mg : Str → Option Value} {base : Heap}
def spVarsOf (K : PySem.W.Frag) : Sp := fun vs H Q _ => ∃ (a : Addr) (xs : List V) (ts : List Ter), vs = [.ref a] ∧ SqL K H a xs ∧ TmAll H xs ts ∧ Ter.sizes ts ≤ 1000000 ∧
  ∀ (p : Addr) (H' : Hp), Same H H' → H p = none → H' p = some (.lst ((Ter.intos [] ts).map kV)) → Q (.ref p) H'
theorem sc_variables_of : FnScope ["terms", "found", "waiting", "part"] ["terms"] (defScope s_variables_of) := ⟨rfl, rfl, rfl, by decide +kernel, rfl, by decide +kernel, by decide +kernel⟩
theorem ok_variables_of {f fV : Addr} {fd fdV : FuncData} (D : Df K mg "variables_of" s_variables_of ["terms"] f fd) (DV : Df K mg "is_variable" s_is_variable ["term"] fV fdV) (G : FnOk P w K mg base CX0 1 fV fdV ["term"] spIsVar) (ml : mg "list" = none) : FnOk P w K mg base CX0 2 f fd ["terms"] (spVarsOf K) := by
  refine D.F.ok sc_variables_of (fun vs H Q E h => ?_) (fun cdv A outer s H vs Q E hr h => ?_)
  · obtain ⟨a, xs, ts, rfl, _⟩ := h; rfl
  obtain ⟨a, xs, ts, rfl, ha, ht, hz, q⟩ := h
  refine ⟨_, pss_cons (ps_set (i := 1) sc_variables_of.nd rfl (.inl rfl) pe_dnewK) (pss_cons (ps_set (i := 2) sc_variables_of.nd rfl (.inl rfl) (pe_revL (pv 0)))
    (pss_cons (ps_while PassesOwn.never (pt_truth (pv 2) (by intro _; rfl))
      (pss_cons (ps_set (i := 3) sc_variables_of.nd rfl (.inl rfl) (pe_bm0 PySem.F.plainAttrs_list PySem.F.slot_list_pop PySem.F.type_list_pop mt_popL (pv 2)))
      (pss_one (ps_if (pt_val (pe_call G hr (by rfl) DV.m DV.F.kp DV.b .nil pass0 (pa_cons (pv 3) pa_nil)))
        (pss_one (ps_dput (hu_of hr) (pv 1) (pv 3) pe_bl rfl))
        (pss_one (ps_expr (pe_bm PySem.F.plainAttrs_list PySem.F.slot_list_extend PySem.F.type_list_extend mt_extendT (pv 2) (pa_cons (pe_slBack (pv 3)) pa_nil))))))))
    (pss_one (ps_ret (pe_callTy (call_listD rfl) (by rfl) ml (by decide +kernel) (pa_cons (pv 1) pa_nil)))))), ?_⟩
  intro d nd
  have s0 := same_new nd (.dK [])
  refine ⟨.ref a, rfl, a, xs, rfl, s0.seq ha, fun l nl => ?_⟩
  have s1 := s0.trans (same_new nl (.lst xs.reverse))
  have nld : l ≠ d := (ne_of_none (show upd H d (.dK []) d = some _ from upd_same) nl).symm
  refine ⟨fun m σ H' => ∃ (acc : List Key) (vs : List V) (us : List Ter) (y : Option V), σ = [some (.ref a), some (.ref d), some (.ref l), y] ∧ Same H H' ∧ H' d = some (.dK (acc.map yes)) ∧ H' l = some (.lst vs) ∧ TmAll H' vs us ∧ Ter.intos acc us.reverse = Ter.intos [] ts ∧ acc.length + Ter.sizes us ≤ Ter.sizes ts ∧ m = Ter.sizes us,
    ⟨_, [], xs.reverse, ts.reverse, none, rfl, s1, by rw [upd_ne nld.symm]; exact upd_same, upd_same, (TmAll.mono s1.tups _ _ ht).rev, by rw [List.reverse_reverse], ?_, rfl⟩, fun m σ H' hW => ?_⟩
  · have e : ∀ us : List Ter, Ter.sizes us.reverse = Ter.sizes us := fun us => by
      induction us with
      | nil => rfl
      | cons b r ih =>
        rw [List.reverse_cons, Ter.sizes_app, ih]
        show Ter.sizes r + (b.size + 0) = b.size + Ter.sizes r
        omega
    rw [e]
    show 0 + _ ≤ _
    omega
  obtain ⟨acc, vs, us, y, rfl, sm, ed, el, hu, ei, hl, rfl⟩ := hW
  have nl0 : H l = none := s0.free nl
  refine ⟨.ref l, rfl, _, tru_l el, ?_⟩
  refine ite2 (fun c => ?_) (fun c => ?_)
  · have hv : vs ≠ [] := fun z => by subst z; exact absurd c (by decide)
    obtain ⟨vs', u, us', tu, rfl, rfl, ha', hx⟩ := hu.last hv
    rw [Ter.sizes_app] at hl
    have ez : Ter.sizes [tu] = tu.size := by show tu.size + 0 = tu.size; omega
    rw [ez] at hl
    have su := tu.size_pos
    have er : (us' ++ [tu]).reverse = tu :: us'.reverse := by rw [List.reverse_append]; rfl
    rw [er] at ei
    have ei : Ter.intos (Ter.into acc tu) us'.reverse = Ter.intos [] ts := ei
    refine ⟨fun σ' H2 => ∃ (acc : List Key) (vs : List V) (us : List Ter) (y : Option V), σ' = [some (.ref a), some (.ref d), some (.ref l), y] ∧ Same H H2 ∧ H2 d = some (.dK (acc.map yes)) ∧ H2 l = some (.lst vs) ∧ TmAll H2 vs us ∧ Ter.intos acc us.reverse = Ter.intos [] ts ∧ acc.length + Ter.sizes us ≤ Ter.sizes ts ∧ Ter.sizes us < Ter.sizes (us' ++ [tu]),
      fun σ' H2 hN => ?_, ?_⟩
    · obtain ⟨a2, v2, u2, y2, e1, e2, e3, e4, e5, e6, e7, e8⟩ := hN
      exact ⟨_, e8, a2, v2, u2, y2, e1, e2, e3, e4, e5, e6, e7, rfl⟩
    have b1 : But l H' (upd H' l (.lst vs')) := But.upd
    have t1 := b1.tups el
    have hx1 := TmAt.mono t1 _ _ hx
    have ha1 := TmAll.mono t1 _ _ ha'
    have sm1 := But.same nl0 sm b1
    have ed1 := b1 d _ nld.symm ed
    have l1 := ha1.len
    have l3 := Ter.sizes_len us'
    refine ⟨.ref l, rfl, tyl el, l, vs', u, rfl, rfl, el, ?_⟩
    refine ⟨u, rfl, u, tu, rfl, hx1, _, rfl, ?_⟩
    have lt : Ter.sizes us' < Ter.sizes (us' ++ [tu]) := by rw [Ter.sizes_app, ez]; omega
    cases hx1 with
    | int i =>
      refine iteT ⟨.ref d, rfl, .int i, rfl, d, _, rfl, DPut.k (k := Sum.inl i) ed1 (by rw [List.length_map]; exact small6' (by omega)), ?_⟩
      rw [put_yes]
      have b2 : But d (upd H' l (.lst vs')) (upd (upd H' l (.lst vs')) d (.dK ((addK acc (.inl i)).map yes))) := But.upd
      have t2 : Tups _ _ := tups_updD (o := .dK ((addK acc (.inl i)).map yes)) ed1
      have al := addK_len acc (.inl i)
      have e1 : (Ter.var (.inl i)).size = 1 := rfl
      exact ⟨_, vs', us', _, rfl, But.same nd sm1 b2, upd_same, b2 l _ nld upd_same, TmAll.mono t2 _ _ ha1, ei, by omega, lt⟩
    | str x =>
      refine iteT ⟨.ref d, rfl, .str x, rfl, d, _, rfl, DPut.k (k := Sum.inr x) ed1 (by rw [List.length_map]; exact small6' (by omega)), ?_⟩
      rw [put_yes]
      have b2 : But d (upd H' l (.lst vs')) (upd (upd H' l (.lst vs')) d (.dK ((addK acc (.inr x)).map yes))) := But.upd
      have t2 : Tups _ _ := tups_updD (o := .dK ((addK acc (.inr x)).map yes)) ed1
      have al := addK_len acc (.inr x)
      have e1 : (Ter.var (.inr x)).size = 1 := rfl
      exact ⟨_, vs', us', _, rfl, But.same nd sm1 b2, upd_same, b2 l _ nld upd_same, TmAll.mono t2 _ _ ha1, ei, by omega, lt⟩
    | @ap p g zs as e hs =>
      refine iteF ?_
      have l2 := hs.len
      have l4 := Ter.sizes_len as
      have es : (Ter.ap g as).size = Ter.sizes as + 1 := rfl
      rw [es] at hl
      refine ⟨.ref l, rfl, tyl upd_same, .ref p, rfl, p, .str g, zs, rfl, .inl (.inl e), fun r nr => ?_⟩
      have s2 := same_new nr (.tup zs.reverse)
      refine ⟨l, r, vs', zs.reverse, rfl, rfl, s2 _ _ upd_same, .inl (.inl upd_same), small6 (by rw [List.length_reverse]; omega), ?_⟩
      have b2 : But l (upd (upd H' l (.lst vs')) r (.tup zs.reverse)) _ := But.upd (o := .lst (vs' ++ zs.reverse))
      have t2 := s2.tups.trans (b2.tups (s2 _ _ upd_same))
      have e9 : Ter.sizes as.reverse = Ter.sizes as := by
        have e : ∀ us : List Ter, Ter.sizes us.reverse = Ter.sizes us := fun us => by
          induction us with
          | nil => rfl
          | cons b r ih =>
            rw [List.reverse_cons, Ter.sizes_app, ih]
            show Ter.sizes r + (b.size + 0) = b.size + Ter.sizes r
            omega
        exact e as
      refine ⟨acc, vs' ++ zs.reverse, us' ++ as.reverse, _, rfl, But.same nl0 (sm1.trans s2) b2, b2 d _ nld.symm (s2 _ _ ed1), upd_same, (TmAll.mono t2 _ _ ha1).app (TmAll.mono t2 _ _ hs).rev, ?_, ?_, ?_⟩
      · rw [List.reverse_append, List.reverse_reverse, intos_app]
        exact ei
      · rw [Ter.sizes_app, e9]; omega
      · rw [Ter.sizes_app, Ter.sizes_app, ez, es, e9]; omega
  · have hv : vs = [] := by
      cases vs with
      | nil => rfl
      | cons x r => exact absurd rfl c
    subst hv
    cases hu
    have ei : acc = Ter.intos [] ts := ei
    refine ⟨.ref d, rfl, d, acc.map yes, rfl, .inl ed, fun p np => ?_⟩
    have s3 := same_new np (.lst ((acc.map yes).map fun kv => kV kv.1))
    refine q p _ (sm.trans s3) (sm.free np) ?_
    rw [upd_same, yes_keys, ei]
end
section
variable {P : Program} {w : World} {K : PySem.W.Frag} {mg : Str → Option Value} {base : Heap}
def spTab : Sp := fun vs H Q _ => ∃ d : Addr, vs = [.ref d] ∧ Ints H d ∧ ∀ T M H', But d H H' → Ints H' d → TabAt H' T M → 1 ≤ M.sz → M.sz ≤ 3 → Q (.ref T) H'
theorem sc_tab : FnScope ["row", "size", "functions", "predicates", "i", "j"] ["row"] (defScope s__law_tables) := ⟨rfl, rfl, rfl, by decide +kernel, rfl, by decide +kernel, by decide +kernel⟩
theorem ndF {a b c d : V} : mergeK [] [((.inr "a" : Key), a), (.inr "b", b), (.inr "f", c), (.inr "g", d)] = [(.inr "a", a), (.inr "b", b), (.inr "f", c), (.inr "g", d)] := merge_nil (by show ([.inr "a", .inr "b", .inr "f", .inr "g"] : List Key).Nodup; decide +kernel)
theorem ndP {a b c : V} : mergeK [] [((.inr "p" : Key), a), (.inr "q", b), (.inr "r", c)] = [(.inr "p", a), (.inr "q", b), (.inr "r", c)] := merge_nil (by show ([.inr "p", .inr "q", .inr "r"] : List Key).Nodup; decide +kernel)
theorem vF {a b c d : V} : valV [((.inr "a" : Key), a), (.inr "b", b), (.inr "f", c), (.inr "g", d)] (.inr "f") = some c := val_of_mem (e := (.inr "f", c)) (by show ([.inr "a", .inr "b", .inr "f", .inr "g"] : List Key).Nodup; decide +kernel) (by simp)
theorem vG {a b c d : V} : valV [((.inr "a" : Key), a), (.inr "b", b), (.inr "f", c), (.inr "g", d)] (.inr "g") = some d := val_of_mem (e := (.inr "g", d)) (by show ([.inr "a", .inr "b", .inr "f", .inr "g"] : List Key).Nodup; decide +kernel) (by simp)
theorem vP {a b c : V} : valV [((.inr "p" : Key), a), (.inr "q", b), (.inr "r", c)] (.inr "p") = some a := val_of_mem (e := (.inr "p", a)) (by show ([.inr "p", .inr "q", .inr "r"] : List Key).Nodup; decide +kernel) (by simp)
theorem vQ {a b c : V} : valV [((.inr "p" : Key), a), (.inr "q", b), (.inr "r", c)] (.inr "q") = some b := val_of_mem (e := (.inr "q", b)) (by show ([.inr "p", .inr "q", .inr "r"] : List Key).Nodup; decide +kernel) (by simp)
theorem ok_tab {f fT : Addr} {fd dT : FuncData} (D : Df K mg "_law_tables" s__law_tables ["row"] f fd) (DT : Df K mg "_law_take" s__law_take ["row", "bound"] fT dT) (GT : FnOk P w K mg base CX0 1 fT dT ["row", "bound"] spTake) (m_range : mg "range" = none) : FnOk P w K mg base CX0 2 f fd ["row"] spTab := by
  refine D.F.ok sc_tab (fun vs H Q E h => ?_) (fun cdv A outer s H vs Q E hr h => ?_)
  · obtain ⟨d, rfl, _⟩ := h; rfl
  obtain ⟨d, rfl, hI, q⟩ := h
  have nd := sc_tab.nd
  have r1 : Room 1 _ := hr
  refine ⟨_, (pss_cons (ps_set (i := 1) nd rfl (.inl rfl) (pe_op op_add pe_int (pe_call GT r1 (by rfl) DT.m DT.F.kp DT.b .nil pass0 (pa_cons (pv 0) (pa_cons pe_int pa_nil)))))
    (pss_cons (ps_set (i := 2) nd rfl (.inl rfl) (pe_disp (pps_cons pe_str (pe_dispT (hu_of hr) (pe_tup pa_nil) (pe_call GT r1 (by rfl) DT.m DT.F.kp DT.b .nil pass0 (pa_cons (pv 0) (pa_cons (pv 1) pa_nil)))) (pps_cons pe_str (pe_dispT (hu_of hr) (pe_tup pa_nil) (pe_call GT r1 (by rfl) DT.m DT.F.kp DT.b .nil pass0 (pa_cons (pv 0) (pa_cons (pv 1) pa_nil)))) (pps_cons pe_str pe_dnewT (pps_cons pe_str pe_dnewT pps_nil)))) (by rfl) (by rfl) (fun z => by cases z) (by decide)))
    (pss_cons (ps_set (i := 3) nd rfl (.inl rfl) (pe_disp (pps_cons pe_str pe_dnewT (pps_cons pe_str pe_dnewT (pps_cons pe_str (pe_dispT (hu_of hr) (pe_tup pa_nil) (pe_cmpR op_eq (pe_call GT r1 (by rfl) DT.m DT.F.kp DT.b .nil pass0 (pa_cons (pv 0) (pa_cons pe_int pa_nil))) pe_int (nomark _))) pps_nil))) (by rfl) (by rfl) (fun z => by cases z) (by decide)))
    (pss_cons (ps_for PassesOwn.never rfl (pi_range1 (by rfl) m_range (pa_cons (pv 1) pa_nil)) (pg_name (i := 4) nd rfl (.inl rfl))
      (pss_cons (ps_dput (hu_of hr) (pe_dget (hu_of hr) (pv 2) pe_str (fun _ _ => rfl)) (pe_tup (pa_cons (pv 4) pa_nil)) (pe_call GT r1 (by rfl) DT.m DT.F.kp DT.b .nil pass0 (pa_cons (pv 0) (pa_cons (pv 1) pa_nil))) rfl)
    (pss_cons (ps_dput (hu_of hr) (pe_dget (hu_of hr) (pv 3) pe_str (fun _ _ => rfl)) (pe_tup (pa_cons (pv 4) pa_nil)) (pe_cmpR op_eq (pe_call GT r1 (by rfl) DT.m DT.F.kp DT.b .nil pass0 (pa_cons (pv 0) (pa_cons pe_int pa_nil))) pe_int (nomark _)) rfl)
    (pss_one (ps_for PassesOwn.never rfl (pi_range1 (by rfl) m_range (pa_cons (pv 1) pa_nil)) (pg_name (i := 5) nd rfl (.inl rfl))
      (pss_cons (ps_dput (hu_of hr) (pe_dget (hu_of hr) (pv 2) pe_str (fun _ _ => rfl)) (pe_tup (pa_cons (pv 4) (pa_cons (pv 5) pa_nil))) (pe_call GT r1 (by rfl) DT.m DT.F.kp DT.b .nil pass0 (pa_cons (pv 0) (pa_cons (pv 1) pa_nil))) rfl)
    (pss_one (ps_dput (hu_of hr) (pe_dget (hu_of hr) (pv 3) pe_str (fun _ _ => rfl)) (pe_tup (pa_cons (pv 4) (pa_cons (pv 5) pa_nil))) (pe_cmpR op_eq (pe_call GT r1 (by rfl) DT.m DT.F.kp DT.b .nil pass0 (pa_cons (pv 0) (pa_cons pe_int pa_nil))) pe_int (nomark _)) rfl))))))))
    (pss_one (ps_ret (pe_tup (pa_cons (pv 1) (pa_cons (pv 2) (pa_cons (pv 3) pa_nil)))))))))), ?_⟩
  refine ⟨_, rfl, d, 3, rfl, hI, by decide, fun z H1 z0 z3 b1 hI1 => ⟨_, _, rfl, rfl, ?_⟩⟩
  obtain ⟨m, hm, m1, m3⟩ : ∃ m : Nat, 1 + z = (m : Int) ∧ 1 ≤ m ∧ m ≤ 3 := ⟨(1 + z).toNat, by omega, by omega, by omega⟩
  rw [show (fun i j : Int => V.int (i + j)) 1 z = V.int m from congrArg V.int hm]
  have mp : (0 : Int) < (m : Int) := by omega
  -- the functions
  refine fun F nF => ?_
  have dF : F ≠ d := hI1.ne nF
  have nFH := b1.free dF nF
  have c1 := b1.trans (same_new nF (.dK [])).but
  have hJ1 := hI1.same (same_new nF (.dK []))
  have eF1 : upd H1 F (.dK []) F = some (.dK []) := upd_same
  generalize upd H1 F (.dK []) = G1 at c1 hJ1 eF1
  -- a
  refine fun qa na => ⟨by show 0 ≤ sizeLine; decide, fun ka nka => ?_⟩
  have da : qa ≠ d := hJ1.ne na
  have dFa : F ≠ qa := ne_of_none eF1 na
  have naH := c1.free da na
  have s2 := (same_new na (.dT [])).trans (same_new nka (.tup []))
  have ea : upd (upd G1 qa (.dT [])) ka (.tup []) qa = some (.dT []) := same_new nka _ _ _ upd_same
  have ek : upd (upd G1 qa (.dT [])) ka (.tup []) ka = some (.tup []) := upd_same
  have hJ2 := hJ1.same s2
  generalize upd (upd G1 qa (.dT [])) ka (.tup []) = G2 at s2 ea ek hJ2
  refine ⟨_, rfl, _, rfl, d, m, rfl, hJ2, mp, fun xa H3 _ _ b3 hI3 => ?_⟩
  refine ⟨b3 _ _ da ea, [], ka, .int xa, rfl, b3 _ _ (ne_of ek hJ2.choose_spec.2 (fun z => nomatch z)) ek, ?_⟩
  have c3 := but_fresh (o := .dT [([], V.int xa)]) (c1.trans (s2.but.trans b3)) naH
  have eF3 : upd H3 qa (.dT [([], V.int xa)]) F = some (.dK []) := by rw [upd_ne dFa]; exact b3 _ _ dF (s2 _ _ eF1)
  have A3 : AllT (upd H3 qa (.dT [([], V.int xa)])) qa V.int 1 := .one upd_same
  have hJ3 : Ints (upd H3 qa (.dT [([], V.int xa)])) d := hI3.of_but But.upd da.symm
  generalize upd H3 qa (.dT [([], V.int xa)]) = G3 at c3 eF3 A3 hJ3
  -- b
  refine fun qb nb => ⟨by show 0 ≤ sizeLine; decide, fun kb nkb => ?_⟩
  have db : qb ≠ d := hJ3.ne nb
  have dFb : F ≠ qb := ne_of_none eF3 nb
  have nbH := c3.free db nb
  have s4 := (same_new nb (.dT [])).trans (same_new nkb (.tup []))
  have eb : upd (upd G3 qb (.dT [])) kb (.tup []) qb = some (.dT []) := same_new nkb _ _ _ upd_same
  have ekb : upd (upd G3 qb (.dT [])) kb (.tup []) kb = some (.tup []) := upd_same
  have hJ4 := hJ3.same s4
  have dba : qa ≠ qb := by obtain ⟨_, e, _⟩ := A3; exact ne_of_none e nb
  generalize upd (upd G3 qb (.dT [])) kb (.tup []) = G4 at s4 eb ekb hJ4
  refine ⟨_, rfl, _, rfl, d, m, rfl, hJ4, mp, fun xb H5 _ _ b5 hI5 => ?_⟩
  refine ⟨b5 _ _ db eb, [], kb, .int xb, rfl, b5 _ _ (ne_of ekb hJ4.choose_spec.2 (fun z => nomatch z)) ekb, ?_⟩
  have c5 := but_fresh (o := .dT [([], V.int xb)]) (c3.trans (s4.but.trans b5)) nbH
  have eF5 : upd H5 qb (.dT [([], V.int xb)]) F = some (.dK []) := by rw [upd_ne dFb]; exact b5 _ _ dF (s4 _ _ eF3)
  have A5 : AllT (upd H5 qb (.dT [([], V.int xb)])) qa V.int 1 := ((A3.same s4).lst b5 hJ4).keep But.upd dba
  have B5 : AllT (upd H5 qb (.dT [([], V.int xb)])) qb V.int 1 := .one upd_same
  have hJ5 : Ints (upd H5 qb (.dT [([], V.int xb)])) d := hI5.of_but But.upd db.symm
  generalize upd H5 qb (.dT [([], V.int xb)]) = G5 at c5 eF5 A5 B5 hJ5
  -- f, g
  refine fun qf nf => fun qg ng => ?_
  have s6 := (same_new nf (.dT [])).trans (same_new ng (.dT []))
  have ef : upd (upd G5 qf (.dT [])) qg (.dT []) qf = some (.dT []) := same_new ng _ _ _ upd_same
  have eg : upd (upd G5 qf (.dT [])) qg (.dT []) qg = some (.dT []) := upd_same
  have nfH := c5.free (hJ5.ne nf) nf
  have ngH := (c5.trans (same_new nf (.dT [])).but).free ((hJ5.same (same_new nf (.dT []))).ne ng) ng
  have eF6 := s6 _ _ eF5
  have hJ6 := hJ5.same s6
  have T6 : Two (upd (upd G5 qf (.dT [])) qg (.dT [])) [qa, qb, qf, qg] [] 1 := ⟨fun q hq => by
    simp only [List.mem_cons, List.not_mem_nil, or_false] at hq
    rcases hq with rfl | rfl | rfl | rfl
    · exact A5.same s6
    · exact B5.same s6
    · exact (AllT.nil ef).le (by decide)
    · exact (AllT.nil eg).le (by decide), fun r hr => (nomatch hr), fun q _ r hr => (nomatch hr)⟩
  have c6 := c5.trans s6.but
  generalize upd (upd G5 qf (.dT [])) qg (.dT []) = G6 at s6 eF6 hJ6 T6 c6
  refine ⟨eF6, [(.inr "a", .ref qa), (.inr "b", .ref qb), (.inr "f", .ref qf), (.inr "g", .ref qg)], rfl, (by show 4 ≤ 15; decide), ?_⟩
  rw [ndF]
  have c7 := but_fresh (o := .dK [((.inr "a" : Key), V.ref qa), (.inr "b", .ref qb), (.inr "f", .ref qf), (.inr "g", .ref qg)]) c6 nFH
  have eF7 : upd G6 F (.dK [((.inr "a" : Key), V.ref qa), (.inr "b", .ref qb), (.inr "f", .ref qf), (.inr "g", .ref qg)]) F = some (.dK [((.inr "a" : Key), V.ref qa), (.inr "b", .ref qb), (.inr "f", .ref qf), (.inr "g", .ref qg)]) := upd_same
  have hJ7 : Ints (upd G6 F (.dK [((.inr "a" : Key), V.ref qa), (.inr "b", .ref qb), (.inr "f", .ref qf), (.inr "g", .ref qg)])) d := hJ6.of_but But.upd dF.symm
  have T7 : Two (upd G6 F (.dK [((.inr "a" : Key), V.ref qa), (.inr "b", .ref qb), (.inr "f", .ref qf), (.inr "g", .ref qg)])) [qa, qb, qf, qg] [] 1 := ⟨fun q hq => (T6.fs q hq).keep But.upd ((T6.fs q hq).lock eF6), fun r hr => (nomatch hr), fun q _ r hr => (nomatch hr)⟩
  generalize hkF : ([((.inr "a" : Key), V.ref qa), (.inr "b", .ref qb), (.inr "f", .ref qf), (.inr "g", .ref qg)] : List (Key × V)) = kF at c7 eF7 hJ7 T7
  generalize upd G6 F (.dK kF) = G7 at c7 eF7 hJ7 T7
  -- the predicates
  refine fun G nG => fun rp np => fun rq nq => ?_
  have s8 := ((same_new nG (.dK [])).trans (same_new np (.dT []))).trans (same_new nq (.dT []))
  have dG : G ≠ d := hJ7.ne nG
  have nGH := c7.free dG nG
  have eG8 : upd (upd (upd G7 G (.dK [])) rp (.dT [])) rq (.dT []) G = some (.dK []) := same_new nq _ _ _ (same_new np _ _ _ upd_same)
  have ep8 : upd (upd (upd G7 G (.dK [])) rp (.dT [])) rq (.dT []) rp = some (.dT []) := same_new nq _ _ _ upd_same
  have eq8 : upd (upd (upd G7 G (.dK [])) rp (.dT [])) rq (.dT []) rq = some (.dT []) := upd_same
  have n7 : ∀ r, upd G7 G (.dK []) r = none → G7 r = none := fun r h => (same_new nG (.dK [])).free h
  have np7 := n7 rp np
  have nq7 : G7 rq = none := ((same_new nG (.dK [])).trans (same_new np (.dT []))).free nq
  have hJ8 := hJ7.same s8
  have c8 := c7.trans s8.but
  have eF8 := s8 _ _ eF7
  have npH := c7.free (hJ7.ne np7) np7
  have nqH := c7.free (hJ7.ne nq7) nq7
  have T8 : Two (upd (upd (upd G7 G (.dK [])) rp (.dT [])) rq (.dT [])) [qa, qb, qf, qg] [rp, rq] 1 := ⟨fun q hq => (T7.fs q hq).same s8, fun r hr => by
      simp only [List.mem_cons, List.not_mem_nil, or_false] at hr
      rcases hr with rfl | rfl
      · exact (AllT.nil ep8).le (by decide)
      · exact (AllT.nil eq8).le (by decide), fun q hq r hr => by
      obtain ⟨_, e, _⟩ := T7.fs q hq
      simp only [List.mem_cons, List.not_mem_nil, or_false] at hr
      rcases hr with rfl | rfl
      · exact ne_of_none e np7
      · exact ne_of_none e nq7⟩
  have dFG : F ≠ G := ne_of_none eF7 nG
  generalize upd (upd (upd G7 G (.dK [])) rp (.dT [])) rq (.dT []) = G8 at eG8 hJ8 c8 eF8 T8
  refine fun rr nr => ⟨by show 0 ≤ sizeLine; decide, fun kr nkr => ?_⟩
  have dr : rr ≠ d := hJ8.ne nr
  have nrH := c8.free dr nr
  have s9 := (same_new nr (.dT [])).trans (same_new nkr (.tup []))
  have er : upd (upd G8 rr (.dT [])) kr (.tup []) rr = some (.dT []) := same_new nkr _ _ _ upd_same
  have ekr : upd (upd G8 rr (.dT [])) kr (.tup []) kr = some (.tup []) := upd_same
  have hJ9 := hJ8.same s9
  generalize upd (upd G8 rr (.dT [])) kr (.tup []) = G9 at s9 er ekr hJ9
  refine ⟨_, rfl, d, 2, rfl, hJ9, by decide, fun xr H10 _ _ b10 hI10 => ⟨rfl, ?_⟩⟩
  refine ⟨b10 _ _ dr er, [], kr, .bl _, rfl, b10 _ _ (ne_of ekr hJ9.choose_spec.2 (fun z => nomatch z)) ekr, ?_⟩
  generalize decide (V.int xr = V.int 1) = br
  have c10 := but_fresh (o := .dT [([], V.bl br)]) (c8.trans (s9.but.trans b10)) nrH
  have nr8 : ∀ p u, G8 p = some u → p ≠ rr := fun p u e => ne_of_none e nr
  have kp : ∀ p u, p ≠ d → G8 p = some u → upd H10 rr (.dT [([], V.bl br)]) p = some u := fun p u n e => by rw [upd_ne (nr8 p u e)]; exact b10 _ _ n (s9 _ _ e)
  have eF10 := kp F _ dF eF8
  have eG10 := kp G _ dG eG8
  have hJ10 : Ints (upd H10 rr (.dT [([], V.bl br)])) d := hI10.of_but But.upd dr.symm
  have T10 : Two (upd H10 rr (.dT [([], V.bl br)])) [qa, qb, qf, qg] [rp, rq, rr] 1 := ⟨fun q hq => by
      have A := T8.fs q hq
      have A2 := A
      obtain ⟨_, e, _⟩ := A2
      exact ((A.same s9).lst b10 hJ9).keep But.upd (nr8 _ _ e), fun r hr => by
      simp only [List.mem_cons, List.not_mem_nil, or_false] at hr
      rcases hr with hr | hr | rfl
      · have A := T8.ps r (by simp [hr])
        have A2 := A
        obtain ⟨_, e, _⟩ := A2
        exact ((A.same s9).lst b10 hJ9).keep But.upd (nr8 _ _ e)
      · have A := T8.ps r (by simp [hr])
        have A2 := A
        obtain ⟨_, e, _⟩ := A2
        exact ((A.same s9).lst b10 hJ9).keep But.upd (nr8 _ _ e)
      · exact .one upd_same, fun q hq r hr => by
      simp only [List.mem_cons, List.not_mem_nil, or_false] at hr
      rcases hr with hr | hr | rfl
      · exact T8.ne q hq r (by simp [hr])
      · exact T8.ne q hq r (by simp [hr])
      · obtain ⟨_, e, _⟩ := T8.fs q hq
        exact nr8 _ _ e⟩
  generalize upd H10 rr (.dT [([], V.bl br)]) = G10 at c10 eF10 eG10 hJ10 T10
  refine ⟨eG10, [(.inr "p", .ref rp), (.inr "q", .ref rq), (.inr "r", .ref rr)], rfl, (by show 3 ≤ 15; decide), ?_⟩
  rw [ndP]
  have c11 := but_fresh (o := .dK [((.inr "p" : Key), V.ref rp), (.inr "q", .ref rq), (.inr "r", .ref rr)]) c10 nGH
  have eG11 : upd G10 G (.dK [((.inr "p" : Key), V.ref rp), (.inr "q", .ref rq), (.inr "r", .ref rr)]) G = some (.dK [((.inr "p" : Key), V.ref rp), (.inr "q", .ref rq), (.inr "r", .ref rr)]) := upd_same
  have eF11 : upd G10 G (.dK [((.inr "p" : Key), V.ref rp), (.inr "q", .ref rq), (.inr "r", .ref rr)]) F = some (.dK kF) := by rw [upd_ne dFG]; exact eF10
  have hJ11 : Ints (upd G10 G (.dK [((.inr "p" : Key), V.ref rp), (.inr "q", .ref rq), (.inr "r", .ref rr)])) d := hJ10.of_but But.upd dG.symm
  have T11 : Two (upd G10 G (.dK [((.inr "p" : Key), V.ref rp), (.inr "q", .ref rq), (.inr "r", .ref rr)])) [qa, qb, qf, qg] [rp, rq, rr] 1 := ⟨fun q hq => (T10.fs q hq).keep But.upd ((T10.fs q hq).lock eG10), fun q hq => (T10.ps q hq).keep But.upd ((T10.ps q hq).lock eG10), T10.ne⟩
  generalize hkP : ([((.inr "p" : Key), V.ref rp), (.inr "q", .ref rq), (.inr "r", .ref rr)] : List (Key × V)) = kP at c11 eF11 eG11 hJ11 T11
  generalize upd G10 G (.dK kP) = G11 at c11 eF11 eG11 hJ11 T11
  have fF : valV kF (.inr "f") = some (.ref qf) := by rw [← hkF]; exact vF
  have fG : valV kF (.inr "g") = some (.ref qg) := by rw [← hkF]; exact vG
  have pP : valV kP (.inr "p") = some (.ref rp) := by rw [← hkP]; exact vP
  have pQ : valV kP (.inr "q") = some (.ref rq) := by rw [← hkP]; exact vQ
  -- what a turn keeps
  have J : ∃ J : Nat → Hp → Prop, (∀ n X, J n X ↔ (But d H X ∧ Ints X d ∧ X F = some (.dK kF) ∧ X G = some (.dK kP) ∧ Two X [qa, qb, qf, qg] [rp, rq, rr] n)) := ⟨_, fun _ _ => Iff.rfl⟩
  obtain ⟨J, hJ⟩ := J
  have J0 : J 1 G11 := (hJ _ _).mpr ⟨c11, hJ11, eF11, eG11, T11⟩
  have Jle : ∀ {n n2 X}, J n X → n ≤ n2 → J n2 X := fun h l => by
    obtain ⟨a, b, c, e, t⟩ := (hJ _ _).mp h
    exact (hJ _ _).mpr ⟨a, b, c, e, t.le l⟩
  have Jlst : ∀ {n X Y}, J n X → But d X Y → Ints Y d → J n Y := fun h b i => by
    obtain ⟨a1, b1, c1, e1, t⟩ := (hJ _ _).mp h
    exact (hJ _ _).mpr ⟨a1.trans b, i, b _ _ dF c1, b _ _ dG e1, t.lst b b1⟩
  have Jsame : ∀ {n X Y}, J n X → Same X Y → J n Y := fun h b => by
    obtain ⟨a1, b1, c1, e1, t⟩ := (hJ _ _).mp h
    exact (hJ _ _).mpr ⟨a1.trans b.but, b1.same b, b _ _ c1, b _ _ e1, t.same b⟩
  have fresh : ∀ q, q = qf ∨ q = qg ∨ q = rp ∨ q = rq → H q = none ∧ q ≠ d := fun q h => by
    rcases h with rfl | rfl | rfl | rfl
    · exact ⟨nfH, hJ5.ne nf⟩
    · exact ⟨ngH, (hJ5.same (same_new nf (.dT []))).ne ng⟩
    · exact ⟨npH, hJ7.ne np7⟩
    · exact ⟨nqH, hJ7.ne nq7⟩
  have JF : ∀ {n X q}, J n X → (q = qf ∨ q = qg) → n ≤ 100 → ∀ (b : Addr) (k : List Key) (x : Int), X b = some (.tup (k.map kV)) → ∃ Y, DPut X q (.ref b) (.int x) Y ∧ J (n + 1) Y := fun {n X q} h hq hn b k x eb => by
    obtain ⟨a1, b1, c1, e1, t⟩ := (hJ _ _).mp h
    obtain ⟨rows, er, lr, t2⟩ := t.putF (q := q) (by rcases hq with rfl | rfl <;> simp) k x
    obtain ⟨fq, dq⟩ := fresh q (by rcases hq with h | h <;> simp [h])
    have A := t.fs q (by rcases hq with rfl | rfl <;> simp)
    exact ⟨_, DPut.t er eb (small6' (by omega)), (hJ _ _).mpr ⟨but_fresh a1 fq, b1.of_but But.upd dq.symm, by rw [upd_ne (A.lock c1).symm]; exact c1, by rw [upd_ne (A.lock e1).symm]; exact e1, t2⟩⟩
  have JP : ∀ {n X q}, J n X → (q = rp ∨ q = rq) → n ≤ 100 → ∀ (b : Addr) (k : List Key) (x : Bool), X b = some (.tup (k.map kV)) → ∃ Y, DPut X q (.ref b) (.bl x) Y ∧ J (n + 1) Y := fun {n X q} h hq hn b k x eb => by
    obtain ⟨a1, b1, c1, e1, t⟩ := (hJ _ _).mp h
    obtain ⟨rows, er, lr, t2⟩ := t.putP (r := q) (by rcases hq with rfl | rfl <;> simp) k x
    obtain ⟨fq, dq⟩ := fresh q (by rcases hq with h | h <;> simp [h])
    have A := t.ps q (by rcases hq with rfl | rfl <;> simp)
    exact ⟨_, DPut.t er eb (small6' (by omega)), (hJ _ _).mpr ⟨but_fresh a1 fq, b1.of_but But.upd dq.symm, by rw [upd_ne (A.lock c1).symm]; exact c1, by rw [upd_ne (A.lock e1).symm]; exact e1, t2⟩⟩
  have JI : ∀ {n X}, J n X → Ints X d := fun h => ((hJ _ _).mp h).2.1
  have JEF : ∀ {n X}, J n X → X F = some (.dK kF) := fun h => ((hJ _ _).mp h).2.2.1
  have JEG : ∀ {n X}, J n X → X G = some (.dK kP) := fun h => ((hJ _ _).mp h).2.2.2.1
  refine ⟨_, rfl, m, rfl, by omega, by omega, for_range (lo := 0) (n := m) (fun i σ X => ∃ y4 y5, σ = [some (.ref d), some (.int m), some (.ref F), some (.ref G), y4, y5] ∧ J (1 + 10 * i) X) ⟨none, none, rfl, J0⟩ (fun i σ X hi h => ?_) (fun σ X h => ?_)⟩
  · obtain ⟨y4, y5, rfl, hj⟩ := h
    have hi : i < m := hi
    refine ⟨_, rfl, _, rfl, d, m, rfl, JI hj, mp, fun x1 X1 _ _ b1 i1 => ?_⟩
    have j1 := Jlst hj b1 i1
    refine ⟨.ref F, rfl, F, .ref qf, rfl, DGet.of (k := .inr "f") (JEF j1) fF, _, rfl, by show 1 ≤ sizeLine; decide, fun k1 nk1 => ?_⟩
    obtain ⟨Y1, p1, jy1⟩ := JF (Jsame j1 (same_new nk1 (.tup [.int (0 + (i : Int))]))) (.inl rfl) (by omega) k1 [.inl (0 + (i : Int))] x1 upd_same
    refine ⟨qf, Y1, rfl, p1, ?_⟩
    refine ⟨_, rfl, d, 2, rfl, JI jy1, by decide, fun x2 X2 _ _ b2 i2 => ⟨rfl, ?_⟩⟩
    have j2 := Jlst jy1 b2 i2
    refine ⟨.ref G, rfl, G, .ref rp, rfl, DGet.of (k := .inr "p") (JEG j2) pP, _, rfl, by show 1 ≤ sizeLine; decide, fun k2 nk2 => ?_⟩
    obtain ⟨Y2, p2, jy2⟩ := JP (Jsame j2 (same_new nk2 (.tup [.int (0 + (i : Int))]))) (.inl rfl) (by omega) k2 [.inl (0 + (i : Int))] _ upd_same
    refine ⟨rp, Y2, rfl, p2, ?_⟩
    refine ⟨_, rfl, m, rfl, by omega, by omega, for_range (lo := 0) (n := m) (fun j σ X => ∃ y5, σ = [some (.ref d), some (.int m), some (.ref F), some (.ref G), some (.int (0 + (i : Int))), y5] ∧ J (3 + 10 * i + 2 * j) X) ⟨y5, rfl, Jle jy2 (by omega)⟩ (fun j σ X hj h => ?_) (fun σ X h => ?_)⟩
    · obtain ⟨y5, rfl, hj2⟩ := h
      have hj : j < m := hj
      refine ⟨_, rfl, _, rfl, d, m, rfl, JI hj2, mp, fun x3 X3 _ _ b3 i3 => ?_⟩
      have j3 := Jlst hj2 b3 i3
      refine ⟨.ref F, rfl, F, .ref qg, rfl, DGet.of (k := .inr "g") (JEF j3) fG, _, rfl, _, rfl, by show 2 ≤ sizeLine; decide, fun k3 nk3 => ?_⟩
      obtain ⟨Y3, p3, jy3⟩ := JF (Jsame j3 (same_new nk3 (.tup [.int (0 + (i : Int)), .int (0 + (j : Int))]))) (.inr rfl) (by omega) k3 [.inl (0 + (i : Int)), .inl (0 + (j : Int))] x3 upd_same
      refine ⟨qg, Y3, rfl, p3, ?_⟩
      refine ⟨_, rfl, d, 2, rfl, JI jy3, by decide, fun x4 X4 _ _ b4 i4 => ⟨rfl, ?_⟩⟩
      have j4 := Jlst jy3 b4 i4
      refine ⟨.ref G, rfl, G, .ref rq, rfl, DGet.of (k := .inr "q") (JEG j4) pQ, _, rfl, _, rfl, by show 2 ≤ sizeLine; decide, fun k4 nk4 => ?_⟩
      obtain ⟨Y4, p4, jy4⟩ := JP (Jsame j4 (same_new nk4 (.tup [.int (0 + (i : Int)), .int (0 + (j : Int))]))) (.inr rfl) (by omega) k4 [.inl (0 + (i : Int)), .inl (0 + (j : Int))] _ upd_same
      exact ⟨rq, Y4, rfl, p4, _, rfl, Jle jy4 (by omega)⟩
    · obtain ⟨y5, rfl, hj2⟩ := h
      exact ⟨_, _, rfl, Jle hj2 (by omega)⟩
  · obtain ⟨y4, y5, rfl, hj⟩ := h
    refine ⟨_, rfl, _, rfl, _, rfl, by show 3 ≤ sizeLine; decide, fun T nT => ?_⟩
    have s12 := same_new nT (.tup [.int m, .ref F, .ref G])
    have hj2 := Jsame hj s12
    obtain ⟨a1, b1, c1, e1, t⟩ := (hJ _ _).mp hj2
    obtain ⟨fn, hfn⟩ := fns_mk (emb := V.int) 0 c1 (fun x hx => by
      rw [← hkF] at hx
      simp only [List.mem_cons, List.not_mem_nil, or_false] at hx
      rcases hx with rfl | rfl | rfl | rfl
      · exact ⟨qa, _, rfl, t.fs qa (by simp)⟩
      · exact ⟨qb, _, rfl, t.fs qb (by simp)⟩
      · exact ⟨qf, _, rfl, t.fs qf (by simp)⟩
      · exact ⟨qg, _, rfl, t.fs qg (by simp)⟩)
    obtain ⟨pr, hpr⟩ := fns_mk (emb := V.bl) false e1 (fun x hx => by
      rw [← hkP] at hx
      simp only [List.mem_cons, List.not_mem_nil, or_false] at hx
      rcases hx with rfl | rfl | rfl
      · exact ⟨rp, _, rfl, t.ps rp (by simp)⟩
      · exact ⟨rq, _, rfl, t.ps rq (by simp)⟩
      · exact ⟨rr, _, rfl, t.ps rr (by simp)⟩)
    exact q T ⟨m, fn, pr⟩ _ a1 b1 ⟨F, G, upd_same, hfn, hpr⟩ m1 m3
end
section
variable {P : Program} {w : World} {K : PySem.W.Frag} {mg : Str → Option Value} {base : Heap}
theorem kv_ints (vs : List Int) : (vs.map (Sum.inl : Int → Key)).map kV = vs.map V.int := by rw [List.map_map]; rfl
theorem get2 {H : Hp} {F b p4 : Addr} {α : Type} {emb : α → V} {z : α} {fn : Str → List Int → α} (hF : FnsAt H F emb z fn) (f : Str) (vs : List Int) (eb : H b = some (.tup (vs.map V.int))) (np : H p4 = none) {Q : VK} (q : Q (emb (fn f vs)) (upd H p4 (.dT []))) :
    ∃ o, DGet (upd H p4 (.dT [])) F (.str f) o ∧ ∃ a, o.getD (.ref p4) = .ref a ∧ IsD (upd H p4 (.dT [])) a ∧ ∃ v, (some (some (.ref b)) : Option (Option V)) = some (some v) ∧ ∃ o2, DGet (upd H p4 (.dT [])) a v o2 ∧ Q (o2.getD (emb z)) (upd H p4 (.dT [])) := by
  obtain ⟨kvs, e, al⟩ := hF
  have s := same_new np (.dT [])
  have eb2 : upd H p4 (.dT []) b = some (.tup ((vs.map (Sum.inl : Int → Key)).map kV)) := by rw [kv_ints]; exact s _ _ eb
  have e4 : upd H p4 (.dT []) p4 = some (.dT []) := upd_same
  rcases al f vs with ⟨h1, h2⟩ | ⟨q0, rows, h1, h2, h3⟩
  · refine ⟨none, by rw [← h1]; exact DGet.k (k := .inr f) (s _ _ e), p4, rfl, .inr ⟨[], .inl e4⟩, _, rfl, none, by rw [← valV_nil (k := vs.map (Sum.inl : Int → Key))]; exact DGet.t e4 eb2, ?_⟩
    rw [h2] at q
    exact q
  · refine ⟨some (.ref q0), by rw [← h1]; exact DGet.k (k := .inr f) (s _ _ e), q0, rfl, .inr ⟨rows, .inl (s _ _ h2)⟩, _, rfl, ?_⟩
    rcases h3 with ⟨h3, h4⟩ | h3
    · refine ⟨none, by rw [← h3]; exact DGet.t (s _ _ h2) eb2, ?_⟩
      rw [h4] at q
      exact q
    · exact ⟨some _, by rw [← h3]; exact DGet.t (s _ _ h2) eb2, q⟩
theorem isD_k {H : Hp} {F p4 : Addr} {α : Type} {emb : α → V} {z : α} {fn : Str → List Int → α} (hF : FnsAt H F emb z fn) : IsD H F := by
  obtain ⟨kvs, e, _⟩ := hF
  exact .inl ⟨kvs, .inl e⟩
def spVal (n : Nat) : Sp := fun vs H Q _ => ∃ (NM : List Str) (v : V) (F kd : Addr) (t : Ter) (M : Mdl) (ρ : Str → Int), vs = [v, .ref F, .ref kd] ∧ TmAt H v t ∧ FnsAt H F V.int 0 M.fn ∧ KnS H kd NM ρ ∧ t.wf sym20 (nam20 NM) ∧ t.nest < n ∧ ∀ H', Same H H' → Q (.int (t.val M ρ)) H'
theorem sc_value : FnScope ["term", "functions", "known", "values", "part"] ["term", "functions", "known"] (defScope s__law_value) := ⟨rfl, rfl, rfl, by decide +kernel, rfl, by decide +kernel, by decide +kernel⟩
theorem ok_value1 {f : Addr} {fd : FuncData} (D : Df K mg "_law_value" s__law_value ["term", "functions", "known"] f fd) (m_isinstance : mg "isinstance" = none) (m_tuple : mg "tuple" = none) {n : Nat}
    (G : FnOk P w K mg base CX0 (n + 1) f fd ["term", "functions", "known"] (spVal n)) : FnOk P w K mg base CX0 (n + 1 + 1) f fd ["term", "functions", "known"] (spVal (n + 1)) := by
  refine D.F.ok sc_value (fun vs H Q E h => ?_) (fun cdv A outer s H vs Q E hr h => ?_)
  · obtain ⟨NM, v, F, kd, t, M, ρ, rfl, _⟩ := h; rfl
  obtain ⟨NM, v, F, kd, t, M, ρ, rfl, ht, hF, hk, hw, hn, q⟩ := h
  have nd := sc_value.nd
  refine ⟨_, (pss_cons (ps_if (pt_not (pt_val (pe_callB call_isiTer (by rfl) m_isinstance (by decide +kernel) (pa_cons (pv 0) (pa_cons (pe_bltn (v := .ty "tuple") (by rfl) m_tuple (by decide +kernel) rfl) pa_nil)))))
      (pss_one (ps_ret (pe_dget (hu_of hr) (pv 2) (pv 0) (fun _ _ => rfl))))
      pss_nil)
    (pss_cons (ps_set (i := 3) nd rfl (.inl rfl) (pe_callTy call_tuple_of (by rfl) m_tuple (by decide +kernel) (pa_cons (pe_lc (own := [("part", 4)]) (g := gName 4) (tt := tYes) (te := tCall (spVal n) [] E0 (tCons (tVar 4) (tCons (tVar 1) (tCons (tVar 2) tNil)))) rfl nd (pi_tup (pe_slice sl_1 (pv 0) (po_some pe_int) po_none)) (blkOk_by (N := ["term","functions","known","values","part"]) (sc := defScope s__law_value) (by decide +kernel)) (fun _ _ _ _ _ => pg_name (i := 4) nd rfl (Or.inl rfl)) (fun _ _ _ _ _ => pts_nil) (fun _ _ _ _ _ => pe_call G hr (by rfl) D.m D.F.kp D.b .nil pass0 (pa_cons (pv 4) (pa_cons (pv 1) (pa_cons (pv 2) pa_nil))))) pa_nil)))
    (pss_one (ps_ret (pe_dget2 (hu_of hr) (pe_dget2 (hu_of hr) (pv 1) (pe_ix ix_tup (pv 0) pe_int (fun _ _ => rfl)) pe_dnewT ⟨rfl, rfl, rfl, rfl⟩) (pv 3) pe_int ⟨rfl, rfl, rfl, rfl⟩))))), ?_⟩
  refine ⟨v, rfl, v, t, rfl, ht, _, rfl, ?_⟩
  cases ht with
  | int i => obtain ⟨x, e, _⟩ := hw; cases e
  | str x =>
    obtain ⟨y, e, hx⟩ := hw
    cases e
    obtain ⟨kvs, ek, lk, al⟩ := hk
    exact iteT ⟨_, rfl, _, rfl, kd, .int (ρ x), rfl, DGet.of (k := .inr x) ek (al x hx), q H (Same.refl _)⟩
  | @ap p g xs as e hs =>
    refine iteF ?_
    have ls := hs.len
    have hn : Ter.nests as + 1 < n + 1 := hn
    have l2 : as.length ≤ 2 := by
      rcases hw.1 with ⟨_, z⟩ | ⟨_, z⟩ | ⟨_, z⟩ | ⟨_, z⟩ <;> omega
    refine ⟨.ref p, rfl, 1, rfl, p, .str g, xs, rfl, rfl, rfl, .inl (.inl e), fun p2 np2 => ?_⟩
    have s2 := same_new np2 (.tup xs)
    refine ⟨p2, rfl, ⟨xs, .inl (.inl upd_same)⟩, fun d nd' => ?_⟩
    refine walk_t (xs := xs) (fun i H2 => Same (upd H p2 (.tup xs)) H2 ∧ H2 d = some (.lst ((Ter.vals M ρ (as.take i)).map V.int))) ⟨same_new nd' _, upd_same⟩ (fun i H2 _ h => .inl (.inl (h.1 _ _ upd_same))) (fun i x H2 hx h => ?_) (fun H2 h => ?_)
    · obtain ⟨sm, ed⟩ := h
      obtain ⟨t1, et, hx1⟩ := hs.get hx
      have sa := s2.trans sm
      have n1 := nest_le_of et
      have li : i < as.length := (List.getElem?_eq_some_iff.mp et).1
      refine ⟨rfl, ?_⟩
      refine ⟨_, rfl, _, rfl, _, rfl, NM, x, F, kd, t1, M, ρ, rfl, TmAt.mono sa.tups _ _ hx1, hF.same sa, hk.same sa, wfs_get hw.2 et, by omega, fun H3 s3 => ?_⟩
      have ed3 := s3 _ _ ed
      refine ⟨_, ed3, small6' (by rw [List.length_map, vals_len, List.length_take]; omega), But.same nd' (sm.trans s3) But.upd, ?_⟩
      rw [upd_same, List.take_add_one, et, vals_app, List.map_append]
      rfl
    · obtain ⟨sm, ed⟩ := h
      rw [ls, List.take_length] at ed
      refine ⟨d, _, rfl, .inl ⟨.inl (.inl ed), fun p3 np3 => ?_⟩⟩
      have s3 := same_new np3 (.tup ((Ter.vals M ρ as).map V.int))
      have sa := s2.trans (sm.trans s3)
      refine ⟨_, rfl, F, rfl, isD_k (p4 := 0) (hF.same sa), _, rfl, p, _, 0, .str g, rfl, rfl, .inl (.inl (sa _ _ e)), head_at, fun p4 np4 => ?_⟩
      exact get2 (hF.same sa) g _ upd_same np4 (q _ (sa.trans (same_new np4 _)))
theorem ok_value {f : Addr} {fd : FuncData} (D : Df K mg "_law_value" s__law_value ["term", "functions", "known"] f fd) (m_isinstance : mg "isinstance" = none) (m_tuple : mg "tuple" = none) : ∀ n : Nat, FnOk P w K mg base CX0 (n + 1) f fd ["term", "functions", "known"] (spVal n)
  | 0 => by
    have no : ∀ vs H Q E, ¬ spVal 0 vs H Q E := fun vs H Q E h => by
      obtain ⟨_, _, _, _, _, _, _, _, _, _, _, _, hk, _⟩ := h
      omega
    exact ⟨fun vs H Q E h => absurd h (no vs H Q E), fun A outer s H args us vs Q E _ _ _ _ h => absurd h (no vs H Q E)⟩
  | n + 1 => ok_value1 D m_isinstance m_tuple (ok_value D m_isinstance m_tuple n)
def spEqH : Sp := fun vs H Q _ => ∃ (NM : List Str) (x y : V) (T kd : Addr) (l r : Ter) (M : Mdl) (ρ : Str → Int), vs = [x, y, .ref T, .ref kd] ∧ TmAt H x l ∧ TmAt H y r ∧ TabAt H T M ∧ KnS H kd NM ρ ∧ (∀ x ∈ NM, okS x) ∧ atom20 NM l r ∧ l.nest ≤ 3 ∧ r.nest ≤ 3 ∧ ∀ H', Same H H' → Q (.bl (eqHolds M ρ l r)) H'
theorem sc_eqh : FnScope ["left", "right", "tables", "known", "values", "part"] ["left", "right", "tables", "known"] (defScope s__law_equal_holds) := ⟨rfl, rfl, rfl, by decide +kernel, rfl, by decide +kernel, by decide +kernel⟩
theorem ok_eqh {f fV : Addr} {fd dV : FuncData} (D : Df K mg "_law_equal_holds" s__law_equal_holds ["left", "right", "tables", "known"] f fd) (DV : Df K mg "_law_value" s__law_value ["term", "functions", "known"] fV dV)
    (GV : FnOk P w K mg base CX0 5 fV dV ["term", "functions", "known"] (spVal 4)) (m_tuple : mg "tuple" = none) : FnOk P w K mg base CX0 6 f fd ["left", "right", "tables", "known"] (spEqH) := by
  refine D.F.ok sc_eqh (fun vs H Q E h => ?_) (fun cdv A outer s H vs Q E hr h => ?_)
  · obtain ⟨NM, x, y, T, kd, l, r, M, ρ, rfl, _⟩ := h; rfl
  obtain ⟨NM, x, y, T, kd, l, r, M, ρ, rfl, hl, hrr, hT, hk, hN, ha, n1, n2, q⟩ := h
  have nd := sc_eqh.nd
  refine ⟨_, (pss_cons (ps_if (pt_cmpR (op_eqD hr.units) (pv 1) (pe_tup (pa_cons pe_str pa_nil)) (nomark _))
      (pss_cons (ps_if (pt_cmpR (op_eqD hr.units) (pv 0) (pe_tup (pa_cons pe_str pa_nil)) (nomark _))
      (pss_one (ps_ret pe_bl))
      pss_nil)
    (pss_cons (ps_set (i := 4) nd rfl (.inl rfl) (pe_callTy call_tuple_of (by rfl) m_tuple (by decide +kernel) (pa_cons (pe_lc (own := [("part", 5)]) (g := gName 5) (tt := tYes) (te := tCall (spVal 4) [] E0 (tCons (tVar 5) (tCons (tOp (rIxT K) (tVar 2) (tC (.int 1))) (tCons (tVar 3) tNil)))) rfl nd (pi_tup (pe_slice sl_1 (pv 0) (po_some pe_int) po_none)) (blkOk_by (N := ["left","right","tables","known","values","part"]) (sc := defScope s__law_equal_holds) (by decide +kernel)) (fun _ _ _ _ _ => pg_name (i := 5) nd rfl (Or.inl rfl)) (fun _ _ _ _ _ => pts_nil) (fun _ _ _ _ _ => pe_call GV hr (by rfl) DV.m DV.F.kp DV.b .nil pass0 (pa_cons (pv 5) (pa_cons (pe_ix ix_tup (pv 2) pe_int (fun _ _ => rfl)) (pa_cons (pv 3) pa_nil))))) pa_nil)))
    (pss_one (ps_ret (pe_dget2 (hu_of hr) (pe_dget2 (hu_of hr) (pe_ix ix_tup (pv 2) pe_int (fun _ _ => rfl)) (pe_ix ix_tup (pv 0) pe_int (fun _ _ => rfl)) pe_dnewT ⟨rfl, rfl, rfl, rfl⟩) (pv 4) pe_bl ⟨rfl, rfl, rfl, rfl⟩)))))
      pss_nil)
    (pss_one (ps_ret (pe_cmpR op_eq (pe_call GV hr (by rfl) DV.m DV.F.kp DV.b .nil pass0 (pa_cons (pv 0) (pa_cons (pe_ix ix_tup (pv 2) pe_int (fun _ _ => rfl)) (pa_cons (pv 3) pa_nil)))) (pe_call GV hr (by rfl) DV.m DV.F.kp DV.b .nil pass0 (pa_cons (pv 1) (pa_cons (pe_ix ix_tup (pv 2) pe_int (fun _ _ => rfl)) (pa_cons (pv 3) pa_nil)))) (nomark _))))), ?_⟩
  obtain ⟨fl, fr⟩ := atom20_fine hN ha
  refine ⟨_, rfl, by show 1 ≤ sizeLine; decide, fun p1 np1 => ?_⟩
  have s1 := same_new np1 (.tup [.str "true"])
  refine ⟨r.dat, trueT.dat, dp_ter r y (TmAt.mono s1.tups _ _ hrr), .tup (.inl (.inl upd_same)) (.cons (.str "true") .nil), shaped_ter fr (by omega), by decide +kernel, _, rfl, ?_⟩
  rw [isTr_eq]
  unfold eqHolds at q
  rcases ha with ⟨wl, wr⟩ | ⟨g, as, rfl, hf, hw, rfl⟩
  · rw [isTr_wf wr] at q ⊢
    refine iteF ?_
    obtain ⟨F, Gp, eT, hF, hG⟩ := hT.same s1
    refine ⟨_, rfl, _, rfl, T, _, 1, _, rfl, rfl, .inl (.inl eT), at_1, _, rfl, NM, x, F, kd, l, M, ρ, rfl, TmAt.mono s1.tups _ _ hl, hF, hk.same s1, wl, by omega, fun H2 s2 => ?_⟩
    refine ⟨_, rfl, _, rfl, T, _, 1, _, rfl, rfl, .inl (.inl (s2 _ _ eT)), at_1, _, rfl, NM, y, F, kd, r, M, ρ, rfl, TmAt.mono (s1.trans s2).tups _ _ hrr, hF.same s2, hk.same (s1.trans s2), wr, by omega, fun H3 s3 => ⟨rfl, ?_⟩⟩
    have e : decide (V.int (l.val M ρ) = V.int (r.val M ρ)) = decide (l.val M ρ = r.val M ρ) := by
      by_cases c : l.val M ρ = r.val M ρ
      · rw [decide_eq_true c, decide_eq_true (congrArg V.int c)]
      · rw [decide_eq_false c, decide_eq_false (fun z => c (V.int.inj z))]
    rw [e]
    exact q H3 (s1.trans (s2.trans s3))
  · have tt : isTr (.ap "true" []) = true := by decide +kernel
    rw [tt] at q ⊢
    refine iteT ?_
    refine ⟨_, rfl, by show 1 ≤ sizeLine; decide, fun p2 np2 => ?_⟩
    have s2 := s1.trans (same_new np2 (.tup [.str "true"]))
    have hl2 := TmAt.mono s2.tups _ _ hl
    refine ⟨_, trueT.dat, dp_ter _ x hl2, .tup (.inl (.inl upd_same)) (.cons (.str "true") .nil), shaped_ter fl (by omega), by decide +kernel, _, rfl, ?_⟩
    rw [isTr_eq, isTr_pred hf]
    refine iteF ?_
    have hT2 := hT.same s2
    have hk2 := hk.same s2
    generalize upd (upd H p1 (.tup [.str "true"])) p2 (.tup [.str "true"]) = H2 at s2 hl2 hT2 hk2
    cases hl2 with
    | @ap p g xs as e hs =>
    have ls := hs.len
    have hn : Ter.nests as + 1 ≤ 3 := n1
    have l2 : as.length ≤ 2 := by
      rcases hf with ⟨_, z⟩ | ⟨_, z⟩ | ⟨_, z⟩ <;> omega
    obtain ⟨F, Gp, eT, hF, hG⟩ := hT2
    refine ⟨.ref p, rfl, 1, rfl, p, .str g, xs, rfl, rfl, rfl, .inl (.inl e), fun p3 np3 => ?_⟩
    have s3 := same_new np3 (.tup xs)
    refine ⟨p3, rfl, ⟨xs, .inl (.inl upd_same)⟩, fun d nd' => ?_⟩
    refine walk_t (xs := xs) (fun i H4 => Same (upd H2 p3 (.tup xs)) H4 ∧ H4 d = some (.lst ((Ter.vals M ρ (as.take i)).map V.int))) ⟨same_new nd' _, upd_same⟩ (fun i H4 _ h => .inl (.inl (h.1 _ _ upd_same))) (fun i x H4 hx h => ?_) (fun H4 h => ?_)
    · obtain ⟨sm, ed⟩ := h
      obtain ⟨t1, et, hx1⟩ := hs.get hx
      have sa := s3.trans sm
      have n1 := nest_le_of et
      have li : i < as.length := (List.getElem?_eq_some_iff.mp et).1
      refine ⟨rfl, ?_⟩
      refine ⟨_, rfl, _, rfl, T, _, 1, _, rfl, rfl, .inl (.inl (sa _ _ eT)), at_1, _, rfl, NM, x, F, kd, t1, M, ρ, rfl, TmAt.mono sa.tups _ _ hx1, hF.same sa, hk2.same sa, wfs_get hw et, by omega, fun H5 s5 => ?_⟩
      have ed5 := s5 _ _ ed
      refine ⟨_, ed5, small6' (by rw [List.length_map, vals_len, List.length_take]; omega), But.same nd' (sm.trans s5) But.upd, ?_⟩
      rw [upd_same, List.take_add_one, et, vals_app, List.map_append]
      rfl
    · obtain ⟨sm, ed⟩ := h
      rw [ls, List.take_length] at ed
      refine ⟨d, _, rfl, .inl ⟨.inl (.inl ed), fun p5 np5 => ?_⟩⟩
      have s5 := same_new np5 (.tup ((Ter.vals M ρ as).map V.int))
      have sa := s3.trans (sm.trans s5)
      refine ⟨_, rfl, T, _, 2, _, rfl, rfl, .inl (.inl (sa _ _ eT)), at_2, Gp, rfl, isD_k (p4 := 0) (hG.same sa), _, rfl, p, _, 0, .str g, rfl, rfl, .inl (.inl (sa _ _ e)), head_at, fun p6 np6 => ?_⟩
      exact get2 (hG.same sa) g _ upd_same np6 (q _ (s2.trans (sa.trans (same_new np6 _))))
def spWith : Sp := fun vs H Q _ => ∃ (kd : Addr) (x : Str) (y : V) (kvs : List (Key × V)), vs = [.ref kd, .str x, y] ∧ H kd = some (.dK kvs) ∧ kvs.length ≤ 1000 ∧ ∀ p H', Same H H' → H' p = some (.dK (putK kvs (.inr x) y)) → Q (.ref p) H'
theorem sc_with : FnScope ["known", "name", "element", "wider"] ["known", "name", "element"] (defScope s__law_with) := ⟨rfl, rfl, rfl, by decide +kernel, rfl, by decide +kernel, by decide +kernel⟩
theorem ok_with {f : Addr} {fd : FuncData} (D : Df K mg "_law_with" s__law_with ["known", "name", "element"] f fd) (m_dict : mg "dict" = none) : FnOk P w K mg base CX0 1 f fd ["known", "name", "element"] spWith := by
  refine D.F.ok sc_with (fun vs H Q E h => ?_) (fun cdv A outer s H vs Q E hr h => ?_)
  · obtain ⟨kd, x, i, ρ, rfl, _⟩ := h; rfl
  obtain ⟨kd, x, i, kvs, rfl, ek, lk, q⟩ := h
  have nd := sc_with.nd
  refine ⟨_, (pss_cons (ps_set (i := 3) nd rfl (.inl rfl) (pe_callTy call_dictD (by rfl) m_dict (by decide +kernel) (pa_cons (pv 0) pa_nil)))
    (pss_cons (ps_dput (hu_of hr) (pv 3) (pv 1) (pv 2) rfl)
    (pss_one (ps_ret (pv 3))))), ?_⟩
  refine ⟨_, rfl, kd, kvs, rfl, .inl ek, fun p np => ?_⟩
  refine ⟨_, rfl, _, rfl, .str x, rfl, p, _, rfl, DPut.k (k := .inr x) upd_same (small6' (by omega)), _, rfl, ?_⟩
  exact q p _ (fun c o e => by rw [upd_ne (ne_of_none e np), upd_ne (ne_of_none e np)]; exact e) upd_same
def spTr (n : Nat) : Sp := fun vs H Q _ => ∃ (NM : List Str) (v : V) (T kd : Addr) (φ : Fm) (M : Mdl) (ρ : Str → Int), vs = [v, .ref T, .ref kd] ∧ TmAt H v φ.ter ∧ TabAt H T M ∧ M.sz ≤ 3 ∧ KnS H kd NM ρ ∧ (∀ x ∈ NM, okS x) ∧ NM.length + φ.high ≤ 100 ∧ fmS NM φ ∧ φ.qs okS ∧ φ.high < n ∧ ∀ H', Same H H' → Q (.bl (φ.truth M ρ)) H'
theorem sc_truth : FnScope ["formula", "tables", "known", "kind", "element", "first", "second"] ["formula", "tables", "known"] (defScope s__law_truth) := ⟨rfl, rfl, rfl, by decide +kernel, rfl, by decide +kernel, by decide +kernel⟩
theorem eqB {b c : Bool} : decide (V.bl b = V.bl c) = (b == c) := by cases b <;> cases c <;> rfl
theorem eqSt {a b : Str} : decide (V.str a = V.str b) = (a == b) := by
  by_cases c : a = b
  · rw [decide_eq_true (congrArg V.str c), c]; exact (beq_self_eq_true b).symm
  · rw [decide_eq_false (fun z => c (V.str.inj z))]; exact (beq_eq_false_iff_ne.mpr c).symm
theorem qu_hit {M : Mdl} {ρ : Str → Int} {b : Bool} {y : Str} {g : Fm} {j : Nat} (hj : j < M.sz) (h : g.truth M (wider ρ y j) = !b) : (Fm.qu b y g).truth M ρ = !b := by
  cases b
  · exact List.any_eq_true.mpr ⟨j, List.mem_range.mpr hj, h⟩
  · exact List.all_eq_false.mpr ⟨j, List.mem_range.mpr hj, by rw [h]; decide⟩
theorem qu_end {M : Mdl} {ρ : Str → Int} {b : Bool} {y : Str} {g : Fm} (h : ∀ j : Nat, j < M.sz → g.truth M (wider ρ y j) = b) : (Fm.qu b y g).truth M ρ = b := by
  cases b
  · exact List.any_eq_false.mpr fun j hj => by rw [h j (List.mem_range.mp hj)]; decide
  · exact List.all_eq_true.mpr fun j hj => h j (List.mem_range.mp hj)
theorem ok_truth1 {f fE fW : Addr} {fd dE dW : FuncData} (D : Df K mg "_law_truth" s__law_truth ["formula", "tables", "known"] f fd) (DE : Df K mg "_law_equal_holds" s__law_equal_holds ["left", "right", "tables", "known"] fE dE) (GE : FnOk P w K mg base CX0 6 fE dE ["left", "right", "tables", "known"] (spEqH))
    (DW : Df K mg "_law_with" s__law_with ["known", "name", "element"] fW dW) (GW : FnOk P w K mg base CX0 1 fW dW ["known", "name", "element"] (spWith)) (m_range : mg "range" = none) {n : Nat}
    (G : FnOk P w K mg base CX0 (n + 6) f fd ["formula", "tables", "known"] (spTr n)) : FnOk P w K mg base CX0 (n + 1 + 6) f fd ["formula", "tables", "known"] (spTr (n + 1)) := by
  refine D.F.ok sc_truth (fun vs H Q E h => ?_) (fun cdv A outer s H vs Q E hr h => ?_)
  · obtain ⟨NM, v, T, kd, φ, M, ρ, rfl, _⟩ := h; rfl
  obtain ⟨NM, v, T, kd, φ, M, ρ, rfl, hv, hT, hz, hk, hN, hl, hw, hq, hn, q⟩ := h
  have nd := sc_truth.nd
  have r1 : Room 1 _ := hr.mono (by omega)
  have r5 : Room 6 _ := hr.mono (by omega)
  refine ⟨_, (pss_cons (ps_set (i := 3) nd rfl (.inl rfl) (pe_ix ix_tup (pv 0) pe_int (fun _ _ => rfl)))
    (pss_cons (ps_if (PW.pt (pw_or (pt_cmpR op_eq (pv 3) pe_str (nomark _)) (pw_or1 (pt_cmpR op_eq (pv 3) pe_str (nomark _)))))
      (pss_one (ps_ret (pe_cmpR op_eq (pv 3) pe_str (nomark _))))
      pss_nil)
    (pss_cons (ps_if (pt_cmpR op_eq (pv 3) pe_str (nomark _))
      (pss_one (ps_ret (pe_call GE r5 (by rfl) DE.m DE.F.kp DE.b .nil pass0 (pa_cons (pe_ix ix_tup (pv 0) pe_int (fun _ _ => rfl)) (pa_cons (pe_ix ix_tup (pv 0) pe_int (fun _ _ => rfl)) (pa_cons (pv 1) (pa_cons (pv 2) pa_nil)))))))
      pss_nil)
    (pss_cons (ps_if (pt_cmpR op_eq (pv 3) pe_str (nomark _))
      (pss_one (ps_ret (pe_not (pe_call G hr (by rfl) D.m D.F.kp D.b .nil pass0 (pa_cons (pe_ix ix_tup (pv 0) pe_int (fun _ _ => rfl)) (pa_cons (pv 1) (pa_cons (pv 2) pa_nil)))))))
      pss_nil)
    (pss_cons (ps_if (PW.pt (pw_or (pt_cmpR op_eq (pv 3) pe_str (nomark _)) (pw_or1 (pt_cmpR op_eq (pv 3) pe_str (nomark _)))))
      (pss_cons (ps_for PassesOwn.never rfl (pi_range1 (by rfl) m_range (pa_cons (pe_ix ix_tup (pv 1) pe_int (fun _ _ => rfl)) pa_nil)) (pg_name (i := 4) nd rfl (.inl rfl))
      (pss_one (ps_if (pt_cmpR op_eq (pe_call G hr (by rfl) D.m D.F.kp D.b .nil pass0 (pa_cons (pe_ix ix_tup (pv 0) pe_int (fun _ _ => rfl)) (pa_cons (pv 1) (pa_cons (pe_call GW r1 (by rfl) DW.m DW.F.kp DW.b .nil pass0 (pa_cons (pv 2) (pa_cons (pe_ix ix_tup (pv 0) pe_int (fun _ _ => rfl)) (pa_cons (pv 4) pa_nil)))) pa_nil)))) (pe_cmpR op_eq (pv 3) pe_str (nomark _)) (nomark _))
      (pss_one (ps_ret (pe_cmpR op_eq (pv 3) pe_str (nomark _))))
      pss_nil)))
    (pss_one (ps_ret (pe_cmpR op_eq (pv 3) pe_str (nomark _)))))
      pss_nil)
    (pss_cons (ps_set (i := 5) nd rfl (.inl rfl) (pe_call G hr (by rfl) D.m D.F.kp D.b .nil pass0 (pa_cons (pe_ix ix_tup (pv 0) pe_int (fun _ _ => rfl)) (pa_cons (pv 1) (pa_cons (pv 2) pa_nil)))))
    (pss_cons (ps_set (i := 6) nd rfl (.inl rfl) (pe_call G hr (by rfl) D.m D.F.kp D.b .nil pass0 (pa_cons (pe_ix ix_tup (pv 0) pe_int (fun _ _ => rfl)) (pa_cons (pv 1) (pa_cons (pv 2) pa_nil)))))
    (pss_cons (ps_if (pt_cmpR op_eq (pv 3) pe_str (nomark _))
      (pss_one (ps_ret (pe_and (pv 5) (pe_one (pv 6)))))
      pss_nil)
    (pss_cons (ps_if (pt_cmpR op_eq (pv 3) pe_str (nomark _))
      (pss_one (ps_ret (pe_or (pv 5) (pe_one (pv 6)))))
      pss_nil)
    (pss_cons (ps_if (pt_cmpR op_eq (pv 3) pe_str (nomark _))
      (pss_one (ps_ret (pe_or (pv 6) (pe_one (pe_not (pv 5))))))
      pss_nil)
    (pss_one (ps_ret (pe_cmpR op_eq (pv 5) (pv 6) (nomark _)))))))))))))), ?_⟩
  obtain ⟨a, xs, rfl, e, hs⟩ := fm_at hv
  have T0 : SqT K H a (.str φ.head :: xs) := .inl (.inl e)
  refine ⟨_, rfl, a, _, 0, _, rfl, rfl, T0, head_at, ?_⟩
  cases φ with
  | tt b =>
    cases b with
    | true => exact ⟨_, rfl, rfl, _, rfl, eqS (by decide +kernel) (iteT ⟨_, rfl, rfl, q H (Same.refl _)⟩)⟩
    | false => exact ⟨_, rfl, rfl, _, rfl, neS (by decide +kernel) ⟨_, rfl, rfl, _, rfl, eqS (by decide +kernel) ⟨_, rfl, rfl, q H (Same.refl _)⟩⟩⟩
  | eq l r =>
    obtain ⟨x, y, rfl, hx, hy⟩ := all_two hs
    refine ⟨_, rfl, rfl, _, rfl, neS (headN "equal" rfl (by decide +kernel)) ⟨_, rfl, rfl, _, rfl, neS (headN "equal" rfl (by decide +kernel)) ?_⟩⟩
    refine ⟨_, rfl, rfl, _, rfl, eqS (headN "equal" rfl (by decide +kernel)) ?_⟩
    exact ⟨_, rfl, a, _, 1, _, rfl, rfl, T0, at_1, _, rfl, a, _, 2, _, rfl, rfl, T0, at_2, _, rfl, _, rfl, NM, x, y, T, kd, l, r, M, ρ, rfl, hx, hy, hT, hk, hN, hw.1, hw.2.1, hw.2.2.1, q⟩
  | neg g =>
    obtain ⟨x, rfl, hx⟩ := all_one hs
    refine ⟨_, rfl, rfl, _, rfl, neS (headN "not" rfl (by decide +kernel)) ⟨_, rfl, rfl, _, rfl, neS (headN "not" rfl (by decide +kernel)) ?_⟩⟩
    refine ⟨_, rfl, rfl, _, rfl, neS (headN "not" rfl (by decide +kernel)) ⟨_, rfl, rfl, _, rfl, eqS (headN "not" rfl (by decide +kernel)) ?_⟩⟩
    have hn : g.high + 1 < n + 1 := hn
    have hl : NM.length + (g.high + 1) ≤ 100 := hl
    exact ⟨_, rfl, a, _, 1, _, rfl, rfl, T0, at_1, _, rfl, _, rfl, NM, x, T, kd, g, M, ρ, rfl, hx, hT, hz, hk, hN, by omega, hw, hq, by omega, fun H' s' => ⟨_, rfl, q H' s'⟩⟩
  | qu b y g =>
    obtain ⟨x, u, rfl, hx, hu⟩ := all_two hs
    cases hx
    have hn : g.high + 1 < n + 1 := hn
    have hl : NM.length + (g.high + 1) ≤ 100 := hl
    refine ⟨_, rfl, rfl, _, rfl, neS (headN (qWord b) rfl (by cases b <;> decide +kernel)) ⟨_, rfl, rfl, _, rfl, neS (headN (qWord b) rfl (by cases b <;> decide +kernel)) ?_⟩⟩
    refine ⟨_, rfl, rfl, _, rfl, neS (headN (qWord b) rfl (by cases b <;> decide +kernel)) ⟨_, rfl, rfl, _, rfl, neS (headN (qWord b) rfl (by cases b <;> decide +kernel)) ?_⟩⟩
    obtain ⟨kvs, ek, lk, alK⟩ := hk
    have isS : decide (V.str (Fm.qu b y g).head = V.str "some") = !b := by rw [eqSt]; exact headN (qWord b) rfl (by cases b <;> decide +kernel)
    have isA : decide (V.str (Fm.qu b y g).head = V.str "all") = b := by rw [eqSt]; exact headN (qWord b) rfl (by cases b <;> decide +kernel)
    refine (fun (rest : _) => ⟨_, rfl, rfl, _, rfl, ite2 (fun _ => rest) (fun z => ⟨_, rfl, rfl, _, rfl, ite2 (fun _ => rest) (fun z2 => by rw [isA] at z; rw [isS] at z2; cases b <;> simp at z z2)⟩)⟩) ?_
    have hT2 := hT
    obtain ⟨F, Gp, eT, _, _⟩ := hT2
    refine ⟨_, rfl, T, _, 0, _, rfl, rfl, .inl (.inl eT), head_at, M.sz, rfl, by omega, by omega, for_range (lo := 0) (n := M.sz) (fun i σ X => ∃ y4, σ = [some (.ref a), some (.ref T), some (.ref kd), some (.str (Fm.qu b y g).head), y4, none, none] ∧ Same H X ∧ ∀ j : Nat, j < i → g.truth M (wider ρ y j) = b) ⟨none, rfl, Same.refl H, fun j hj => absurd hj (Nat.not_lt_zero j)⟩ (fun i σ X hi h => ?_) (fun σ X h => ?_)⟩
    · obtain ⟨y4, rfl, sm, al⟩ := h
      have hi : i < M.sz := hi
      have T1 : SqT K X a (.str (Fm.qu b y g).head :: [.str y, u]) := .inl (.inl (sm _ _ e))
      refine ⟨_, rfl, a, _, 2, _, rfl, rfl, T1, at_2, _, rfl, _, rfl, _, rfl, a, _, 1, _, rfl, rfl, T1, at_1, _, rfl, kd, y, _, kvs, rfl, sm _ _ ek, by omega, fun p X1 s1 ep => ?_⟩
      have e0 : (0 : Int) + (i : Int) = (i : Int) := by omega
      rw [e0] at ep
      refine ⟨y :: NM, u, T, p, g, M, _, rfl, TmAt.mono (sm.trans s1).tups _ _ hu, hT.same (sm.trans s1), hz, KnS.put lk alK y _ ep, fun z hz => by
        rcases List.mem_cons.mp hz with e | hz
        · rw [e]; exact hq.1
        · exact hN z hz, by rw [List.length_cons]; omega, hw, hq.2, by omega, fun X2 s2 => ?_⟩
      have s12 := sm.trans (s1.trans s2)
      refine ⟨_, rfl, rfl, rfl, _, rfl, ?_⟩
      rw [isS, eqB]
      cases c : g.truth M (wider ρ y i) == !b with
      | true =>
        refine iteT ⟨_, rfl, rfl, ?_⟩
        rw [isS]
        have c : g.truth M (wider ρ y i) = !b := eq_of_beq c
        have := q X2 s12
        rw [qu_hit hi c] at this
        exact this
      | false =>
        refine iteF ⟨_, rfl, s12, fun j hj => ?_⟩
        rcases Nat.lt_succ_iff_lt_or_eq.mp hj with hj | rfl
        · exact al j hj
        · cases b <;> cases c2 : g.truth M (wider ρ y j) <;> rw [c2] at c <;> simp at c ⊢
    · obtain ⟨y4, rfl, sm, al⟩ := h
      refine ⟨_, rfl, rfl, ?_⟩
      rw [isA]
      have := q X sm
      rw [qu_end al] at this
      exact this
  | bin o g k =>
    obtain ⟨x, u, rfl, hx, hu⟩ := all_two hs
    have hn : max g.high k.high + 1 < n + 1 := hn
    have hl : NM.length + (max g.high k.high + 1) ≤ 100 := hl
    refine ⟨_, rfl, rfl, _, rfl, neS (headN o.word rfl (by cases o <;> decide +kernel)) ⟨_, rfl, rfl, _, rfl, neS (headN o.word rfl (by cases o <;> decide +kernel)) ?_⟩⟩
    refine ⟨_, rfl, rfl, _, rfl, neS (headN o.word rfl (by cases o <;> decide +kernel)) ⟨_, rfl, rfl, _, rfl, neS (headN o.word rfl (by cases o <;> decide +kernel)) ?_⟩⟩
    refine ⟨_, rfl, rfl, _, rfl, neS (headN o.word rfl (by cases o <;> decide +kernel)) ⟨_, rfl, rfl, _, rfl, neS (headN o.word rfl (by cases o <;> decide +kernel)) ?_⟩⟩
    refine ⟨_, rfl, a, _, 1, _, rfl, rfl, T0, at_1, _, rfl, _, rfl, NM, x, T, kd, g, M, ρ, rfl, hx, hT, hz, hk, hN, by omega, hw.1, hq.1, by omega, fun H1 s1 => ?_⟩
    have T1 : SqT K H1 a (.str (Fm.bin o g k).head :: [x, u]) := .inl (.inl (s1 _ _ e))
    refine ⟨_, rfl, a, _, 2, _, rfl, rfl, T1, at_2, _, rfl, _, rfl, NM, u, T, kd, k, M, ρ, rfl, TmAt.mono s1.tups _ _ hu, hT.same s1, hz, hk.same s1, hN, by omega, hw.2, hq.2, by omega, fun H2 s2 => ?_⟩
    have qq := q H2 (s1.trans s2)
    have qq : Q (.bl (o.fn (g.truth M ρ) (k.truth M ρ))) H2 := qq
    generalize g.truth M ρ = bg at qq ⊢
    generalize k.truth M ρ = bk at qq ⊢
    cases o with
    | and =>
      refine ⟨_, rfl, rfl, _, rfl, eqS (headN "and" rfl (by decide +kernel)) ⟨_, rfl, bg, rfl, ?_⟩⟩
      cases bg
      · exact qq
      · exact ⟨_, rfl, qq⟩
    | or =>
      refine ⟨_, rfl, rfl, _, rfl, neS (headN "or" rfl (by decide +kernel)) ⟨_, rfl, rfl, _, rfl, eqS (headN "or" rfl (by decide +kernel)) ⟨_, rfl, bg, rfl, ?_⟩⟩⟩
      cases bg
      · exact ⟨_, rfl, qq⟩
      · exact qq
    | imp =>
      refine ⟨_, rfl, rfl, _, rfl, neS (headN "implies" rfl (by decide +kernel)) ⟨_, rfl, rfl, _, rfl, neS (headN "implies" rfl (by decide +kernel)) ⟨_, rfl, rfl, _, rfl, eqS (headN "implies" rfl (by decide +kernel)) ⟨_, rfl, bk, rfl, ?_⟩⟩⟩⟩
      cases bk
      · exact ⟨_, rfl, _, rfl, qq⟩
      · exact qq
    | iff =>
      refine ⟨_, rfl, rfl, _, rfl, neS (headN "iff" rfl (by decide +kernel)) ⟨_, rfl, rfl, _, rfl, neS (headN "iff" rfl (by decide +kernel)) ⟨_, rfl, rfl, _, rfl, neS (headN "iff" rfl (by decide +kernel)) ⟨_, rfl, _, rfl, rfl, ?_⟩⟩⟩⟩
      rw [eqB]
      exact qq
theorem ok_truth {f fE fW : Addr} {fd dE dW : FuncData} (D : Df K mg "_law_truth" s__law_truth ["formula", "tables", "known"] f fd) (DE : Df K mg "_law_equal_holds" s__law_equal_holds ["left", "right", "tables", "known"] fE dE) (GE : FnOk P w K mg base CX0 6 fE dE ["left", "right", "tables", "known"] (spEqH))
    (DW : Df K mg "_law_with" s__law_with ["known", "name", "element"] fW dW) (GW : FnOk P w K mg base CX0 1 fW dW ["known", "name", "element"] (spWith)) (m_range : mg "range" = none) : ∀ n : Nat, FnOk P w K mg base CX0 (n + 6) f fd ["formula", "tables", "known"] (spTr n)
  | 0 => by
    have no : ∀ vs H Q E, ¬ spTr 0 vs H Q E := fun vs H Q E h => by
      obtain ⟨_, _, _, _, _, _, _, _, _, _, _, _, _, _, _, _, hk, _⟩ := h
      omega
    exact ⟨fun vs H Q E h => absurd h (no vs H Q E), fun A outer s H args us vs Q E _ _ _ _ h => absurd h (no vs H Q E)⟩
  | n + 1 => ok_truth1 D DE GE DW GW m_range (ok_truth D DE GE DW GW m_range n)
end
end K23
namespace K23
open PySem PySem.Spec PyProof.Rows L2 Own HT
section
variable {P : Program} {w : World} {K : PySem.W.Frag} {mg : Str → Option Value} {base : Heap}
def anyKey (_ : Key) : Prop := True
mutual
theorem any_wf : ∀ t : Ter, t.wf anySym anyKey
  | .var _ => trivial
  | .ap _ as => ⟨trivial, any_wfs as⟩
theorem any_wfs : ∀ ts : List Ter, Ter.wfs anySym anyKey ts
  | [] => trivial
  | a :: r => ⟨any_wf a, any_wfs r⟩
end
def litN (x : Lit) : Prop := (True ∧ x.2.1.size ≤ 200 ∧ x.2.1.nest ≤ 20) ∧ (True ∧ x.2.2.size ≤ 200 ∧ x.2.2.nest ≤ 20)
theorem litN_size {x : Lit} (h : litN x) : x.2.1.size ≤ 200 ∧ x.2.2.size ≤ 200 := ⟨h.1.2.1, h.2.2.1⟩
theorem litN_W {x : Lit} (h : litN x) : x.2.1.wf anySym anyKey ∧ x.2.2.wf anySym anyKey := ⟨any_wf _, any_wf _⟩
def ClsAt (H : Hp) (p : Addr) (c : List Lit) : Prop := ∃ xs, H p = some (.tup xs) ∧ LitAll H xs c
theorem ClsAt.same {H H' : Hp} {p : Addr} {c : List Lit} (h : ClsAt H p c) (s : Same H H') : ClsAt H' p c := by
  obtain ⟨xs, e, z⟩ := h
  exact ⟨xs, s _ _ e, z.mono s.tups⟩
def spCV : Sp := fun vs H Q _ => ∃ (p : Addr) (xs : List V) (c : List Lit), vs = [.ref p] ∧ (H p = some (.lst xs) ∨ H p = some (.tup xs)) ∧ LitAll H xs c ∧ c.length ≤ 100 ∧ (∀ x ∈ c, litN x) ∧
  ∀ (u : Addr) (H' : Hp), Same H H' → H u = none → H' u = some (.lst ((clVars c).map kV)) → Q (.ref u) H'
theorem sc_clause_variables : FnScope ["clause", "literal", "side"] ["clause"] (defScope s_clause_variables) := ⟨rfl, rfl, rfl, by decide +kernel, rfl, by decide +kernel, by decide +kernel⟩
theorem ok_clause_variables {f fV : Addr} {fd dV : FuncData} (D : Df K mg "clause_variables" s_clause_variables ["clause"] f fd) (DV : Df K mg "variables_of" s_variables_of ["terms"] fV dV) (GV : FnOk P w K mg base CX0 2 fV dV ["terms"] (spVarsOf K)) : FnOk P w K mg base CX0 3 f fd ["clause"] spCV := by
  refine D.F.ok sc_clause_variables (fun vs H Q E h => ?_) (fun cdv A outer s H vs Q E hr h => ?_)
  · obtain ⟨p, xs, c, rfl, _⟩ := h; rfl
  obtain ⟨p, xs, c, rfl, hp, hc, lc, nc, q⟩ := h
  have nd := sc_clause_variables.nd
  have hr : Room 2 _ := hr.mono (by decide)
  refine ⟨_, (pss_one (ps_ret (pe_call GV hr (by rfl) DV.m DV.F.kp DV.b .nil pass0 (pa_cons (pe_lc2 (own := [("literal", 1), ("side", 2)]) (vs1 := [2]) (g := gName 1) (tt := tYes) (wi1 := iTup K (tSl (rSl1 K) (tVar 1) (tPart (tC (.int 1))) tNoPart)) (g1 := gName 2) (tt1 := tYes) (te := tVar 2) rfl nd (pi_lt (pv 0)) (blkOk_by (N := ["clause", "literal", "side"]) (sc := defScope s_clause_variables) (by decide +kernel)) (by decide) (fun _ _ _ _ _ => pg_name (i := 1) nd rfl (Or.inl rfl)) (fun _ _ _ _ _ => pts_nil) (fun _ _ _ _ _ => pi_tup (pe_slice sl_1 (pv 1) (po_some pe_int) po_none)) (fun _ _ _ _ _ => pg_name (i := 2) nd rfl (Or.inl rfl)) (fun _ _ _ _ _ => pts_nil) (fun _ _ _ _ _ => pv 2)) pa_nil)))), ?_⟩
  have ll := hc.len
  have zz := sides_size (n := 200) fun x hx => litN_size (nc x hx)
  have ss : ∀ i, i ≤ c.length → Ter.sizes (sides (c.take i)) ≤ Ter.sizes (sides c) := fun i _ => by
    have e : sides c = sides (c.take i) ++ sides (c.drop i) := by rw [← sides_app, List.take_append_drop]
    rw [e, Ter.sizes_app]; omega
  rcases hp with hp | hp
  case' inl => refine ⟨_, rfl, p, rfl, .inl ⟨⟨_, .inl (.inl hp)⟩, fun d nd' => walk_gen (walk_list (xs := xs)) (fun i F => ∃ ys, Same H F ∧ F d = some (.lst ys) ∧ TmAll F ys (sides (c.take i))) ⟨[], same_new nd' _, upd_same, .nil⟩ (fun i F _ h => ?_) (fun i x F F2 hi h y => ?_) (fun F h => ?_)⟩⟩
  case' inr => refine ⟨_, rfl, p, rfl, .inr ⟨⟨_, .inl (.inl hp)⟩, fun d nd' => walk_gen (walk_tup (xs := xs)) (fun i F => ∃ ys, Same H F ∧ F d = some (.lst ys) ∧ TmAll F ys (sides (c.take i))) ⟨[], same_new nd' _, upd_same, .nil⟩ (fun i F _ h => ?_) (fun i x F F2 hi h y => ?_) (fun F h => ?_)⟩⟩
  all_goals first
    | (obtain ⟨ys, sm, ed, hy⟩ := h; exact .inl (.inl (sm _ _ hp)))
    | skip
  all_goals first
    | (obtain ⟨ys, sm, ed, hy⟩ := h
       rw [ll, List.take_length] at hy
       have ly := hy.len
       have sl := Ter.sizes_len (sides c)
       refine ⟨d, ys, _, rfl, .inl (.inl ed), hy, by omega, fun u H' s2 nu eu => q u H' (sm.trans s2) (sm.free nu) eu⟩)
    | skip
  all_goals
    obtain ⟨rfl, hx⟩ := y
    obtain ⟨ys, sm, ed, hy⟩ := h
    obtain ⟨lit, el, hl⟩ := hc.get hx
    have li : i < c.length := (List.getElem?_eq_some_iff.mp el).1
    have etk : c.take (i + 1) = c.take i ++ [lit] := by rw [List.take_add_one, el]; rfl
    have s1 := ss (i + 1) (by omega)
    rw [etk, sides_snoc, Ter.sizes_app] at s1
    cases hl with
    | @mk a b xl xr l r e h1 h2 =>
    refine ⟨rfl, _, rfl, 1, rfl, a, .bl b, [xl, xr], rfl, rfl, rfl, .inl (.inl (sm _ _ e)), fun t nt => ?_⟩
    have s2 := same_new nt (.tup [xl, xr])
    have td : t ≠ d := (ne_of_none ed nt).symm
    refine ⟨t, rfl, ⟨_, .inl (.inl upd_same)⟩, walk_t (xs := [xl, xr]) (fun j H3 => ∃ ws, Same H H3 ∧ H3 t = some (.tup [xl, xr]) ∧ H3 d = some (.lst ws) ∧ TmAll H3 ws (sides (c.take i) ++ [l, r].take j)) ⟨ys, sm.trans s2, upd_same, s2 _ _ ed, by rw [List.take_zero, List.append_nil]; exact TmAll.mono s2.tups _ _ hy⟩ (fun j H3 _ h => ?_) (fun j y H3 hy3 h => ?_) (fun H3 h => ?_)⟩
    · obtain ⟨ws, _, et, _⟩ := h
      exact .inl (.inl et)
    · obtain ⟨ws, sm3, et, ed3, hw⟩ := h
      have lw := hw.len
      have b4 : But d H3 (upd H3 d (.lst (ws ++ [y]))) := But.upd
      have m4 := b4.tups ed3
      have lw2 := Ter.sizes_len (sides (c.take i))
      rw [List.length_append, List.length_take] at lw
      have hj : j < 2 := (List.getElem?_eq_some_iff.mp hy3).1
      obtain ⟨t1, e1, hy1⟩ := (TmAll.cons h1 (.cons h2 .nil)).get hy3
      have l2 : ([l, r] : List Ter).length = 2 := rfl
      refine ⟨rfl, _, rfl, ws, ed3, small6' (by omega), ws ++ [y], But.same nd' sm3 b4, by rw [upd_ne td]; exact et, upd_same, ?_⟩
      rw [List.take_add_one, e1, ← List.append_assoc]
      exact (TmAll.mono m4 _ _ hw).app (.cons (TmAt.mono (sm3.tups.trans m4) _ _ hy1) .nil)
    · obtain ⟨ws, sm3, et, ed3, hw⟩ := h
      refine ⟨ws, sm3, ed3, ?_⟩
      rw [etk]
      exact Eq.mpr (congrArg (TmAll H3 ws) (sides_snoc (c.take i) (b, l, r))) hw
def spNumV (n : Nat) : Sp := fun vs H Q _ => ∃ (v : V) (a : Addr) (t : Ter) (ks : List Key), vs = [v, .ref a] ∧ H a = some (.dK (numK 0 ks)) ∧ TmAt H v t ∧ t.wf anySym anyKey ∧ t.inK ks ∧ t.size ≤ 100000 ∧ t.nest < n ∧
  ∀ v' H', Same H H' → TmAt H' v' (t.num ks) → Q v' H'
theorem sc_rv : FnScope ["term", "new", "argument"] ["term", "new"] (defScope s_replace_variables) := ⟨rfl, rfl, rfl, by decide +kernel, rfl, by decide +kernel, by decide +kernel⟩
theorem ok_rv1 {f fV : Addr} {fd fdV : FuncData} (D : Df K mg "replace_variables" s_replace_variables ["term", "new"] f fd) (DV : Df K mg "is_variable" s_is_variable ["term"] fV fdV) (GV : FnOk P w K mg base CX0 1 fV fdV ["term"] spIsVar) (mt : mg "tuple" = none) {n : Nat} (G : FnOk P w K mg base CX0 (n + 1) f fd ["term", "new"] (spNumV n)) : FnOk P w K mg base CX0 (n + 1 + 1) f fd ["term", "new"] (spNumV (n + 1)) := by
  refine D.F.ok sc_rv (fun vs H Q E h => ?_) (fun cdv A outer s H vs Q E hr h => ?_)
  · obtain ⟨v, a, t, ks, rfl, _⟩ := h; rfl
  obtain ⟨v, a, t, ks, rfl, ea, ht, hw, hi, hz, hn, q⟩ := h
  have nd := sc_rv.nd
  have hr1 : Room 1 _ := hr.mono (by omega)
  refine ⟨_, pss_cons (ps_if (pt_val (pe_call GV hr1 (by rfl) DV.m DV.F.kp DV.b .nil pass0 (pa_cons (pv 0) pa_nil)))
      (pss_one (ps_ret (pe_dget2 (hu_of hr) (pv 1) (pv 0) (pv 0) ⟨rfl, rfl, rfl, rfl⟩))) pss_nil)
    (pss_one (ps_ret (pe_op op_catT (pe_tup (pa_cons (pe_ix ix_tup (pv 0) pe_int (fun _ _ => rfl)) pa_nil)) (pe_callTy call_tuple_of (by rfl) mt (by decide +kernel) (pa_cons
      (pe_lc (own := [("argument", 2)]) (g := gName 2) (tt := tYes) (te := tCall (spNumV n) [] E0 (tCons (tVar 2) (tCons (tVar 1) tNil))) rfl nd (pi_tup (pe_slice sl_1 (pv 0) (po_some pe_int) po_none)) (blkOk_by (N := ["term", "new", "argument"]) (sc := defScope s_replace_variables) (by decide +kernel))
        (fun _ _ _ _ _ => pg_name (i := 2) nd rfl (Or.inl rfl)) (fun _ _ _ _ _ => pts_nil) (fun _ _ _ _ _ => pe_call G hr (by rfl) D.m D.F.kp D.b .nil pass0 (pa_cons (pv 2) (pa_cons (pv 1) pa_nil)))) pa_nil))))), ?_⟩
  refine ⟨v, rfl, v, t, rfl, ht, _, rfl, ?_⟩
  cases ht with
  | int i =>
    have hi : (.inl i : Key) ∈ ks := hi
    refine iteT ⟨_, rfl, a, rfl, .inl ⟨_, .inl ea⟩, _, rfl, _, rfl, valV (numK 0 ks) (.inl i), DGet.k (k := .inl i) ea, ?_⟩
    rw [numK_val hi, Nat.zero_add]
    exact q _ H (Same.refl _) (.int _)
  | str x =>
    have hi : (.inr x : Key) ∈ ks := hi
    refine iteT ⟨_, rfl, a, rfl, .inl ⟨_, .inl ea⟩, _, rfl, _, rfl, valV (numK 0 ks) (.inr x), DGet.k (k := .inr x) ea, ?_⟩
    rw [numK_val hi, Nat.zero_add]
    exact q _ H (Same.refl _) (.int _)
  | @ap p g xs as e hs =>
    refine iteF ?_
    have ls := hs.len
    have hn : Ter.nests as + 1 < n + 1 := hn
    have hz : Ter.sizes as + 1 ≤ 100000 := hz
    have la := Ter.sizes_len as
    refine ⟨_, rfl, p, _, 0, .str g, rfl, rfl, .inl (.inl e), head_at, by show 1 ≤ sizeLine; decide, fun p1 np1 => ?_⟩
    have s1 := same_new np1 (.tup [.str g])
    refine ⟨.ref p, rfl, 1, rfl, p, .str g, xs, rfl, rfl, rfl, .inl (.inl (s1 _ _ e)), fun p2 np2 => ?_⟩
    have s2 := same_new np2 (.tup xs)
    refine ⟨p2, rfl, ⟨xs, .inl (.inl upd_same)⟩, fun d nd' => ?_⟩
    have s12 := s1.trans s2
    have nd0 : H d = none := s12.free nd'
    refine walk_t (xs := xs) (fun i H2 => ∃ acc, Same (upd (upd H p1 (.tup [.str g])) p2 (.tup xs)) H2 ∧ H2 d = some (.lst acc) ∧ TmAll H2 acc (Ter.nums ks (as.take i)) ∧ acc.length ≤ i) ⟨[], same_new nd' _, upd_same, .nil, Nat.le_refl _⟩ (fun i H2 _ h => ?_) (fun i x H2 hx h => ?_) (fun H2 h => ?_)
    · obtain ⟨acc, sm, _⟩ := h
      exact .inl (.inl (sm _ _ upd_same))
    · obtain ⟨acc, sm, ed, ha, la2⟩ := h
      obtain ⟨t1, et, hx1⟩ := hs.get hx
      have sa := s12.trans sm
      have hx2 := TmAt.mono sa.tups _ _ hx1
      have n1 := nest_le_of et
      have m1 := size_le_of et
      refine ⟨rfl, ?_⟩
      refine ⟨_, rfl, _, rfl, x, a, t1, ks, rfl, sa _ _ ea, hx2, wfs_get hw.2 et, wfs_get hi.2 et, by omega, by omega, fun v' H3 s3 hv' => ?_⟩
      have ed3 := s3 _ _ ed
      have b4 : But d H3 (upd H3 d (.lst (acc ++ [v']))) := But.upd
      have m4 := b4.tups ed3
      have li : i < as.length := (List.getElem?_eq_some_iff.mp et).1
      have etk : as.take (i + 1) = as.take i ++ [t1] := by rw [List.take_add_one, et]; rfl
      refine ⟨acc, ed3, small6' (by omega), acc ++ [v'], But.same nd' (sm.trans s3) b4, upd_same, ?_, by rw [List.length_append, List.length_singleton]; omega⟩
      rw [etk, nums_app]
      exact (TmAll.mono (s3.tups.trans m4) _ _ ha).app (.cons (TmAt.mono m4 _ _ hv') .nil)
    · obtain ⟨acc, sm, ed, ha, la2⟩ := h
      rw [ls, List.take_length] at ha
      have lx := ha.len
      rw [nums_len] at lx
      refine ⟨d, acc, rfl, .inl ⟨.inl (.inl ed), fun p3 np3 => ?_⟩⟩
      have s3 := same_new np3 (.tup acc)
      have sa := s12.trans (sm.trans s3)
      refine ⟨p1, p3, [.str g], acc, rfl, rfl, .inl (.inl (s3 _ _ (sm _ _ (s2 _ _ upd_same)))), .inl (.inl upd_same), by simp, small6 (by show 1 + acc.length ≤ _; omega), fun z => ?_, fun _ p4 np4 => ?_⟩
      · subst z
        have t0 : as = [] := List.length_eq_zero_iff.mp lx.symm
        subst t0
        exact q (.ref p1) _ sa (.ap (s3 _ _ (sm _ _ (s2 _ _ upd_same))) .nil)
      · have s4 := same_new np4 (.tup ([.str g] ++ acc))
        exact q (.ref p4) _ (sa.trans s4) (.ap upd_same (TmAll.mono (s3.trans s4).tups _ _ ha))
theorem ok_rv {f fV : Addr} {fd fdV : FuncData} (D : Df K mg "replace_variables" s_replace_variables ["term", "new"] f fd) (DV : Df K mg "is_variable" s_is_variable ["term"] fV fdV) (GV : FnOk P w K mg base CX0 1 fV fdV ["term"] spIsVar) (mt : mg "tuple" = none) : ∀ n : Nat, FnOk P w K mg base CX0 (n + 1) f fd ["term", "new"] (spNumV n)
  | 0 => by
    have no : ∀ vs H Q E, ¬ spNumV 0 vs H Q E := fun vs H Q E h => by
      obtain ⟨_, _, _, _, _, _, _, _, _, _, hk, _⟩ := h
      omega
    exact ⟨fun vs H Q E h => absurd h (no vs H Q E), fun A outer s H args us vs Q E _ _ _ _ h => absurd h (no vs H Q E)⟩
  | n + 1 => ok_rv1 D DV GV mt (ok_rv D DV GV mt n)
def spNumb : Sp := fun vs H Q _ => ∃ (p : Addr) (xs : List V) (c : List Lit), vs = [.ref p] ∧ H p = some (.lst xs) ∧ LitAll H xs c ∧ c.length ≤ 100 ∧ (∀ x ∈ c, litN x) ∧ ∀ (u : Addr) (H' : Hp), Same H H' → ClsAt H' u (numC c) → Q (.ref u) H'
theorem sc_numbered : FnScope ["literals", "new", "variable", "number", "positive", "left", "right"] ["literals"] (defScope s_numbered) := ⟨rfl, rfl, rfl, by decide +kernel, rfl, by decide +kernel, by decide +kernel⟩
theorem take_key : ∀ {ks : List Key} {i : Nat} {k : Key}, ks.Nodup → ks[i]? = some k → k ∉ ks.take i
  | [], _, _, _, h => by simp at h
  | a :: r, 0, k, _, _ => by simp
  | a :: r, i + 1, k, nd, h => by
    have nd : a ∉ r ∧ r.Nodup := List.nodup_cons.mp nd
    have h : r[i]? = some k := h
    have hk := List.mem_of_getElem? h
    show k ∉ a :: r.take i
    intro z
    rcases List.mem_cons.mp z with e | z
    · exact nd.1 (e ▸ hk)
    · exact take_key nd.2 h z
theorem ok_numbered {f fC fR : Addr} {fd dC dR : FuncData} (D : Df K mg "numbered" s_numbered ["literals"] f fd) (DC : Df K mg "clause_variables" s_clause_variables ["clause"] fC dC) (GC : FnOk P w K mg base CX0 3 fC dC ["clause"] spCV)
    (DR : Df K mg "replace_variables" s_replace_variables ["term", "new"] fR dR) (GR : FnOk P w K mg base CX0 22 fR dR ["term", "new"] (spNumV 21)) (m_enumerate : mg "enumerate" = none) (m_tuple : mg "tuple" = none) : FnOk P w K mg base CX0 23 f fd ["literals"] spNumb := by
  refine D.F.ok sc_numbered (fun vs H Q E h => ?_) (fun cdv A outer s H vs Q E hr h => ?_)
  · obtain ⟨p, xs, c, rfl, _⟩ := h; rfl
  obtain ⟨p, xs, c, rfl, ep, hc, lc, nc, q⟩ := h
  have nd := sc_numbered.nd
  have r3 : Room 3 _ := hr.mono (by decide)
  have r22 : Room 22 _ := hr.mono (by decide)
  refine ⟨_, (pss_cons (ps_set (i := 1) nd rfl (.inr rfl) (pe_dc (own := [("number", 3), ("variable", 2)]) (g := gTup K 2 (gCons (gName 3) (gCons (gName 2) gNil))) (tt := tYes) (tk := tVar 2) (tv := tVar 3) rfl nd (pi_enum (by rfl) m_enumerate (pa_cons (pe_call GC r3 (by rfl) DC.m DC.F.kp DC.b .nil pass0 (pa_cons (pv 0) pa_nil)) pa_nil)) (blkOk_by (N := ["literals", "new", "variable", "number", "positive", "left", "right"]) (sc := defScope s_numbered) (by decide +kernel)) (fun _ _ _ _ _ => (pg_tup rfl (pgs_cons (pg_name (i := 3) nd rfl (.inl rfl)) (pgs_cons (pg_name (i := 2) nd rfl (.inl rfl)) pgs_nil)))) (fun _ _ _ _ _ => pts_nil) (fun _ _ _ _ _ => pv 2) (fun _ _ _ _ _ => pv 3)))
    (pss_one (ps_ret (pe_callTy call_tuple_of (by rfl) m_tuple (by decide +kernel) (pa_cons (pe_lc (own := [("positive", 4), ("left", 5), ("right", 6)]) (g := gTup K 3 (gCons (gName 4) (gCons (gName 5) (gCons (gName 6) gNil)))) (tt := tYes) (te := tTup (tCons (tVar 4) (tCons (tCall (spNumV 21) [] E0 (tCons (tVar 5) (tCons (tVar 1) tNil))) (tCons (tCall (spNumV 21) [] E0 (tCons (tVar 6) (tCons (tVar 1) tNil))) tNil)))) rfl nd (pi_list (pv 0)) (blkOk_by (N := ["literals", "new", "variable", "number", "positive", "left", "right"]) (sc := defScope s_numbered) (by decide +kernel)) (fun _ _ _ _ _ => (pg_tup rfl (pgs_cons (pg_name (i := 4) nd rfl (.inl rfl)) (pgs_cons (pg_name (i := 5) nd rfl (.inl rfl)) (pgs_cons (pg_name (i := 6) nd rfl (.inl rfl)) pgs_nil))))) (fun _ _ _ _ _ => pts_nil) (fun _ _ _ _ _ => (pe_tup (pa_cons (pv 4) (pa_cons (pe_call GR r22 (by rfl) DR.m DR.F.kp DR.b .nil pass0 (pa_cons (pv 5) (pa_cons (pv 1) pa_nil))) (pa_cons (pe_call GR r22 (by rfl) DR.m DR.F.kp DR.b .nil pass0 (pa_cons (pv 6) (pa_cons (pv 1) pa_nil))) pa_nil)))))) pa_nil))))), ?_⟩
  have ll := hc.len
  have lk : (clVars c).length ≤ 100000 := by
    have z1 := intos_len (sides c) []
    have z2 := sides_size (n := 200) fun x hx => litN_size (nc x hx)
    have z3 : c.length * (2 * 200) ≤ 100 * (2 * 200) := Nat.mul_le_mul_right _ lc
    show (Ter.intos [] (sides c)).length ≤ _
    simp only [List.length_nil] at z1
    omega
  have kn := clVars_nd c
  have kin := clVars_in c
  refine ⟨_, rfl, p, xs, c, rfl, .inl ep, hc, lc, nc, fun u H1 s1 nu eu => ?_⟩
  generalize hks : clVars c = ks at *
  refine ⟨u, _, rfl, .inl (.inl eu), fun d nd' => ?_⟩
  have s2 := same_new nd' (.dK [])
  refine dc_it (walk_enum (xs := ks.map kV)) (fun i F => Same H1 F ∧ F d = some (.dK (numK 0 (ks.take i)))) ⟨s2, upd_same⟩ (fun i F _ h => .inl (.inl (h.1 _ _ eu))) (fun i x F F2 hi h y => ?_) (fun F h => ?_)
  · obtain ⟨sm, ed⟩ := h
    obtain ⟨T, a0, v, rfl, nT, rfl, h0, hv⟩ := y
    cases h0
    obtain ⟨k, ek, rfl⟩ : ∃ k, ks[i]? = some k ∧ v = kV k := by
      have hv : (ks.map kV)[i]? = some v := hv
      rw [List.getElem?_map] at hv
      cases z : ks[i]? with
      | none => rw [z] at hv; cases hv
      | some k => rw [z] at hv; exact ⟨k, rfl, (Option.some.inj hv).symm⟩
    have s3 := same_new nT (.tup [V.int (i : Nat), kV k])
    have ed3 := s3 _ _ ed
    have li : i < ks.length := (List.getElem?_eq_some_iff.mp ek).1
    have nk := take_key kn ek
    refine ⟨T, _, rfl, .inl (.inl upd_same), rfl, _, _, rfl, _, _, rfl, rfl, rfl, ?_⟩
    refine ⟨_, rfl, _, rfl, _, k, rfl, ed3, small6' (by rw [numK_len, List.length_take]; omega), But.same nd' (sm.trans s3) But.upd, ?_⟩
    rw [upd_same, putK_new _ (numK_none nk), List.take_add_one, ek]
    show some (HO.dK (numK 0 (ks.take i) ++ [(k, V.int (i : Nat))])) = some (.dK (numK 0 (ks.take i ++ [k])))
    rw [numK_snoc, List.length_take, show 0 + min i ks.length = i by omega]
  · obtain ⟨sm, ed⟩ := h
    rw [List.length_map, List.take_length] at ed
    have sm2 := s1.trans sm
    refine ⟨_, rfl, p, rfl, ⟨_, .inl (.inl (sm2 _ _ ep))⟩, fun e ne => ?_⟩
    have s3 := same_new ne (.lst [])
    refine walk_l (xs := xs) (fun i F2 => ∃ acc, Same F F2 ∧ F2 e = some (.lst acc) ∧ LitAll F2 acc ((c.take i).map (litNum ks))) ⟨[], s3, upd_same, .nil⟩ (fun i F2 _ h => ?_) (fun i x F2 hx h => ?_) (fun F2 h => ?_)
    · obtain ⟨_, s4, _⟩ := h
      exact .inl (.inl (s4 _ _ (sm2 _ _ ep)))
    · obtain ⟨acc, s4, ee, ha⟩ := h
      have sm4 := sm2.trans s4
      obtain ⟨lit, el, hl⟩ := (hc.mono sm4.tups).get hx
      have nl := nc lit (List.mem_of_getElem? el)
      have kl := kin lit (List.mem_of_getElem? el)
      have wl := litN_W nl
      have la := ha.len
      rw [List.length_map, List.length_take] at la
      have li : i < c.length := (List.getElem?_eq_some_iff.mp el).1
      cases hl with
      | @mk g b xl xr l r eg h1 h2 =>
      have n1 := nl.1.2.1
      have n2 := nl.1.2.2
      have n3 := nl.2.2.1
      have n4 := nl.2.2.2
      refine ⟨g, _, rfl, .inl (.inl eg), rfl, _, _, rfl, _, _, rfl, _, _, rfl, rfl, rfl, ?_⟩
      refine ⟨_, rfl, _, rfl, _, rfl, xl, d, l, ks, rfl, s4 _ _ ed, h1, wl.1, kl.1, Nat.le_trans n1 (by decide), Nat.lt_of_le_of_lt n2 (by decide), fun v1 F3 s5 hv1 => ?_⟩
      refine ⟨_, rfl, _, rfl, xr, d, r, ks, rfl, s5 _ _ (s4 _ _ ed), TmAt.mono s5.tups _ _ h2, wl.2, kl.2, Nat.le_trans n3 (by decide), Nat.lt_of_le_of_lt n4 (by decide), fun v2 F4 s6 hv2 => ?_⟩
      refine ⟨by show 3 ≤ sizeLine; decide, fun t nt => ?_⟩
      have s7 := same_new nt (.tup [.bl b, v1, v2])
      have sb := s5.trans (s6.trans s7)
      have ee7 := sb _ _ ee
      have b8 : But e (upd F4 t (.tup [.bl b, v1, v2])) (upd (upd F4 t (.tup [.bl b, v1, v2])) e (.lst (acc ++ [V.ref t]))) := But.upd
      have m8 := b8.tups ee7
      refine ⟨acc, ee7, small6' (by omega), acc ++ [V.ref t], But.same ne (s4.trans sb) b8, upd_same, ?_⟩
      rw [List.take_add_one, el, List.map_append]
      refine (ha.mono (sb.tups.trans m8)).app (.cons (.mk (b := b) (l := l.num ks) (r := r.num ks) (m8 _ _ upd_same) (TmAt.mono ((s6.trans s7).tups.trans m8) _ _ hv1) (TmAt.mono (s7.tups.trans m8) _ _ hv2)) .nil)
    · obtain ⟨acc, s4, ee, ha⟩ := h
      rw [ll, List.take_length] at ha
      refine ⟨e, acc, rfl, .inl ⟨.inl (.inl ee), fun t nt => ?_⟩⟩
      have s5 := same_new nt (.tup acc)
      refine q t _ (sm2.trans (s4.trans s5)) ⟨acc, upd_same, ?_⟩
      show LitAll _ acc (c.map (litNum (clVars c)))
      rw [hks]
      exact ha.mono s5.tups

end
end K23
namespace K23
open PySem PySem.Spec PyProof.Rows L2 Own HT
section
variable {P : Program} {w : World} {K : PySem.W.Frag} {mg : Str → Option Value} {base : Heap}
abbrev initSt : Stmt := clsAt s_TooLarge 0
def okLim : List V → Hp → Prop := fun ws _ => ∃ x : Str, ws = [.str x] ∧ x.length ≤ 1000
theorem sc_init : NdefX.NScope ["self", "limit", "__class__"] ["self", "limit"] ["__class__"] (defScope initSt) := NdefX.nscope_by (by decide +kernel)
theorem ok_init {C fI cc cda : Addr} {fd : FuncData} (T : InitC P K mg C fI cc cda "__init__" "TooLarge.__init__" (defArgs initSt) (defBody initSt) (defScope initSt) fd) (hn : PySem.W.findIn K (.ref C) "limit" = some none) :
    FnOk P w K mg base CX0 1 fI fd ["self", "limit"] (spInit C ["limit"] okLim) := by
  obtain ⟨oc, od, dV, kV, doc, pm, an, ct, osl, rfl, l⟩ := T.fn
  refine init_of (N := ["self", "limit", "__class__"]) l T.code T.cell sc_init (fun vs H Q E h => ?_) (fun A outer s H vs Q E hr h => ?_)
  · obtain ⟨a, ws, rfl, hl, _⟩ := h
    show ws.length + 1 = 2
    rw [hl]
    rfl
  obtain ⟨a, ws, rfl, hl, hx, ⟨x, rfl, hz⟩, q⟩ := h
  refine ⟨_, pssAt_cons (ps_superAt (T.supX rfl) T.sup (pa_cons (pe_joined (.cons pe_str (.cons (pe_fmt (pv 1)) .nil))) pa_nil)) (pss_one (ps_ost (pv 0) (pv 1))), ?_⟩
  refine ⟨a, rfl, hx, ?_⟩
  refine ⟨_, rfl, by show ("too large: " : Str).length ≤ sizeLine; decide +kernel, .str x, rfl, .inl ⟨x, rfl, by rw [sizeLine_eq]; omega, _, rfl, ?_, ?_⟩⟩
  · have e1 : (Str.empty ++ ("too large: " : Str)).length ≤ 20 := by decide +kernel
    rw [app_len, sizeLine_eq]
    omega
  refine ⟨by show 1 ≤ 1000; decide, hx, ?_⟩
  exact ⟨.str x, rfl, .ref a, rfl, a, C, rfl, T.sup.oex, hn, .inl ⟨hx, fun dx nx ne => q _ dx (fun c h1 h2 => by rw [upd_ne h1, upd_ne h2]) nx ne upd_same (by rw [upd_ne ne]; exact upd_same)⟩⟩
structure LimC (P : Program) (w : World) (K : PySem.W.Frag) (mg : Str → Option Value) (base : Heap) (C fI : Addr) (fd : FuncData) : Prop where
  gC : mg "TooLarge" = some (.ref C)
  oex : OexC K C
  iC : PySem.W.findIn K (.ref C) "__init__" = some (some (.ref fI))
  tI : PySem.W.typeIn K (.ref fI) = some (.type "function")
  ok : FnOk P w K mg base CX0 1 fI fd ["self", "limit"] (spInit C ["limit"] okLim)
  b : Binds K fd ["self", "limit"] []
  err : ErrC K C
  te : PySem.W.exmOne K (.ref C) (.ref C) = some true
  hn : PySem.W.findIn K (.ref C) "limit" = some none
end
section
variable {P : Program} {w : World} {K : PySem.W.Frag} {mg : Str → Option Value} {base : Heap}
theorem inT {c : Bool} {A B : Prop} (h : c = true) (k : A) : if c = true then A else B := by rw [if_pos h]; exact k
theorem inF {c : Bool} {A B : Prop} (h : c = false) (k : B) : if c = true then A else B := by rw [if_neg (by rw [h]; exact Bool.false_ne_true)]; exact k
def MxAt (H : Hp) (v : V) (m : Mx) : Prop := TmAt H v m.fm.ter
theorem MxAt.same {H H' : Hp} {v : V} {m : Mx} (h : MxAt H v m) (s : Same H H') : MxAt H' v m := TmAt.mono s.tups _ _ h
def mhead : Mx → Str
  | .tt true => "true"
  | .tt false => "false"
  | .lt true _ _ => "equal"
  | .lt false _ _ => "not"
  | .an _ _ => "and"
  | .or _ _ => "or"
theorem two_at {H : Hp} {v : V} {h : Str} {a b : Ter} (e : TmAt H v (.ap h [a, b])) : ∃ (p : Addr) (x y : V), v = .ref p ∧ H p = some (.tup [.str h, x, y]) ∧ TmAt H x a ∧ TmAt H y b := by
  cases e with
  | ap e hs =>
    cases hs with
    | cons h1 hs =>
      cases hs with
      | cons h2 hs =>
        cases hs
        exact ⟨_, _, _, rfl, e, h1, h2⟩
theorem one_at {H : Hp} {v : V} {h : Str} {a : Ter} (e : TmAt H v (.ap h [a])) : ∃ (p : Addr) (x : V), v = .ref p ∧ H p = some (.tup [.str h, x]) ∧ TmAt H x a := by
  cases e with
  | ap e hs =>
    cases hs with
    | cons h1 hs =>
      cases hs
      exact ⟨_, _, rfl, e, h1⟩
theorem none_at {H : Hp} {v : V} {h : Str} (e : TmAt H v (.ap h [])) : ∃ (p : Addr), v = .ref p ∧ H p = some (.tup [.str h]) := by
  cases e with
  | ap e hs =>
    cases hs
    exact ⟨_, rfl, e⟩
theorem mx_at {H : Hp} {v : V} {m : Mx} (h : MxAt H v m) : ∃ (p : Addr) (xs : List V), v = .ref p ∧ H p = some (.tup (.str (mhead m) :: xs)) := by
  cases m with
  | tt b => cases b <;> (obtain ⟨p, e1, e2⟩ := none_at h; exact ⟨p, [], e1, e2⟩)
  | lt b l r =>
    cases b with
    | true => obtain ⟨p, x, y, e1, e2, _⟩ := two_at h; exact ⟨p, _, e1, e2⟩
    | false => obtain ⟨p, x, e1, e2, _⟩ := one_at h; exact ⟨p, _, e1, e2⟩
  | an f g => obtain ⟨p, x, y, e1, e2, _⟩ := two_at h; exact ⟨p, _, e1, e2⟩
  | or f g => obtain ⟨p, x, y, e1, e2, _⟩ := two_at h; exact ⟨p, _, e1, e2⟩
theorem eqSt2 {a b : Str} : decide (V.str a = V.str b) = decide (a = b) := by
  by_cases h : a = b
  · subst h; rw [decide_eq_true rfl, decide_eq_true rfl]
  · rw [decide_eq_false h, decide_eq_false fun z => h (V.str.inj z)]
def isTwo : Mx → Bool
  | .an _ _ => true
  | .or _ _ => true
  | _ => false
def isTT : Mx → Bool
  | .tt true => true
  | _ => false
theorem mh_in (m : Mx) : inV (.str (mhead m)) [.str "and", .str "or"] = isTwo m := by
  cases m with
  | tt b => cases b <;> (show inV (.str _) _ = false; decide +kernel)
  | lt b l r =>
    cases b with
    | true => show inV (.str "equal") _ = false; decide +kernel
    | false => show inV (.str "not") _ = false; decide +kernel
  | an f g => show inV (.str "and") _ = true; decide +kernel
  | or f g => show inV (.str "or") _ = true; decide +kernel
theorem mh_tt (m : Mx) : decide (mhead m = "true") = isTT m := by
  cases m with
  | tt b => cases b <;> decide +kernel
  | lt b l r =>
    cases b with
    | true => show decide (("equal" : Str) = "true") = false; decide +kernel
    | false => show decide (("not" : Str) = "true") = false; decide +kernel
  | an f g => show decide (("and" : Str) = "true") = false; decide +kernel
  | or f g => show decide (("or" : Str) = "true") = false; decide +kernel
def spCC (C : Addr) (n : Nat) : Sp := fun vs H Q E => ∃ (v : V) (m : Mx) (lim : Int), vs = [v, .int lim] ∧ MxAt H v m ∧ m.high < n ∧ 1 ≤ lim ∧ lim ≤ 1000 ∧ ((m.most : Int) ≤ lim → ∀ H', Same H H' → Q (.int (m.cnt : Nat)) H') ∧
  (lim < (m.most : Int) → ∀ (d : Addr) (H' : Hp), Same H H' → H d = none → H' d = some (.xd [("limit", .str "clauses")]) → E (.ref C) (some d) H')
theorem sc_cc : FnScope ["matrix", "limit", "count", "first", "second"] ["matrix", "limit"] (defScope s_clause_count) := ⟨rfl, rfl, rfl, by decide +kernel, rfl, by decide +kernel, by decide +kernel⟩
set_option maxHeartbeats 1000000 in
theorem ok_cc1 {f C fI : Addr} {fd dI : FuncData} (D : Df K mg "clause_count" s_clause_count ["matrix", "limit"] f fd) (T : LimC P w K mg base C fI dI) {n : Nat} (G : FnOk P w K mg base (L2N.CX P w) (n + 2) f fd ["matrix", "limit"] (spCC C n)) : FnOk P w K mg base (L2N.CX P w) (n + 2 + 1) f fd ["matrix", "limit"] (spCC C (n + 1)) := by
  refine D.F.okN sc_cc (fun vs H Q E h => ?_) (fun cdv A outer s H vs Q E hr h => ?_)
  · obtain ⟨_, _, _, rfl, _⟩ := h; rfl
  obtain ⟨v, m, lim, rfl, hv, hn, l1, l2, q, qE⟩ := h
  have nd := sc_cc.nd
  have r2 : Room 2 _ := hr.mono (by omega)
  have tk : L2N.Takes (cxOf (L2N.CX P w) P w K mg base ["matrix", "limit", "count", "first", "second"] "clause_count" (defScope s_clause_count) f cdv A outer s H E) (fun cls d _ H' => E cls d H') := L2N.takes_of rfl rfl rfl rfl
  refine ⟨_, (pss_cons (ps_set (i := 2) nd rfl (.inl rfl) pe_int)
    (C8.pss_cut (ps_if (pt_cmpR op_eq (pe_ix ix_tup (pv 0) pe_int (fun _ _ => rfl)) pe_str (nomark _))
      (pss_one (ps_set (i := 2) nd rfl (.inl rfl) pe_int))
      (pss_one (ps_if (pt_cmpR op_in_seq (pe_ix ix_tup (pv 0) pe_int (fun _ _ => rfl)) (pe_tup (pa_cons pe_str (pa_cons pe_str pa_nil))) (by rfl))
      (pss_cons (ps_set (i := 3) nd rfl (.inl rfl) (pe_callS G hr (by rfl) D.m D.F.kp D.b (fun σ => L2N.passAt tk σ) (pa_cons (pe_ix ix_tup (pv 0) pe_int (fun _ _ => rfl)) (pa_cons (pv 1) pa_nil))))
    (pss_cons (ps_set (i := 4) nd rfl (.inl rfl) (pe_callS G hr (by rfl) D.m D.F.kp D.b (fun σ => L2N.passAt tk σ) (pa_cons (pe_ix ix_tup (pv 0) pe_int (fun _ _ => rfl)) (pa_cons (pv 1) pa_nil))))
    (pss_one (ps_set (i := 2) nd rfl (.inl rfl) (pe_ifExp (pt_cmpR op_eq (pe_ix ix_tup (pv 0) pe_int (fun _ _ => rfl)) pe_str (nomark _)) (pe_op op_add (pv 3) (pv 4)) (pe_op op_mul (pv 3) (pv 4)))))))
      pss_nil)))
    (pss_cons (ps_if (pt_cmpR op_gt (pv 2) (pv 1) (nomark _))
      (pss_one (ps_raiseS rfl (L2N.takes_of rfl rfl rfl rfl) T.oex T.iC T.tI T.ok r2 T.b pass0 (by rfl) T.gC (pa_cons pe_str pa_nil) monoS))
      pss_nil)
    (pss_one (ps_ret (pv 2)))))), ?_⟩
  obtain ⟨p, xs, rfl, ep⟩ := mx_at hv
  have cm := cnt_most m
  -- what stands behind the choice
  refine ⟨fun σ F => ∃ (y3 y4 : Option V), σ = [some (.ref p), some (.int lim), some (.int (m.cnt : Nat)), y3, y4] ∧ Same H F ∧ (m.most ≤ m.cnt ∨ (m.most : Int) ≤ lim), ?_, fun σ F h => ?_⟩
  · refine ⟨_, rfl, p, _, 0, _, rfl, rfl, .inl (.inl ep), head_at, rfl, _, rfl, ?_⟩
    rw [eqSt2, mh_tt]
    cases m with
    | tt b =>
      cases b with
      | true => exact inT rfl ⟨none, none, rfl, Same.refl _, .inl (Nat.le_refl _)⟩
      | false =>
        refine inF rfl ⟨_, rfl, p, _, 0, _, rfl, rfl, .inl (.inl ep), head_at, by show 2 ≤ sizeLine; decide, fun t nt => ?_⟩
        have s1 := same_new nt (.tup [.str "and", .str "or"])
        refine ⟨t, _, rfl, .inr (.inl (.inl upd_same)), rfl, rfl, ?_⟩
        rw [mh_in]; exact ⟨_, rfl, inF rfl ⟨none, none, rfl, s1, .inl (Nat.le_refl _)⟩⟩
    | lt b l r =>
      refine inF rfl ⟨_, rfl, p, _, 0, _, rfl, rfl, .inl (.inl ep), head_at, by show 2 ≤ sizeLine; decide, fun t nt => ?_⟩
      have s1 := same_new nt (.tup [.str "and", .str "or"])
      refine ⟨t, _, rfl, .inr (.inl (.inl upd_same)), rfl, rfl, ?_⟩
      rw [mh_in]; exact ⟨_, rfl, inF rfl ⟨none, none, rfl, s1, .inl (Nat.le_refl _)⟩⟩
    | an f g =>
      refine inF rfl ⟨_, rfl, p, _, 0, _, rfl, rfl, .inl (.inl ep), head_at, by show 2 ≤ sizeLine; decide, fun t nt => ?_⟩
      have s1 := same_new nt (.tup [.str "and", .str "or"])
      refine ⟨t, _, rfl, .inr (.inl (.inl upd_same)), rfl, rfl, ?_⟩
      rw [mh_in]; refine ⟨_, rfl, inT rfl ?_⟩
      obtain ⟨p', x, y, e1, e2, hx, hy⟩ := two_at hv
      cases e1
      rw [ep] at e2
      cases e2
      have hn : max f.high g.high + 1 < n + 1 := hn
      have em : (Mx.an f g).most = max (f.cnt + g.cnt) (max f.most g.most) := rfl
      have ec : (Mx.an f g).cnt = f.cnt + g.cnt := rfl
      have cf := cnt_most f
      have cg := cnt_most g
      refine ⟨_, rfl, p, _, 1, x, rfl, rfl, .inl (.inl (s1 _ _ ep)), at_1, _, rfl, x, f, lim, rfl, TmAt.mono s1.tups _ _ hx, by omega, l1, l2, fun le1 F1 s2 => ?_, fun gt d F1 s2 nd1 ed => qE (by rw [em]; omega) d F1 (s1.trans s2) (s1.free nd1) ed⟩
      have s12 := s1.trans s2
      refine ⟨_, rfl, p, _, 2, y, rfl, rfl, .inl (.inl (s12 _ _ ep)), at_2, _, rfl, y, g, lim, rfl, TmAt.mono s12.tups _ _ hy, by omega, l1, l2, fun le2 F2 s3 => ?_, fun gt d F1 s3 nd1 ed => qE (by rw [em]; omega) d F1 (s12.trans s3) (s12.free nd1) ed⟩
      have s13 := s12.trans s3
      refine ⟨_, rfl, p, _, 0, _, rfl, rfl, .inl (.inl (s13 _ _ ep)), head_at, rfl, _, rfl, ?_⟩
      rw [eqSt2]
      refine inT (by show decide (("and" : Str) = "and") = true; decide +kernel) ⟨_, rfl, _, rfl, _, _, rfl, rfl, ⟨_, _, by rw [ec, Int.natCast_add]; rfl, s13, ?_⟩⟩
      by_cases z : f.cnt + g.cnt ≤ max f.most g.most
      · exact .inr (by rw [em]; omega)
      · exact .inl (by rw [em, ec]; omega)
    | or f g =>
      refine inF rfl ⟨_, rfl, p, _, 0, _, rfl, rfl, .inl (.inl ep), head_at, by show 2 ≤ sizeLine; decide, fun t nt => ?_⟩
      have s1 := same_new nt (.tup [.str "and", .str "or"])
      refine ⟨t, _, rfl, .inr (.inl (.inl upd_same)), rfl, rfl, ?_⟩
      rw [mh_in]; refine ⟨_, rfl, inT rfl ?_⟩
      obtain ⟨p', x, y, e1, e2, hx, hy⟩ := two_at hv
      cases e1
      rw [ep] at e2
      cases e2
      have hn : max f.high g.high + 1 < n + 1 := hn
      have em : (Mx.or f g).most = max (f.cnt * g.cnt) (max f.most g.most) := rfl
      have ec : (Mx.or f g).cnt = f.cnt * g.cnt := rfl
      have cf := cnt_most f
      have cg := cnt_most g
      refine ⟨_, rfl, p, _, 1, x, rfl, rfl, .inl (.inl (s1 _ _ ep)), at_1, _, rfl, x, f, lim, rfl, TmAt.mono s1.tups _ _ hx, by omega, l1, l2, fun le1 F1 s2 => ?_, fun gt d F1 s2 nd1 ed => qE (by rw [em]; omega) d F1 (s1.trans s2) (s1.free nd1) ed⟩
      have s12 := s1.trans s2
      refine ⟨_, rfl, p, _, 2, y, rfl, rfl, .inl (.inl (s12 _ _ ep)), at_2, _, rfl, y, g, lim, rfl, TmAt.mono s12.tups _ _ hy, by omega, l1, l2, fun le2 F2 s3 => ?_, fun gt d F1 s3 nd1 ed => qE (by rw [em]; omega) d F1 (s12.trans s3) (s12.free nd1) ed⟩
      have s13 := s12.trans s3
      refine ⟨_, rfl, p, _, 0, _, rfl, rfl, .inl (.inl (s13 _ _ ep)), head_at, rfl, _, rfl, ?_⟩
      rw [eqSt2]
      refine inF (by show decide (("or" : Str) = "and") = false; decide +kernel) ⟨_, rfl, _, rfl, _, _, rfl, rfl, .inl ⟨by omega, by omega⟩, ⟨_, _, by rw [ec, Int.natCast_mul]; rfl, s13, ?_⟩⟩
      by_cases z : f.cnt * g.cnt ≤ max f.most g.most
      · exact .inr (by rw [em]; omega)
      · exact .inl (by rw [em, ec]; omega)
  · obtain ⟨y3, y4, rfl, sF, hm⟩ := h
    refine ⟨_, rfl, _, rfl, _, _, rfl, rfl, _, rfl, ite2 (fun c => ?_) (fun c => ?_)⟩
    · have c : lim < (m.cnt : Int) := of_decide_eq_true c
      refine ⟨rfl, by show 1 ≤ 1000; decide, fun a na => ⟨_, rfl, by decide +kernel⟩, fun d nd2 => qE (by omega) d _ (sF.trans (same_new nd2 _)) (sF.free nd2) upd_same⟩
    · have c : ¬ lim < (m.cnt : Int) := fun z => c (decide_eq_true z)
      exact ⟨_, rfl, q (by omega) F sF⟩
theorem ok_cc {f C fI : Addr} {fd dI : FuncData} (D : Df K mg "clause_count" s_clause_count ["matrix", "limit"] f fd) (T : LimC P w K mg base C fI dI) : ∀ n : Nat, FnOk P w K mg base (L2N.CX P w) (n + 2) f fd ["matrix", "limit"] (spCC C n)
  | 0 => by
    have no : ∀ vs H Q E, ¬ spCC C 0 vs H Q E := fun vs H Q E h => by
      obtain ⟨_, _, _, _, _, hk, _⟩ := h
      omega
    exact ⟨fun vs H Q E h => absurd h (no vs H Q E), fun A outer s H args us vs Q E _ _ _ _ h => absurd h (no vs H Q E)⟩
  | n + 1 => ok_cc1 D T (ok_cc D T n)
end
inductive ZA {α : Type} (A : V → α → Prop) : List V → List α → Prop
  | nil : ZA A [] []
  | cons {v : V} {vs : List V} {x : α} {xs : List α} : A v x → ZA A vs xs → ZA A (v :: vs) (x :: xs)
theorem ZA.mono {α : Type} {A B : V → α → Prop} (m : ∀ v x, A v x → B v x) : ∀ {vs : List V} {xs : List α}, ZA A vs xs → ZA B vs xs
  | _, _, .nil => .nil
  | _, _, .cons a r => .cons (m _ _ a) (r.mono m)
theorem ZA.len {α : Type} {A : V → α → Prop} : ∀ {vs : List V} {xs : List α}, ZA A vs xs → vs.length = xs.length
  | _, _, .nil => rfl
  | _, _, .cons _ r => congrArg (· + 1) r.len
theorem ZA.get {α : Type} {A : V → α → Prop} : ∀ {vs : List V} {xs : List α} {i : Nat} {v : V}, ZA A vs xs → vs[i]? = some v → ∃ x, xs[i]? = some x ∧ A v x
  | _, _, _, _, .nil, h => by cases h
  | _, _, 0, _, .cons a r, h => by cases h; exact ⟨_, rfl, a⟩
  | _, _, i + 1, _, .cons a r, h => r.get (i := i) h
theorem ZA.erase {α : Type} {A : V → α → Prop} : ∀ {vs : List V} {xs : List α} (i : Nat), ZA A vs xs → ZA A (vs.eraseIdx i) (xs.eraseIdx i)
  | _, _, _, .nil => .nil
  | _, _, 0, .cons a r => r
  | _, _, i + 1, .cons a r => .cons a (r.erase i)
theorem ZA.app {α : Type} {A : V → α → Prop} : ∀ {vs ws : List V} {xs ys : List α}, ZA A vs xs → ZA A ws ys → ZA A (vs ++ ws) (xs ++ ys)
  | _, _, _, _, .nil, h => h
  | _, _, _, _, .cons a r, h => .cons a (r.app h)
theorem ZA.dp {α : Type} {K : PySem.W.Frag} {H : Hp} {dat : α → PyData} {A : V → α → Prop} (d : ∀ v x, A v x → Dp K H v (dat x)) : ∀ {vs : List V} {xs : List α}, ZA A vs xs → DpAll K H vs (xs.map dat)
  | _, _, .nil => .nil
  | _, _, .cons a r => .cons (d _ _ a) (r.dp d)
structure Kind (K : PySem.W.Frag) {α : Type} (A : Hp → V → α → Prop) (dat : α → PyData) : Prop where
  same : ∀ {H H' : Hp} {v : V} {x : α}, Tups H H' → A H v x → A H' v x
  dp : ∀ {H : Hp} {v : V} {x : α}, A H v x → Dp K H v (dat x)
  lay : ∀ {H : Hp} {v : V} {x : α}, A H v x → (dat x).canLay0 = true ∧ (dat x).depth ≤ 60
section
variable {P : Program} {w : World} {K : PySem.W.Frag} {mg : Str → Option Value} {base : Heap}
def okT (S : Str → Nat → Prop) (t : Ter) : Prop := t.wf S natVar ∧ t.nest ≤ 8 ∧ t.size ≤ 100000
def AT (S : Str → Nat → Prop) (H : Hp) (v : V) (t : Ter) : Prop := TmAt H v t ∧ okT S t
def okLt (S : Str → Nat → Prop) (x : Lit) : Prop := okT S x.2.1 ∧ okT S x.2.2
def AL (S : Str → Nat → Prop) (H : Hp) (v : V) (x : Lit) : Prop := LitAt H v x ∧ okLt S x
theorem okT_lay {S : Str → Nat → Prop} (SF : SymF S) {t : Ter} (h : okT S t) : t.dat.canLay0 = true ∧ t.dat.depth ≤ 8 := by
  obtain ⟨h1, h2⟩ := lay_ter t (SF.fine h.1)
  exact ⟨h1, by have := h.2.1; omega⟩
theorem kindT {S : Str → Nat → Prop} (SF : SymF S) : Kind K (AT S) Ter.dat :=
  ⟨fun m h => ⟨TmAt.mono m _ _ h.1, h.2⟩, fun h => dp_ter _ _ h.1, fun h => by obtain ⟨h1, h2⟩ := okT_lay SF h.2; exact ⟨h1, by omega⟩⟩
theorem AT.mono {S : Str → Nat → Prop} {H H' : Hp} {v : V} {t : Ter} (h : AT S H v t) (m : Same H H') : AT S H' v t := ⟨TmAt.mono m.tups _ _ h.1, h.2⟩
theorem AL.mono {S : Str → Nat → Prop} {H H' : Hp} {v : V} {x : Lit} (h : AL S H v x) (m : Same H H') : AL S H' v x := ⟨h.1.mono m.tups, h.2⟩
def CA (S : Str → Nat → Prop) (H : Hp) (p : Addr) (c : List Lit) : Prop := ∃ xs, H p = some (.tup xs) ∧ ZA (AL S H) xs c
theorem CA.mono {S : Str → Nat → Prop} {H H' : Hp} {p : Addr} {c : List Lit} (h : CA S H p c) (m : Same H H') : CA S H' p c := by
  obtain ⟨xs, e, z⟩ := h
  exact ⟨xs, m _ _ e, z.mono fun v x h => AL.mono h m⟩
theorem CA.tups {S : Str → Nat → Prop} {H H' : Hp} {p : Addr} {c : List Lit} (h : CA S H p c) (m : Tups H H') : CA S H' p c := by
  obtain ⟨xs, e, z⟩ := h
  exact ⟨xs, m _ _ e, z.mono fun v x h => ⟨h.1.mono m, h.2⟩⟩
end
end K23
namespace K23
open PySem PySem.Spec PyProof.Rows L2 Own HT
section
variable {P : Program} {w : World} {K : PySem.W.Frag} {mg : Str → Option Value} {base : Heap}
def LdA (H : Hp) (v : V) (l : List Lit) : Prop := ∃ (a : Addr) (kvs : List (Key × V)), v = .ref a ∧ H a = some (.dK kvs) ∧ DcR H kvs l
theorem LdA.same {H H' : Hp} {v : V} {l : List Lit} (h : LdA H v l) (s : Same H H') : LdA H' v l := by
  obtain ⟨a, kvs, e, ea, r⟩ := h
  exact ⟨a, kvs, e, s _ _ ea, r.mono s.tups⟩
theorem LdA.but {H H' : Hp} {d : Addr} {ys : List V} {v : V} {l : List Lit} (h : LdA H v l) (b : But d H H') (e : H d = some (.lst ys)) : LdA H' v l := by
  obtain ⟨a, kvs, ev, ea, r⟩ := h
  exact ⟨a, kvs, ev, b _ _ (fun z => by rw [z, e] at ea; cases ea) ea, r.mono (b.tups e)⟩
def spLD (n : Nat) : Sp := fun vs H Q _ => ∃ (v : V) (m : Mx), vs = [v] ∧ MxAt H v m ∧ m.ok ∧ m.high < n ∧ m.most ≤ 1000 ∧ m.wid ≤ 64 ∧
  ∀ (d : Addr) (ws : List V) (H' : Hp), Same H H' → H d = none → H' d = some (.lst ws) → ZA (LdA H') ws m.dd → Q (.ref d) H'
theorem sc_ld : FnScope ["matrix", "kind", "second", "_", "left", "right", "literal"] ["matrix"] (defScope s_literal_dicts) := ⟨rfl, rfl, rfl, by decide +kernel, rfl, by decide +kernel, by decide +kernel⟩
theorem dd_len2 (m : Mx) : m.dd.length = m.cnt := by unfold Mx.dd; rw [List.length_map, raw_len]
theorem dd_wid {m : Mx} {l : List Lit} (h : l ∈ m.dd) : l.length ≤ m.wid := by
  obtain ⟨c, hc, rfl⟩ := List.mem_map.mp h
  exact Nat.le_trans (dd_len c) (raw_wid m c hc)
theorem dd_S {m : Mx} (ok : m.ok) {l : List Lit} (h : l ∈ m.dd) : ∀ x ∈ l, litS x := by
  obtain ⟨c, hc, rfl⟩ := List.mem_map.mp h
  exact fun x hx => (raw_ok m ok c hc x (dd_sub hx)).S
theorem lit_ok {x : Lit} (h : litM x) : x.ok := by
  have hw : ∀ t : Ter, t.wf s23 (nam20 N3) → t.wf shSym shKey := fun t h => wf_mono (fun f n h => by
    rcases h with ⟨rfl, _⟩ | ⟨rfl, _⟩ | ⟨rfl, _⟩ | ⟨rfl, _⟩ | ⟨rfl, _⟩ | ⟨rfl, _⟩ | ⟨rfl, _⟩ <;> exact ⟨by decide +kernel, by decide +kernel⟩) (fun k h => by
    obtain ⟨x, rfl, hx⟩ := h
    rcases List.mem_cons.mp hx with rfl | hx
    · exact ⟨by decide +kernel, by decide +kernel⟩
    rcases List.mem_cons.mp hx with rfl | hx
    · exact ⟨by decide +kernel, by decide +kernel⟩
    rw [List.mem_singleton.mp hx]
    exact ⟨by decide +kernel, by decide +kernel⟩) t h
  have s := h.S
  refine ⟨hw _ s.1, ?_, by have := h.2.1; omega, by have := h.2.2.1; omega, by have := h.2.2.2.1; omega, by have := h.2.2.2.2; omega⟩
  rcases s.2.1 with e | e
  · rw [e]; exact ⟨⟨by decide +kernel, by decide +kernel⟩, trivial⟩
  · exact hw _ e
set_option maxHeartbeats 1000000 in
theorem ok_ld1 {f fS : Addr} {fd dS : FuncData} (D : Df K mg "literal_dicts" s_literal_dicts ["matrix"] f fd) (DS : Df K mg "show_literal" s_show_literal ["literal"] fS dS) (GS : FnOk P w K mg base CX0 63 fS dS ["literal"] spShowL) {n : Nat} (G : FnOk P w K mg base CX0 (n + 63) f fd ["matrix"] (spLD n)) : FnOk P w K mg base CX0 (n + 63 + 1) f fd ["matrix"] (spLD (n + 1)) := by
  refine D.F.ok sc_ld (fun vs H Q E h => ?_) (fun cdv A outer s H vs Q E hr h => ?_)
  · obtain ⟨_, _, rfl, _⟩ := h; rfl
  obtain ⟨v, m, rfl, hv, ok, hn, hm, hwid, q⟩ := h
  have nd := sc_ld.nd
  have r63 : Room 63 _ := hr.mono (by omega)
  refine ⟨_, (pss_cons (ps_set (i := 1) nd rfl (.inl rfl) (pe_ix ix_tup (pv 0) pe_int (fun _ _ => rfl)))
    (pss_cons (ps_if (pt_cmpR op_eq (pv 1) pe_str (nomark _))
      (pss_one (ps_ret (pe_lst pa_nil)))
      pss_nil)
    (pss_cons (ps_if (pt_cmpR op_eq (pv 1) pe_str (nomark _))
      (pss_one (ps_ret (pe_lst (pa_cons pe_dnewK pa_nil))))
      pss_nil)
    (pss_cons (ps_if (pt_cmpR op_eq (pv 1) pe_str (nomark _))
      (pss_one (ps_ret (pe_op op_cat (pe_call G hr (by rfl) D.m D.F.kp D.b .nil pass0 (pa_cons (pe_ix ix_tup (pv 0) pe_int (fun _ _ => rfl)) pa_nil)) (pe_call G hr (by rfl) D.m D.F.kp D.b .nil pass0 (pa_cons (pe_ix ix_tup (pv 0) pe_int (fun _ _ => rfl)) pa_nil)))))
      pss_nil)
    (pss_cons (ps_if (pt_cmpR op_eq (pv 1) pe_str (nomark _))
      (pss_cons (ps_set (i := 2) nd rfl (.inr rfl) (pe_call G hr (by rfl) D.m D.F.kp D.b .nil pass0 (pa_cons (pe_ix ix_tup (pv 0) pe_int (fun _ _ => rfl)) pa_nil)))
    (pss_one (ps_ret (pe_lc2 (own := [("left", 4), ("right", 5)]) (vs1 := [5]) (g := gName 4) (tt := tYes) (wi1 := iList K (tVar 2)) (g1 := gName 5) (tt1 := tYes) (te := tStar2 (tVar 4) (tVar 5)) rfl nd (pi_list (pe_call G hr (by rfl) D.m D.F.kp D.b .nil pass0 (pa_cons (pe_ix ix_tup (pv 0) pe_int (fun _ _ => rfl)) pa_nil))) (blkOk_by (N := ["matrix", "kind", "second", "_", "left", "right", "literal"]) (sc := defScope s_literal_dicts) (by decide +kernel)) (by decide) (fun _ _ _ _ _ => pg_name (i := 4) nd rfl (Or.inl rfl)) (fun _ _ _ _ _ => pts_nil) (fun _ _ _ _ _ => pi_list (pv 2)) (fun _ _ _ _ _ => pg_name (i := 5) nd rfl (Or.inl rfl)) (fun _ _ _ _ _ => pts_nil) (fun _ _ _ _ _ => pe_star2 (pv 4) (pv 5))))))
      pss_nil)
    (pss_cons (ps_asg (pe_ifExp (pt_cmpR op_eq (pv 1) pe_str (nomark _)) (pe_ix ix_tup (pv 0) pe_int (fun _ _ => rfl)) (pv 0)) (pg_tup rfl (pgs_cons (pg_name (i := 3) nd rfl (.inl rfl)) (pgs_cons (pg_name (i := 4) nd rfl (.inl rfl)) (pgs_cons (pg_name (i := 5) nd rfl (.inl rfl)) pgs_nil)))))
    (pss_cons (ps_set (i := 6) nd rfl (.inl rfl) (pe_tup (pa_cons (pe_cmpR op_eq (pv 1) pe_str (nomark _)) (pa_cons (pv 4) (pa_cons (pv 5) pa_nil)))))
    (pss_one (ps_ret (pe_lst (pa_cons (pe_disp (pps_cons (pe_call GS r63 (by rfl) DS.m DS.F.kp DS.b .nil pass0 (pa_cons (pv 6) pa_nil)) (pv 6) pps_nil) (by rfl) (by rfl) (fun z => by cases z) (by decide)) pa_nil))))))))))), ?_⟩
  obtain ⟨p, xs, rfl, ep⟩ := mx_at hv
  refine ⟨_, rfl, p, _, 0, _, rfl, rfl, .inl (.inl ep), head_at, ?_⟩
  have HD : ∀ {a b : Str}, decide (V.str a = V.str b) = decide (a = b) := eqSt2
  cases m with
  | tt b =>
    cases b with
    | true =>
      refine ⟨_, rfl, rfl, _, rfl, inT (by show decide (V.str "true" = V.str "true") = true; decide +kernel) ⟨Nat.zero_le _, fun d nd' => ?_⟩⟩
      exact q d [] _ (same_new nd' _) nd' upd_same .nil
    | false =>
      refine ⟨_, rfl, rfl, _, rfl, inF (by show decide (V.str "false" = V.str "true") = false; decide +kernel) ?_⟩
      refine ⟨_, rfl, rfl, _, rfl, inT (by show decide (V.str "false" = V.str "false") = true; decide +kernel) fun e ne => ⟨by show 1 ≤ sizeLine; decide, fun d nd' => ?_⟩⟩
      have s1 := same_new ne (.dK [])
      have s2 := same_new nd' (.lst [.ref e])
      exact q d [.ref e] _ (s1.trans s2) (s1.free nd') upd_same (.cons ⟨e, [], rfl, s2 _ _ upd_same, .nil⟩ .nil)
  | lt b l r =>
    have okm : litM (b, l, r) := ok
    have fin : ∀ (F H2 : Hp) (xl xr : V) (p' e : Addr), Same H F → TmAt F xl l → TmAt F xr r → F p' = some (.tup [.bl b, xl, xr]) → F e = none → Same (upd F e (.dK [])) H2 → ∀ d, (upd H2 e (.dK (mergeK [] [((.inr (shL (b, l, r)) : Key), .ref p')]))) d = none → Q (.ref d) (upd (upd H2 e (.dK (mergeK [] [((.inr (shL (b, l, r)) : Key), .ref p')]))) d (.lst [.ref e])) := fun F H2 xl xr p' e sF h1 h2 e' ne s1 d nd' => by
      have s2 : Same F (upd H2 e (.dK (mergeK [] [((.inr (shL (b, l, r)) : Key), V.ref p')]))) := But.same ne ((same_new ne _).trans s1) But.upd
      have s3 := same_new nd' (.lst [.ref e])
      refine q d [.ref e] _ (sF.trans (s2.trans s3)) (sF.free (s2.free nd')) upd_same (.cons ⟨e, _, rfl, s3 _ _ upd_same, ?_⟩ .nil)
      show DcR _ (mergeK [] [((.inr (shL (b, l, r)) : Key), V.ref p')]) (ddL [(b, l, r)])
      refine DcR.merge (m := [(b, l, r)]) (kvs := []) (l := []) (.cons rfl (LitAt.mono (s2.trans s3).tups (.mk e' h1 h2)) .nil) (fun y hy => ?_) .nil (fun y hy => by cases hy)
      rw [List.mem_singleton.mp hy]
      exact okm.S
    cases b with
    | true =>
      obtain ⟨p', x, y, e1, e2, hx, hy⟩ := two_at hv
      cases e1
      refine ⟨_, rfl, rfl, _, rfl, inF (by show decide (V.str "equal" = V.str "true") = false; decide +kernel) ?_⟩
      refine ⟨_, rfl, rfl, _, rfl, inF (by show decide (V.str "equal" = V.str "false") = false; decide +kernel) ?_⟩
      refine ⟨_, rfl, rfl, _, rfl, inF (by show decide (V.str "equal" = V.str "and") = false; decide +kernel) ?_⟩
      refine ⟨_, rfl, rfl, _, rfl, inF (by show decide (V.str "equal" = V.str "or") = false; decide +kernel) ?_⟩
      refine ⟨_, rfl, rfl, _, rfl, inF (by show decide (V.str "equal" = V.str "not") = false; decide +kernel) ?_⟩
      refine ⟨_, rfl, p, _, rfl, .inl (.inl e2), rfl, _, _, rfl, _, _, rfl, _, _, rfl, rfl, ?_⟩
      refine ⟨_, rfl, rfl, _, rfl, _, rfl, by show 3 ≤ sizeLine; decide, fun t nt => ?_⟩
      rw [show decide (V.str (mhead (.lt true l r)) = V.str "equal") = true by show decide (V.str "equal" = V.str "equal") = true; decide +kernel]
      have s1 := same_new nt (.tup [.bl true, x, y])
      refine fun e ne => ⟨_, rfl, .ref t, (true, l, r), rfl, .mk ((same_new ne _) _ _ upd_same) (TmAt.mono (s1.trans (same_new ne _)).tups _ _ hx) (TmAt.mono (s1.trans (same_new ne _)).tups _ _ hy), lit_ok okm, fun H2 s2 => ⟨_, rfl, s2 _ _ upd_same, [((.inr (shL (true, l, r)) : Key), .ref t)], rfl, by show 1 ≤ 15; decide, by show 1 ≤ sizeLine; decide, fun d nd' => ?_⟩⟩
      exact fin _ H2 x y t e s1 (TmAt.mono s1.tups _ _ hx) (TmAt.mono s1.tups _ _ hy) upd_same ne s2 d nd'
    | false =>
      obtain ⟨p', z, e1, e2, hz⟩ := one_at hv
      cases e1
      obtain ⟨pz, x, y, e1, e3, hx, hy⟩ := two_at hz
      subst e1
      refine ⟨_, rfl, rfl, _, rfl, inF (by show decide (V.str "not" = V.str "true") = false; decide +kernel) ?_⟩
      refine ⟨_, rfl, rfl, _, rfl, inF (by show decide (V.str "not" = V.str "false") = false; decide +kernel) ?_⟩
      refine ⟨_, rfl, rfl, _, rfl, inF (by show decide (V.str "not" = V.str "and") = false; decide +kernel) ?_⟩
      refine ⟨_, rfl, rfl, _, rfl, inF (by show decide (V.str "not" = V.str "or") = false; decide +kernel) ?_⟩
      refine ⟨_, rfl, rfl, _, rfl, inT (by show decide (V.str "not" = V.str "not") = true; decide +kernel) ?_⟩
      refine ⟨_, rfl, p, _, 1, .ref pz, rfl, rfl, .inl (.inl e2), at_1, pz, _, rfl, .inl (.inl e3), rfl, _, _, rfl, _, _, rfl, _, _, rfl, rfl, ?_⟩
      refine ⟨_, rfl, rfl, _, rfl, _, rfl, by show 3 ≤ sizeLine; decide, fun t nt => ?_⟩
      rw [show decide (V.str (mhead (.lt false l r)) = V.str "equal") = false by show decide (V.str "not" = V.str "equal") = false; decide +kernel]
      have s1 := same_new nt (.tup [.bl false, x, y])
      refine fun e ne => ⟨_, rfl, .ref t, (false, l, r), rfl, .mk ((same_new ne _) _ _ upd_same) (TmAt.mono (s1.trans (same_new ne _)).tups _ _ hx) (TmAt.mono (s1.trans (same_new ne _)).tups _ _ hy), lit_ok okm, fun H2 s2 => ⟨_, rfl, s2 _ _ upd_same, [((.inr (shL (false, l, r)) : Key), .ref t)], rfl, by show 1 ≤ 15; decide, by show 1 ≤ sizeLine; decide, fun d nd' => ?_⟩⟩
      exact fin _ H2 x y t e s1 (TmAt.mono s1.tups _ _ hx) (TmAt.mono s1.tups _ _ hy) upd_same ne s2 d nd'
  | an f g =>
    obtain ⟨p', x, y, e1, e2, hx, hy⟩ := two_at hv
    cases e1
    have hn : max f.high g.high + 1 < n + 1 := hn
    have hm : max (f.cnt + g.cnt) (max f.most g.most) ≤ 1000 := hm
    have hwid : max f.wid g.wid ≤ 64 := hwid
    refine ⟨_, rfl, rfl, _, rfl, inF (by show decide (V.str "and" = V.str "true") = false; decide +kernel) ?_⟩
    refine ⟨_, rfl, rfl, _, rfl, inF (by show decide (V.str "and" = V.str "false") = false; decide +kernel) ?_⟩
    refine ⟨_, rfl, rfl, _, rfl, inT (by show decide (V.str "and" = V.str "and") = true; decide +kernel) ?_⟩
    refine ⟨_, rfl, p, _, 1, x, rfl, rfl, .inl (.inl e2), at_1, x, f, rfl, hx, ok.1, by omega, by omega, by omega, fun d1 ws1 F1 s1 n1 e1 z1 => ?_⟩
    refine ⟨_, rfl, p, _, 2, y, rfl, rfl, .inl (.inl (s1 _ _ e2)), at_2, y, g, rfl, TmAt.mono s1.tups _ _ hy, ok.2, by omega, by omega, by omega, fun d2 ws2 F2 s2 n2 e2 z2 => ?_⟩
    have l1 := z1.len
    have l2 := z2.len
    rw [dd_len2] at l1 l2
    refine ⟨d1, d2, ws1, ws2, rfl, rfl, s2 _ _ e1, e2, small6 (by omega), fun d nd' => ?_⟩
    have s3 := same_new nd' (.lst (ws1 ++ ws2))
    refine q d _ _ (s1.trans (s2.trans s3)) (s1.free (s2.free nd')) upd_same ?_
    have e0 : (Mx.an f g).dd = f.dd ++ g.dd := List.map_append
    rw [e0]
    exact (z1.mono fun v l h => h.same (s2.trans s3)).app (z2.mono fun v l h => h.same s3)
  | or f g =>
    obtain ⟨p', x, y, e1, e2, hx, hy⟩ := two_at hv
    cases e1
    have hn : max f.high g.high + 1 < n + 1 := hn
    have hm : max (f.cnt * g.cnt) (max f.most g.most) ≤ 1000 := hm
    have hwid : f.wid + g.wid ≤ 64 := hwid
    have cf := cnt_most f
    have cg := cnt_most g
    refine ⟨_, rfl, rfl, _, rfl, inF (by show decide (V.str "or" = V.str "true") = false; decide +kernel) ?_⟩
    refine ⟨_, rfl, rfl, _, rfl, inF (by show decide (V.str "or" = V.str "false") = false; decide +kernel) ?_⟩
    refine ⟨_, rfl, rfl, _, rfl, inF (by show decide (V.str "or" = V.str "and") = false; decide +kernel) ?_⟩
    refine ⟨_, rfl, rfl, _, rfl, inT (by show decide (V.str "or" = V.str "or") = true; decide +kernel) ?_⟩
    refine ⟨_, rfl, p, _, 2, y, rfl, rfl, .inl (.inl e2), at_2, y, g, rfl, hy, ok.2, by omega, by omega, by omega, fun d2 ws2 F2 s2 n2 e3 z2 => ?_⟩
    refine ⟨_, rfl, p, _, 1, x, rfl, rfl, .inl (.inl (s2 _ _ e2)), at_1, x, f, rfl, TmAt.mono s2.tups _ _ hx, ok.1, by omega, by omega, by omega, fun d1 ws1 F1 s1 n1 e1 z1 => ?_⟩
    have l1 := z1.len
    have l2 := z2.len
    rw [dd_len2] at l1 l2
    have s21 := s2.trans s1
    refine ⟨d1, rfl, ⟨_, .inl (.inl e1)⟩, fun d nd' => ?_⟩
    have sn := same_new nd' (.lst [])
    refine walk_l (xs := ws1) (fun i F => ∃ acc, Same F1 F ∧ F d = some (.lst acc) ∧ ZA (LdA F) acc ((f.dd.take i).flatMap fun a => g.dd.map fun b => b.foldl addL a) ∧ acc.length ≤ i * g.cnt) ⟨[], sn, upd_same, .nil, Nat.zero_le _⟩ (fun i F _ h => ?_) (fun i v F hv' h => ?_) (fun F h => ?_)
    · obtain ⟨_, sF, _⟩ := h
      exact .inl (.inl (sF _ _ e1))
    · obtain ⟨acc, sF, ed, hA, la⟩ := h
      have li : i < ws1.length := (List.getElem?_eq_some_iff.mp hv').1
      obtain ⟨L1, hL1, a1, k1, rfl, ea1, r1⟩ := z1.get hv'
      have m1 := List.mem_of_getElem? hL1
      have up : (i + 1) * g.cnt ≤ f.cnt * g.cnt := Nat.mul_le_mul_right _ (by omega)
      have us : (i + 1) * g.cnt = i * g.cnt + g.cnt := Nat.succ_mul i g.cnt
      refine ⟨rfl, _, rfl, d2, rfl, ⟨_, .inl (.inl (sF _ _ (s1 _ _ e3)))⟩, walk_l (xs := ws2) (fun j G => ∃ acc, Same F1 G ∧ G d = some (.lst acc) ∧ ZA (LdA G) acc (((f.dd.take i).flatMap fun a => g.dd.map fun b => b.foldl addL a) ++ (g.dd.take j).map fun b => b.foldl addL L1) ∧ acc.length ≤ i * g.cnt + j) ⟨acc, sF, ed, by rw [List.take_zero, List.map_nil, List.append_nil]; exact hA, la⟩ (fun j G _ h => ?_) (fun j v G hv2 h => ?_) (fun G h => ?_)⟩
      · obtain ⟨_, sG, _⟩ := h
        exact .inl (.inl (sG _ _ (s1 _ _ e3)))
      · obtain ⟨acc, sG, ed, hA, la⟩ := h
        have lj : j < ws2.length := (List.getElem?_eq_some_iff.mp hv2).1
        obtain ⟨L2, hL2, a2, k2, rfl, ea2, r2⟩ := z2.get hv2
        have m2 := List.mem_of_getElem? hL2
        have w1 := dd_wid m1
        have w2 := dd_wid m2
        have q1 := r1.len
        have q2 := r2.len
        have f1 := sG _ _ ea1
        have f2 := sG _ _ (s1 _ _ ea2)
        refine ⟨rfl, fun pn npn => ?_⟩
        have na1 : a1 ≠ pn := ne_of_none f1 npn
        have na2 : a2 ≠ pn := ne_of_none f2 npn
        refine ⟨_, rfl, a1, k1, rfl, .inl (by rw [upd_ne na1]; exact f1), upd_same, na1, by omega, ?_⟩
        refine ⟨_, rfl, a2, k2, rfl, .inl (by rw [upd_ne na2, upd_ne na2]; exact f2), upd_same, na2, by omega, ?_⟩
        have sU : Same G (upd (upd (upd G pn (.dK [])) pn (.dK k1)) pn (.dK (mergeK k1 k2))) := But.same npn (But.same npn (same_new npn _) But.upd) But.upd
        have npd : d ≠ pn := ne_of_none ed npn
        have eU : (upd (upd (upd G pn (.dK [])) pn (.dK k1)) pn (.dK (mergeK k1 k2))) pn = some (.dK (mergeK k1 k2)) := upd_same
        generalize upd (upd (upd G pn (.dK [])) pn (.dK k1)) pn (.dK (mergeK k1 k2)) = U at sU eU ⊢
        have edU := sU _ _ ed
        refine ⟨acc, edU, small6' (by omega), ?_⟩
        have bu : But d U (upd U d (.lst (acc ++ [.ref pn]))) := But.upd
        have mu := bu.tups edU
        refine ⟨acc ++ [.ref pn], But.same nd' (sG.trans sU) bu, upd_same, ?_, by rw [List.length_append, List.length_singleton]; omega⟩
        rw [List.take_add_one, hL2, List.map_append, ← List.append_assoc]
        refine (hA.mono fun v l h => (h.same sU).but bu edU).app (.cons ⟨pn, _, rfl, bu _ _ npd.symm eU, ?_⟩ .nil)
        have mm : Tups F1 (upd U d (.lst (acc ++ [.ref pn]))) := (sG.trans sU).tups.trans mu
        exact DcR.merge (r2.mono (s1.tups.trans mm)) (dd_S ok.2 m2) (r1.mono mm) (dd_S ok.1 m1)
      · obtain ⟨acc, sG, ed, hA, la⟩ := h
        refine ⟨acc, sG, ed, ?_, by omega⟩
        rw [List.take_add_one, hL1, List.flatMap_append]
        rw [l2, ← dd_len2, List.take_length] at hA
        show ZA (LdA G) acc (_ ++ List.flatMap _ [L1])
        rw [List.flatMap_singleton]
        exact hA
    · obtain ⟨acc, sF, ed, hA, la⟩ := h
      refine q d acc F (s21.trans sF) (s21.free nd') ed ?_
      rw [dd_or, ← List.take_length (l := f.dd), dd_len2, ← l1]
      exact hA
theorem ok_ld {f fS : Addr} {fd dS : FuncData} (D : Df K mg "literal_dicts" s_literal_dicts ["matrix"] f fd) (DS : Df K mg "show_literal" s_show_literal ["literal"] fS dS) (GS : FnOk P w K mg base CX0 63 fS dS ["literal"] spShowL) : ∀ n : Nat, FnOk P w K mg base CX0 (n + 63) f fd ["matrix"] (spLD n)
  | 0 => by
    have no : ∀ vs H Q E, ¬ spLD 0 vs H Q E := fun vs H Q E h => by
      obtain ⟨_, _, _, _, _, hk, _⟩ := h
      omega
    exact ⟨fun vs H Q E h => absurd h (no vs H Q E), fun A outer s H args us vs Q E _ _ _ _ h => absurd h (no vs H Q E)⟩
  | n + 1 => ok_ld1 D DS GS (ok_ld D DS GS n)
end
end K23
namespace K23
open PySem PySem.Spec PyProof.Rows L2 Own HT
structure DkG (K : PySem.W.Frag) (mg : Str → Option Value) (x : Str) (st : Stmt) (ps : List Str) (n : Nat) (kn : Str) (vd : V) (f : Addr) (fd : FuncData) : Prop where
  F : Fun K x x st f fd
  b : ∃ ds, Vals [vd] ds ∧ Binds K fd ps ds
  kb : KBn K fd ps n [kn] (fun us ws => us ++ ws) (fun vs zs => vs ++ zs)
  m : mg x = some (.ref f)
section
variable {P : Program} {w : World} {K : PySem.W.Frag} {mg : Str → Option Value} {base : Heap}
def ClA (H : Hp) (v : V) (c : List Lit) : Prop := ∃ p : Addr, v = .ref p ∧ ClsAt H p c
theorem ClA.same {H H' : Hp} {v : V} {c : List Lit} (h : ClA H v c) (s : Same H H') : ClA H' v c := by
  obtain ⟨p, e, r⟩ := h
  exact ⟨p, e, r.same s⟩
theorem ClA.tups {H H' : Hp} {v : V} {c : List Lit} (h : ClA H v c) (m : Tups H H') : ClA H' v c := by
  obtain ⟨p, e, xs, e2, r⟩ := h
  exact ⟨p, e, xs, m _ _ e2, r.mono m⟩
theorem litM_N {x : Lit} (h : litM x) : litN x := ⟨⟨trivial, by have := h.2.2.2.1; omega, by have := h.2.1; omega⟩, trivial, by have := h.2.2.2.2; omega, by have := h.2.2.1; omega⟩
theorem dd_M {m : Mx} (ok : m.ok) {l : List Lit} (h : l ∈ m.dd) : ∀ x ∈ l, litM x := by
  obtain ⟨c, hc, rfl⟩ := List.mem_map.mp h
  exact fun x hx => raw_ok m ok c hc x (dd_sub hx)
def spMC (C : Addr) : Sp := fun vs H Q E => ∃ (v : V) (m : Mx) (lim : Int), vs = [v, .int lim] ∧ MxAt H v m ∧ m.ok ∧ m.high < 12 ∧ m.wid ≤ 64 ∧ 1 ≤ lim ∧ lim ≤ 1000 ∧
  ((m.most : Int) ≤ lim → ∀ (d : Addr) (ws : List V) (H' : Hp), Same H H' → H d = none → H' d = some (.lst ws) → ZA (ClA H') ws (m.dd.map numC) → Q (.ref d) H') ∧
  (lim < (m.most : Int) → ∀ (d : Addr) (H' : Hp), Same H H' → H d = none → H' d = some (.xd [("limit", .str "clauses")]) → E (.ref C) (some d) H')
theorem sc_mc : FnScope ["matrix", "limit", "literals"] ["matrix", "limit"] (defScope s_matrix_clauses) := ⟨rfl, rfl, rfl, by decide +kernel, rfl, by decide +kernel, by decide +kernel⟩
set_option maxHeartbeats 1000000 in
theorem ok_mc {f C fC fL fN : Addr} {fd dC dL dN : FuncData} (D : DkG K mg "matrix_clauses" s_matrix_clauses ["matrix", "limit"] 1 "limit" (.int 200) f fd)
    (DC : Df K mg "clause_count" s_clause_count ["matrix", "limit"] fC dC) (GC : FnOk P w K mg base (L2N.CX P w) 14 fC dC ["matrix", "limit"] (spCC C 12))
    (DL : Df K mg "literal_dicts" s_literal_dicts ["matrix"] fL dL) (GL : FnOk P w K mg base CX0 75 fL dL ["matrix"] (spLD 12))
    (DN : Df K mg "numbered" s_numbered ["literals"] fN dN) (GN : FnOk P w K mg base CX0 23 fN dN ["literals"] spNumb) (m_list : mg "list" = none) : FnOk P w K mg base (L2N.CX P w) 76 f fd ["matrix", "limit"] (spMC C) := by
  refine D.F.okN sc_mc (fun vs H Q E h => ?_) (fun cdv A outer s H vs Q E hr h => ?_)
  · obtain ⟨_, _, _, rfl, _⟩ := h; rfl
  obtain ⟨v, m, lim, rfl, hv, ok, hn, hw, l1, l2, q, qE⟩ := h
  have nd := sc_mc.nd
  have r14 : Room 14 _ := hr.mono (by decide)
  have r75 : Room 75 _ := hr.mono (by decide)
  have r23 : Room 23 _ := hr.mono (by decide)
  have tk : L2N.Takes (cxOf (L2N.CX P w) P w K mg base ["matrix", "limit", "literals"] "matrix_clauses" (defScope s_matrix_clauses) f cdv A outer s H E) (fun cls d _ H' => E cls d H') := L2N.takes_of rfl rfl rfl rfl
  refine ⟨_, (pss_cons (ps_expr (by exact (pe_callS GC r14 (by rfl) DC.m DC.F.kp DC.b (fun σ => L2N.passAt tk σ) (pa_cons (pv 0) (pa_cons (pv 1) pa_nil)))))
    (pss_one (ps_ret (pe_lc (own := [("literals", 2)]) (g := gName 2) (tt := tYes) (te := tCall spNumb [] E0 (tCons (tListVals (tVar 2)) tNil)) rfl nd (pi_list (pe_call GL r75 (by rfl) DL.m DL.F.kp DL.b .nil pass0 (pa_cons (pv 0) pa_nil))) (blkOk_by (N := ["matrix", "limit", "literals"]) (sc := defScope s_matrix_clauses) (by decide +kernel)) (fun _ _ _ _ _ => (pg_name (i := 2) nd rfl (.inl rfl))) (fun _ _ _ _ _ => pts_nil) (fun _ _ _ _ _ => pe_call GN r23 (by rfl) DN.m DN.F.kp DN.b .nil pass0 (pa_cons (pe_listVals rfl (by rfl) m_list (pv 2)) pa_nil)))))), ?_⟩
  refine ⟨_, rfl, _, rfl, v, m, lim, rfl, hv, hn, l1, l2, fun le H1 s1 => ?_, fun gt => qE gt⟩
  refine ⟨_, rfl, v, m, rfl, hv.same s1, ok, hn, by omega, hw, fun d1 ws H2 s2 n1 e1 z1 => ⟨d1, rfl, ⟨_, .inl (.inl e1)⟩, fun d nd' => ?_⟩⟩
  have lz := z1.len
  have s12 := s1.trans s2
  have cm := cnt_most m
  rw [dd_len2] at lz
  refine walk_l (xs := ws) (fun i F => ∃ acc, Same H2 F ∧ F d = some (.lst acc) ∧ ZA (ClA F) acc ((m.dd.take i).map numC)) ⟨[], same_new nd' _, upd_same, .nil⟩ (fun i F _ h => ?_) (fun i x F hx h => ?_) (fun F h => ?_)
  · obtain ⟨_, sF, _⟩ := h
    exact .inl (.inl (sF _ _ e1))
  · obtain ⟨acc, sF, ed, hA⟩ := h
    have li : i < ws.length := (List.getElem?_eq_some_iff.mp hx).1
    obtain ⟨l, hl, a, kvs, rfl, ea, r⟩ := z1.get hx
    have ml := List.mem_of_getElem? hl
    have lr := r.len
    have lw := dd_wid ml
    have la := hA.len
    rw [List.length_map, List.length_take, dd_len2] at la
    refine ⟨rfl, _, rfl, a, kvs, rfl, sF _ _ ea, fun p np => ?_⟩
    have s3 := same_new np (.lst (kvs.map (·.2)))
    refine ⟨p, _, l, rfl, upd_same, r.vals.mono (sF.tups.trans s3.tups), by omega, fun x hx => litM_N (dd_M ok ml x hx), fun u F3 s4 hu => ?_⟩
    have s34 := s3.trans s4
    have ed3 := s34 _ _ ed
    refine ⟨acc, ed3, small6' (by omega), ?_⟩
    have bu : But d F3 (upd F3 d (.lst (acc ++ [.ref u]))) := But.upd
    have mu := bu.tups ed3
    refine ⟨acc ++ [.ref u], But.same nd' (sF.trans s34) bu, upd_same, ?_⟩
    rw [List.take_add_one, hl, List.map_append]
    obtain ⟨ys, eu, hys⟩ := hu
    exact (hA.mono fun v c h => h.tups (s34.tups.trans mu)).app (.cons ⟨u, rfl, ys, mu _ _ eu, hys.mono mu⟩ .nil)
  · obtain ⟨acc, sF, ed, hA⟩ := h
    refine q le d acc F (s12.trans sF) (s12.free nd') ed ?_
    rw [lz, ← dd_len2, List.take_length] at hA
    exact hA
end
end K23
namespace K23
open PySem PySem.Spec PyProof.Rows L2 Own HT
section
variable {P : Program} {w : World} {K : PySem.W.Frag} {mg : Str → Option Value} {base : Heap}
def KnK (H : Hp) (a : Addr) (ks : List Key) (σ : Key → Int) : Prop := ∃ kvs : List (Key × V), H a = some (.dK kvs) ∧ ∀ k ∈ ks, valV kvs k = some (.int (σ k))
theorem KnK.same {H H' : Hp} {a : Addr} {ks : List Key} {σ : Key → Int} (h : KnK H a ks σ) (s : Same H H') : KnK H' a ks σ := by
  obtain ⟨kvs, e, al⟩ := h
  exact ⟨kvs, s _ _ e, al⟩
def atomK (l r : Ter) : Prop := (l.wf sym20 anyNum ∧ r.wf sym20 anyNum) ∨ ∃ f as, l = .ap f as ∧ ((f = ("p" : Str) ∧ as.length = 1) ∨ (f = ("q" : Str) ∧ as.length = 2) ∨ (f = ("r" : Str) ∧ as.length = 0)) ∧ Ter.wfs sym20 anyNum as ∧ r = .ap "true" []
theorem fineU {t : Ter} (h : t.wf sym20 anyNum) : t.wf symFine keyFine := wf_mono (fun _ _ h => sym20_str h) (fun k h => by obtain ⟨i, rfl⟩ := h; exact trivial) t h
theorem finesU : ∀ {ts : List Ter}, Ter.wfs sym20 anyNum ts → Ter.wfs symFine keyFine ts
  | [], _ => trivial
  | a :: r, h => ⟨fineU h.1, finesU h.2⟩
theorem atomK_fine {l r : Ter} (h : atomK l r) : l.wf symFine keyFine ∧ r.wf symFine keyFine := by
  rcases h with ⟨h1, h2⟩ | ⟨f, as, rfl, hf, hw, rfl⟩
  · exact ⟨fineU h1, fineU h2⟩
  · refine ⟨⟨?_, finesU hw⟩, by show PyData.strOk _ = true; decide +kernel, trivial⟩
    rcases hf with ⟨rfl, _⟩ | ⟨rfl, _⟩ | ⟨rfl, _⟩ <;> (show PyData.strOk _ = true; decide +kernel)
theorem isTr_wfU {U : Key → Prop} {t : Ter} (h : t.wf sym20 U) : isTr t = false := by
  cases t with
  | var k => rfl
  | ap f as =>
    show (f == ("true" : Str) && as.isEmpty) = false
    rw [sym20_not h.1]; rfl
def spValK (n : Nat) : Sp := fun vs H Q _ => ∃ (ks : List Key) (v : V) (F kd : Addr) (t : Ter) (M : Mdl) (ρ : Key → Int), vs = [v, .ref F, .ref kd] ∧ TmAt H v t ∧ FnsAt H F V.int 0 M.fn ∧ KnK H kd ks ρ ∧ t.wf sym20 anyNum ∧ t.inK ks ∧ t.nest < n ∧ ∀ H', Same H H' → Q (.int (t.valK M ρ)) H'
theorem ok_valueK1 {f : Addr} {fd : FuncData} (D : Df K mg "_law_value" s__law_value ["term", "functions", "known"] f fd) (m_isinstance : mg "isinstance" = none) (m_tuple : mg "tuple" = none) {n : Nat}
    (G : FnOk P w K mg base CX0 (n + 1) f fd ["term", "functions", "known"] (spValK n)) : FnOk P w K mg base CX0 (n + 1 + 1) f fd ["term", "functions", "known"] (spValK (n + 1)) := by
  refine D.F.ok sc_value (fun vs H Q E h => ?_) (fun cdv A outer s H vs Q E hr h => ?_)
  · obtain ⟨ks, v, F, kd, t, M, ρ, rfl, _⟩ := h; rfl
  obtain ⟨ks, v, F, kd, t, M, ρ, rfl, ht, hF, hk, hw, hi, hn, q⟩ := h
  have nd := sc_value.nd
  refine ⟨_, (pss_cons (ps_if (pt_not (pt_val (pe_callB call_isiTer (by rfl) m_isinstance (by decide +kernel) (pa_cons (pv 0) (pa_cons (pe_bltn (v := .ty "tuple") (by rfl) m_tuple (by decide +kernel) rfl) pa_nil)))))
      (pss_one (ps_ret (pe_dget (hu_of hr) (pv 2) (pv 0) (fun _ _ => rfl))))
      pss_nil)
    (pss_cons (ps_set (i := 3) nd rfl (.inl rfl) (pe_callTy call_tuple_of (by rfl) m_tuple (by decide +kernel) (pa_cons (pe_lc (own := [("part", 4)]) (g := gName 4) (tt := tYes) (te := tCall (spValK n) [] E0 (tCons (tVar 4) (tCons (tVar 1) (tCons (tVar 2) tNil)))) rfl nd (pi_tup (pe_slice sl_1 (pv 0) (po_some pe_int) po_none)) (blkOk_by (N := ["term","functions","known","values","part"]) (sc := defScope s__law_value) (by decide +kernel)) (fun _ _ _ _ _ => pg_name (i := 4) nd rfl (Or.inl rfl)) (fun _ _ _ _ _ => pts_nil) (fun _ _ _ _ _ => pe_call G hr (by rfl) D.m D.F.kp D.b .nil pass0 (pa_cons (pv 4) (pa_cons (pv 1) (pa_cons (pv 2) pa_nil))))) pa_nil)))
    (pss_one (ps_ret (pe_dget2 (hu_of hr) (pe_dget2 (hu_of hr) (pv 1) (pe_ix ix_tup (pv 0) pe_int (fun _ _ => rfl)) pe_dnewT ⟨rfl, rfl, rfl, rfl⟩) (pv 3) pe_int ⟨rfl, rfl, rfl, rfl⟩))))), ?_⟩
  refine ⟨v, rfl, v, t, rfl, ht, _, rfl, ?_⟩
  cases ht with
  | int i =>
    obtain ⟨kvs, ek, al⟩ := hk
    exact iteT ⟨_, rfl, _, rfl, kd, .int (ρ (.inl i)), rfl, DGet.of (k := .inl i) ek (al _ hi), q H (Same.refl _)⟩
  | str x =>
    obtain ⟨i, e⟩ := hw
    cases e
  | @ap p g xs as e hs =>
    refine iteF ?_
    have ls := hs.len
    have hn : Ter.nests as + 1 < n + 1 := hn
    have l2 : as.length ≤ 2 := by
      rcases hw.1 with ⟨_, z⟩ | ⟨_, z⟩ | ⟨_, z⟩ | ⟨_, z⟩ <;> omega
    refine ⟨.ref p, rfl, 1, rfl, p, .str g, xs, rfl, rfl, rfl, .inl (.inl e), fun p2 np2 => ?_⟩
    have s2 := same_new np2 (.tup xs)
    refine ⟨p2, rfl, ⟨xs, .inl (.inl upd_same)⟩, fun d nd' => ?_⟩
    refine walk_t (xs := xs) (fun i H2 => Same (upd H p2 (.tup xs)) H2 ∧ H2 d = some (.lst ((Ter.valsK M ρ (as.take i)).map V.int))) ⟨same_new nd' _, upd_same⟩ (fun i H2 _ h => .inl (.inl (h.1 _ _ upd_same))) (fun i x H2 hx h => ?_) (fun H2 h => ?_)
    · obtain ⟨sm, ed⟩ := h
      obtain ⟨t1, et, hx1⟩ := hs.get hx
      have sa := s2.trans sm
      have n1 := nest_le_of et
      have li : i < as.length := (List.getElem?_eq_some_iff.mp et).1
      refine ⟨rfl, ?_⟩
      refine ⟨_, rfl, _, rfl, _, rfl, ks, x, F, kd, t1, M, ρ, rfl, TmAt.mono sa.tups _ _ hx1, hF.same sa, hk.same sa, wfs_get hw.2 et, wfs_get hi.2 et, by omega, fun H3 s3 => ?_⟩
      have ed3 := s3 _ _ ed
      refine ⟨_, ed3, small6' (by rw [List.length_map, valsK_len, List.length_take]; omega), But.same nd' (sm.trans s3) But.upd, ?_⟩
      rw [upd_same, List.take_add_one, et, valsK_app, List.map_append]
      rfl
    · obtain ⟨sm, ed⟩ := h
      rw [ls, List.take_length] at ed
      refine ⟨d, _, rfl, .inl ⟨.inl (.inl ed), fun p3 np3 => ?_⟩⟩
      have s3 := same_new np3 (.tup ((Ter.valsK M ρ as).map V.int))
      have sa := s2.trans (sm.trans s3)
      refine ⟨_, rfl, F, rfl, isD_k (p4 := 0) (hF.same sa), _, rfl, p, _, 0, .str g, rfl, rfl, .inl (.inl (sa _ _ e)), head_at, fun p4 np4 => ?_⟩
      exact get2 (hF.same sa) g _ upd_same np4 (q _ (sa.trans (same_new np4 _)))
theorem ok_valueK {f : Addr} {fd : FuncData} (D : Df K mg "_law_value" s__law_value ["term", "functions", "known"] f fd) (m_isinstance : mg "isinstance" = none) (m_tuple : mg "tuple" = none) : ∀ n : Nat, FnOk P w K mg base CX0 (n + 1) f fd ["term", "functions", "known"] (spValK n)
  | 0 => by
    have no : ∀ vs H Q E, ¬ spValK 0 vs H Q E := fun vs H Q E h => by
      obtain ⟨_, _, _, _, _, _, _, _, _, _, _, _, _, hk, _⟩ := h
      omega
    exact ⟨fun vs H Q E h => absurd h (no vs H Q E), fun A outer s H args us vs Q E _ _ _ _ h => absurd h (no vs H Q E)⟩
  | n + 1 => ok_valueK1 D m_isinstance m_tuple (ok_valueK D m_isinstance m_tuple n)
def spEqHK : Sp := fun vs H Q _ => ∃ (ks : List Key) (x y : V) (T kd : Addr) (l r : Ter) (M : Mdl) (ρ : Key → Int), vs = [x, y, .ref T, .ref kd] ∧ TmAt H x l ∧ TmAt H y r ∧ TabAt H T M ∧ KnK H kd ks ρ ∧ atomK l r ∧ litIn ks ((true, l, r) : Lit) ∧ l.nest ≤ 3 ∧ r.nest ≤ 3 ∧ ∀ H', Same H H' → Q (.bl (eqHoldsK M ρ l r)) H'
theorem ok_eqhK {f fV : Addr} {fd dV : FuncData} (D : Df K mg "_law_equal_holds" s__law_equal_holds ["left", "right", "tables", "known"] f fd) (DV : Df K mg "_law_value" s__law_value ["term", "functions", "known"] fV dV)
    (GV : FnOk P w K mg base CX0 5 fV dV ["term", "functions", "known"] (spValK 4)) (m_tuple : mg "tuple" = none) : FnOk P w K mg base CX0 6 f fd ["left", "right", "tables", "known"] (spEqHK) := by
  refine D.F.ok sc_eqh (fun vs H Q E h => ?_) (fun cdv A outer s H vs Q E hr h => ?_)
  · obtain ⟨ks, x, y, T, kd, l, r, M, ρ, rfl, _⟩ := h; rfl
  obtain ⟨ks, x, y, T, kd, l, r, M, ρ, rfl, hl, hrr, hT, hk, ha, hi, n1, n2, q⟩ := h
  have nd := sc_eqh.nd
  refine ⟨_, (pss_cons (ps_if (pt_cmpR (op_eqD hr.units) (pv 1) (pe_tup (pa_cons pe_str pa_nil)) (nomark _))
      (pss_cons (ps_if (pt_cmpR (op_eqD hr.units) (pv 0) (pe_tup (pa_cons pe_str pa_nil)) (nomark _))
      (pss_one (ps_ret pe_bl))
      pss_nil)
    (pss_cons (ps_set (i := 4) nd rfl (.inl rfl) (pe_callTy call_tuple_of (by rfl) m_tuple (by decide +kernel) (pa_cons (pe_lc (own := [("part", 5)]) (g := gName 5) (tt := tYes) (te := tCall (spValK 4) [] E0 (tCons (tVar 5) (tCons (tOp (rIxT K) (tVar 2) (tC (.int 1))) (tCons (tVar 3) tNil)))) rfl nd (pi_tup (pe_slice sl_1 (pv 0) (po_some pe_int) po_none)) (blkOk_by (N := ["left","right","tables","known","values","part"]) (sc := defScope s__law_equal_holds) (by decide +kernel)) (fun _ _ _ _ _ => pg_name (i := 5) nd rfl (Or.inl rfl)) (fun _ _ _ _ _ => pts_nil) (fun _ _ _ _ _ => pe_call GV hr (by rfl) DV.m DV.F.kp DV.b .nil pass0 (pa_cons (pv 5) (pa_cons (pe_ix ix_tup (pv 2) pe_int (fun _ _ => rfl)) (pa_cons (pv 3) pa_nil))))) pa_nil)))
    (pss_one (ps_ret (pe_dget2 (hu_of hr) (pe_dget2 (hu_of hr) (pe_ix ix_tup (pv 2) pe_int (fun _ _ => rfl)) (pe_ix ix_tup (pv 0) pe_int (fun _ _ => rfl)) pe_dnewT ⟨rfl, rfl, rfl, rfl⟩) (pv 4) pe_bl ⟨rfl, rfl, rfl, rfl⟩)))))
      pss_nil)
    (pss_one (ps_ret (pe_cmpR op_eq (pe_call GV hr (by rfl) DV.m DV.F.kp DV.b .nil pass0 (pa_cons (pv 0) (pa_cons (pe_ix ix_tup (pv 2) pe_int (fun _ _ => rfl)) (pa_cons (pv 3) pa_nil)))) (pe_call GV hr (by rfl) DV.m DV.F.kp DV.b .nil pass0 (pa_cons (pv 1) (pa_cons (pe_ix ix_tup (pv 2) pe_int (fun _ _ => rfl)) (pa_cons (pv 3) pa_nil)))) (nomark _))))), ?_⟩
  obtain ⟨fl, fr⟩ := atomK_fine ha
  refine ⟨_, rfl, by show 1 ≤ sizeLine; decide, fun p1 np1 => ?_⟩
  have s1 := same_new np1 (.tup [.str "true"])
  refine ⟨r.dat, trueT.dat, dp_ter r y (TmAt.mono s1.tups _ _ hrr), .tup (.inl (.inl upd_same)) (.cons (.str "true") .nil), shaped_ter fr (by omega), by decide +kernel, _, rfl, ?_⟩
  rw [isTr_eq]
  unfold eqHoldsK at q
  rcases ha with ⟨wl, wr⟩ | ⟨g, as, rfl, hf, hw, rfl⟩
  · rw [isTr_wfU wr] at q ⊢
    refine iteF ?_
    obtain ⟨F, Gp, eT, hF, hG⟩ := hT.same s1
    refine ⟨_, rfl, _, rfl, T, _, 1, _, rfl, rfl, .inl (.inl eT), at_1, _, rfl, ks, x, F, kd, l, M, ρ, rfl, TmAt.mono s1.tups _ _ hl, hF, hk.same s1, wl, hi.1, by omega, fun H2 s2 => ?_⟩
    refine ⟨_, rfl, _, rfl, T, _, 1, _, rfl, rfl, .inl (.inl (s2 _ _ eT)), at_1, _, rfl, ks, y, F, kd, r, M, ρ, rfl, TmAt.mono (s1.trans s2).tups _ _ hrr, hF.same s2, hk.same (s1.trans s2), wr, hi.2, by omega, fun H3 s3 => ⟨rfl, ?_⟩⟩
    have e : decide (V.int (l.valK M ρ) = V.int (r.valK M ρ)) = decide (l.valK M ρ = r.valK M ρ) := by
      by_cases c : l.valK M ρ = r.valK M ρ
      · rw [decide_eq_true c, decide_eq_true (congrArg V.int c)]
      · rw [decide_eq_false c, decide_eq_false (fun z => c (V.int.inj z))]
    rw [e]
    exact q H3 (s1.trans (s2.trans s3))
  · have tt : isTr (.ap "true" []) = true := by decide +kernel
    rw [tt] at q ⊢
    refine iteT ?_
    refine ⟨_, rfl, by show 1 ≤ sizeLine; decide, fun p2 np2 => ?_⟩
    have s2 := s1.trans (same_new np2 (.tup [.str "true"]))
    have hl2 := TmAt.mono s2.tups _ _ hl
    refine ⟨_, trueT.dat, dp_ter _ x hl2, .tup (.inl (.inl upd_same)) (.cons (.str "true") .nil), shaped_ter fl (by omega), by decide +kernel, _, rfl, ?_⟩
    rw [isTr_eq, isTr_pred hf]
    refine iteF ?_
    have hT2 := hT.same s2
    have hk2 := hk.same s2
    generalize upd (upd H p1 (.tup [.str "true"])) p2 (.tup [.str "true"]) = H2 at s2 hl2 hT2 hk2
    cases hl2 with
    | @ap p g xs as e hs =>
    have ls := hs.len
    have hn : Ter.nests as + 1 ≤ 3 := n1
    have l2 : as.length ≤ 2 := by
      rcases hf with ⟨_, z⟩ | ⟨_, z⟩ | ⟨_, z⟩ <;> omega
    obtain ⟨F, Gp, eT, hF, hG⟩ := hT2
    refine ⟨.ref p, rfl, 1, rfl, p, .str g, xs, rfl, rfl, rfl, .inl (.inl e), fun p3 np3 => ?_⟩
    have s3 := same_new np3 (.tup xs)
    refine ⟨p3, rfl, ⟨xs, .inl (.inl upd_same)⟩, fun d nd' => ?_⟩
    refine walk_t (xs := xs) (fun i H4 => Same (upd H2 p3 (.tup xs)) H4 ∧ H4 d = some (.lst ((Ter.valsK M ρ (as.take i)).map V.int))) ⟨same_new nd' _, upd_same⟩ (fun i H4 _ h => .inl (.inl (h.1 _ _ upd_same))) (fun i x H4 hx h => ?_) (fun H4 h => ?_)
    · obtain ⟨sm, ed⟩ := h
      obtain ⟨t1, et, hx1⟩ := hs.get hx
      have sa := s3.trans sm
      have n1 := nest_le_of et
      have li : i < as.length := (List.getElem?_eq_some_iff.mp et).1
      refine ⟨rfl, ?_⟩
      refine ⟨_, rfl, _, rfl, T, _, 1, _, rfl, rfl, .inl (.inl (sa _ _ eT)), at_1, _, rfl, ks, x, F, kd, t1, M, ρ, rfl, TmAt.mono sa.tups _ _ hx1, hF.same sa, hk2.same sa, wfs_get hw et, wfs_get hi.1.2 et, by omega, fun H5 s5 => ?_⟩
      have ed5 := s5 _ _ ed
      refine ⟨_, ed5, small6' (by rw [List.length_map, valsK_len, List.length_take]; omega), But.same nd' (sm.trans s5) But.upd, ?_⟩
      rw [upd_same, List.take_add_one, et, valsK_app, List.map_append]
      rfl
    · obtain ⟨sm, ed⟩ := h
      rw [ls, List.take_length] at ed
      refine ⟨d, _, rfl, .inl ⟨.inl (.inl ed), fun p5 np5 => ?_⟩⟩
      have s5 := same_new np5 (.tup ((Ter.valsK M ρ as).map V.int))
      have sa := s3.trans (sm.trans s5)
      refine ⟨_, rfl, T, _, 2, _, rfl, rfl, .inl (.inl (sa _ _ eT)), at_2, Gp, rfl, isD_k (p4 := 0) (hG.same sa), _, rfl, p, _, 0, .str g, rfl, rfl, .inl (.inl (sa _ _ e)), head_at, fun p6 np6 => ?_⟩
      exact get2 (hG.same sa) g _ upd_same np6 (q _ (s2.trans (sa.trans (same_new np6 _))))
end
end K23
namespace K23
open PySem PySem.Spec PyProof.Rows L2 Own HT
section
variable {P : Program} {w : World} {K : PySem.W.Frag} {mg : Str → Option Value} {base : Heap}
def spNms (n : Nat) : Sp := fun vs H Q _ => ∃ (v : V) (t : Ter), vs = [v] ∧ TmAt H v t ∧ t.nest < n ∧ t.size ≤ 1000 ∧ ∀ (l : Addr) (H' : Hp), Same H H' → H l = none → H' l = some (.lst (t.ky.map kV)) → Q (.ref l) H'
theorem sc_nms : FnScope ["term", "names", "part"] ["term"] (defScope s__law_names) := ⟨rfl, rfl, rfl, by decide +kernel, rfl, by decide +kernel, by decide +kernel⟩
theorem ok_nms1 {f : Addr} {fd : FuncData} (D : Df K mg "_law_names" s__law_names ["term"] f fd) (m_isinstance : mg "isinstance" = none) (m_tuple : mg "tuple" = none) {n : Nat} (G : FnOk P w K mg base CX0 (n + 1) f fd ["term"] (spNms n)) : FnOk P w K mg base CX0 (n + 1 + 1) f fd ["term"] (spNms (n + 1)) := by
  refine D.F.ok sc_nms (fun vs H Q E h => ?_) (fun cdv A outer s H vs Q E hr h => ?_)
  · obtain ⟨_, _, rfl, _⟩ := h; rfl
  obtain ⟨v, t, rfl, ht, hn, hz, q⟩ := h
  have nd := sc_nms.nd
  refine ⟨_, (pss_cons (ps_if (pt_not (pt_val (pe_callB call_isiTer (by rfl) m_isinstance (by decide +kernel) (pa_cons (pv 0) (pa_cons (pe_bltn (v := .ty "tuple") (by rfl) m_tuple (by decide +kernel) rfl) pa_nil)))))
      (pss_one (ps_ret (pe_lst (pa_cons (pv 0) pa_nil))))
      pss_nil)
    (pss_cons (ps_set (i := 1) nd rfl (.inl rfl) (pe_lst pa_nil))
    (pss_cons (ps_for PassesOwn.never rfl (pi_tup (pe_slice sl_1 (pv 0) (po_some pe_int) po_none)) (pg_name (i := 2) nd rfl (.inl rfl))
      (pss_one (ps_set (i := 1) nd rfl (.inl rfl) (pe_op op_cat (pv 1) (pe_call G hr (by rfl) D.m D.F.kp D.b .nil pass0 (pa_cons (pv 2) pa_nil))))))
    (pss_one (ps_ret (pv 1)))))), ?_⟩
  refine ⟨v, rfl, v, t, rfl, ht, _, rfl, ?_⟩
  cases ht with
  | int i => exact iteT ⟨_, rfl, by show 1 ≤ sizeLine; decide, fun l nl => q l _ (same_new nl _) nl upd_same⟩
  | str x => exact iteT ⟨_, rfl, by show 1 ≤ sizeLine; decide, fun l nl => q l _ (same_new nl _) nl upd_same⟩
  | @ap p g xs as e hs =>
    refine iteF ?_
    have ls := hs.len
    have hn : Ter.nests as + 1 < n + 1 := hn
    have hz : Ter.sizes as + 1 ≤ 1000 := hz
    refine ⟨Nat.zero_le _, fun l0 nl0 => ?_⟩
    have s0 := same_new nl0 (.lst [])
    refine ⟨_, rfl, 1, rfl, p, .str g, xs, rfl, rfl, rfl, .inl (.inl (s0 _ _ e)), fun p2 np2 => ?_⟩
    have s2 := same_new np2 (.tup xs)
    refine ⟨p2, rfl, ⟨xs, .inl (.inl upd_same)⟩, for_tup (xs := xs) (fun i σ X => ∃ l2 y3, σ = [some (.ref p), some (.ref l2), y3] ∧ Same H X ∧ H l2 = none ∧ X p2 = some (.tup xs) ∧ X l2 = some (.lst ((Ter.kys (as.take i)).map kV)))
      ⟨l0, none, rfl, s0.trans s2, nl0, upd_same, s2 _ _ upd_same⟩ (fun i σ X _ h => ?_) (fun i x σ X hx h => ?_) (fun σ X h => ?_)⟩
    · obtain ⟨_, _, _, _, _, e4, _⟩ := h
      exact .inl (.inl e4)
    · obtain ⟨l2, y3, rfl, sX, nl2, eX, elX⟩ := h
      obtain ⟨t1, et, hx1⟩ := hs.get hx
      have n1 := nest_le_of et
      have z1 := size_le_of et
      have k1 := kys_len (as.take i)
      have k2 := ky_len t1
      have k3 := sizes_take1 et
      refine ⟨_, rfl, _, rfl, x, t1, rfl, TmAt.mono sX.tups _ _ hx1, by omega, by omega, fun l' X' s' nl' el' => ?_⟩
      refine ⟨l2, l', _, _, rfl, rfl, s' _ _ elX, el', small6 (by rw [List.length_map, List.length_map]; omega), fun l3 nl3 => ?_⟩
      have s3 := same_new nl3 (.lst ((Ter.kys (as.take i)).map kV ++ t1.ky.map kV))
      refine ⟨l3, _, rfl, sX.trans (s'.trans s3), sX.free (s'.free nl3), s3 _ _ (s' _ _ eX), ?_⟩
      rw [upd_same, List.take_add_one, et, kys_app, List.map_append]
      show _ = some (HO.lst ((Ter.kys (as.take i)).map kV ++ (t1.ky ++ []).map kV))
      rw [List.append_nil]
    · obtain ⟨l2, y3, rfl, sX, nl2, eX, elX⟩ := h
      rw [ls, List.take_length] at elX
      exact ⟨_, rfl, q l2 X sX nl2 elX⟩
theorem ok_nms {f : Addr} {fd : FuncData} (D : Df K mg "_law_names" s__law_names ["term"] f fd) (m_isinstance : mg "isinstance" = none) (m_tuple : mg "tuple" = none) : ∀ n : Nat, FnOk P w K mg base CX0 (n + 1) f fd ["term"] (spNms n)
  | 0 => by
    have no : ∀ vs H Q E, ¬ spNms 0 vs H Q E := fun vs H Q E h => by
      obtain ⟨_, _, _, _, hk, _⟩ := h
      omega
    exact ⟨fun vs H Q E h => absurd h (no vs H Q E), fun A outer s H args us vs Q E _ _ _ _ h => absurd h (no vs H Q E)⟩
  | n + 1 => ok_nms1 D m_isinstance m_tuple (ok_nms D m_isinstance m_tuple n)
def spCN : Sp := fun vs H Q _ => ∃ (p : Addr) (xs : List V) (c : List Lit), vs = [.ref p] ∧ (H p = some (.lst xs) ∨ H p = some (.tup xs)) ∧ LitAll H xs c ∧ c.length ≤ 100 ∧ (∀ x ∈ c, litN x) ∧
  ∀ (u : Addr) (H' : Hp), Same H H' → H u = none → H' u = some (.lst ((clVars c).map kV)) → Q (.ref u) H'
theorem sc_cn : FnScope ["clause", "names", "literal", "side", "name"] ["clause"] (defScope s__law_clause_names) := ⟨rfl, rfl, rfl, by decide +kernel, rfl, by decide +kernel, by decide +kernel⟩
set_option maxHeartbeats 1000000 in
theorem ok_cn {f fN : Addr} {fd dN : FuncData} (D : Df K mg "_law_clause_names" s__law_clause_names ["clause"] f fd) (DN : Df K mg "_law_names" s__law_names ["term"] fN dN) (GN : FnOk P w K mg base CX0 22 fN dN ["term"] (spNms 21)) : FnOk P w K mg base CX0 23 f fd ["clause"] spCN := by
  refine D.F.ok sc_cn (fun vs H Q E h => ?_) (fun cdv A outer s H vs Q E hr h => ?_)
  · obtain ⟨_, _, _, rfl, _⟩ := h; rfl
  obtain ⟨p, xs, c, rfl, hp, hc, lc, nc, q⟩ := h
  have nd := sc_cn.nd
  have r22 : Room 22 _ := hr.mono (by decide)
  refine ⟨_, (pss_cons (ps_set (i := 1) nd rfl (.inl rfl) (pe_lst pa_nil))
    (pss_cons (ps_for PassesOwn.never rfl (pi_lt (pv 0)) (pg_name (i := 2) nd rfl (.inl rfl))
      (pss_one (ps_for PassesOwn.never rfl (pi_tup (pe_slice sl_1 (pv 2) (po_some pe_int) po_none)) (pg_name (i := 3) nd rfl (.inl rfl))
      (pss_one (ps_for PassesOwn.never rfl (pi_list (pe_call GN r22 (by rfl) DN.m DN.F.kp DN.b .nil pass0 (pa_cons (pv 3) pa_nil))) (pg_name (i := 4) nd rfl (.inl rfl))
      (pss_one (ps_if (pt_cmpR op_notIn_seq (pv 4) (pv 1) (by rfl))
      (pss_one (ps_expr (pe_bm PySem.F.plainAttrs_list PySem.F.slot_list_append PySem.F.type_list_append mt_append (pv 1) (pa_cons (pv 4) pa_nil))))
      pss_nil)))))))
    (pss_one (ps_ret (pv 1))))), ?_⟩
  refine ⟨Nat.zero_le _, fun u nu => ?_⟩
  have s0 := same_new nu (.lst [])
  have eu0 : (upd H u (.lst [])) u = some (.lst []) := upd_same
  generalize upd H u (.lst []) = G at s0 eu0
  have ll := hc.len
  refine ⟨_, rfl, p, rfl, ?_⟩
  rcases hp with hp | hp
  · refine .inl ⟨⟨_, .inl (.inl (s0 _ _ hp))⟩, for_list (xs := xs) (fun i σ F => ∃ (y2 y3 y4 : Option V), σ = [some (.ref p), some (.ref u), y2, y3, y4] ∧ Same H F ∧ F u = some (.lst ((Ter.intos [] (sides (c.take i))).map kV))) ⟨none, none, none, rfl, s0, eu0⟩ (fun i σ F _ h => ?_) (fun i v σ F hv h => ?_) (fun σ F h => ?_)⟩
    · obtain ⟨_, _, _, _, sF, _⟩ := h
      exact .inl (.inl (sF _ _ hp))
    · obtain ⟨y2, y3, y4, rfl, sF, eF⟩ := h
      obtain ⟨lit, el, hl⟩ := hc.get hv
      have nl := nc lit (List.mem_of_getElem? el)
      have li : i < c.length := (List.getElem?_eq_some_iff.mp el).1
      have etk : c.take (i + 1) = c.take i ++ [lit] := by rw [List.take_add_one, el]; rfl
      have b0 := intos_len (sides (c.take i)) []
      have b1 := sides_size (c := c.take i) (n := 200) fun x hx => litN_size (nc x (List.mem_of_mem_take hx))
      have b2 : (c.take i).length ≤ 100 := by rw [List.length_take]; omega
      have b3 : (c.take i).length * (2 * 200) ≤ 100 * (2 * 200) := Nat.mul_le_mul_right _ b2
      simp only [List.length_nil] at b0
      cases hl with
      | @mk a b xl xr l r e h1 h2 =>
      have n1 : l.nest ≤ 20 := nl.1.2.2
      have n2 : r.nest ≤ 20 := nl.2.2.2
      have z1 : l.size ≤ 200 := nl.1.2.1
      have z2 : r.size ≤ 200 := nl.2.2.1
      have eaF := sF _ _ e
      refine ⟨_, rfl, 1, rfl, a, .bl b, [xl, xr], rfl, rfl, rfl, .inl (.inl eaF), fun t nt => ?_⟩
      have s2 := same_new nt (.tup [xl, xr])
      have et0 : (upd F t (.tup [xl, xr])) t = some (.tup [xl, xr]) := upd_same
      have eF2 := s2 _ _ eF
      have sF2 := sF.trans s2
      generalize upd F t (.tup [xl, xr]) = F2 at et0 eF2 sF2 ⊢
      refine ⟨t, rfl, ⟨_, .inl (.inl et0)⟩, for_tup (xs := [xl, xr]) (fun j σ F3 => ∃ (y3 y4 : Option V), σ = [some (.ref p), some (.ref u), some (.ref a), y3, y4] ∧ Same H F3 ∧ F3 t = some (.tup [xl, xr]) ∧ F3 u = some (.lst ((Ter.intos (Ter.intos [] (sides (c.take i))) ([l, r].take j)).map kV))) ⟨y3, y4, rfl, sF2, et0, eF2⟩ (fun j σ F3 _ h => ?_) (fun j y σ F3 hy h => ?_) (fun σ F3 h => ?_)⟩
      · obtain ⟨_, _, _, _, e3, _⟩ := h
        exact .inl (.inl e3)
      · obtain ⟨y3, y4, rfl, sF3, et, eu⟩ := h
        have lj : j < 2 := (List.getElem?_eq_some_iff.mp hy).1
        obtain ⟨t1, e1, hy1⟩ := (TmAll.cons (TmAt.mono sF3.tups _ _ h1) (.cons (TmAt.mono sF3.tups _ _ h2) .nil)).get hy
        have nt1 : t1.nest ≤ 20 ∧ t1.size ≤ 200 := by
          have : j = 0 ∨ j = 1 := by omega
          rcases this with rfl | rfl
          · cases e1; exact ⟨n1, z1⟩
          · cases e1; exact ⟨n2, z2⟩
        refine ⟨_, rfl, y, t1, rfl, hy1, by omega, by omega, fun ln F4 s4 nln eln => ?_⟩
        have kl := ky_len t1
        have lnu : ln ≠ u := fun z => by rw [z, eu] at nln; cases nln
        have lnt : ln ≠ t := fun z => by rw [z, et] at nln; cases nln
        have tu : t ≠ u := fun z => by rw [z, eu] at et; cases et
        have g0 := intos_len ([l, r].take j) (Ter.intos [] (sides (c.take i)))
        have g1 : Ter.sizes ([l, r].take j) ≤ 400 := by
          have : j = 0 ∨ j = 1 := by omega
          rcases this with rfl | rfl
          · exact Nat.zero_le _
          · show l.size + 0 ≤ 400; omega
        refine ⟨ln, rfl, ⟨_, .inl (.inl eln)⟩, for_list (xs := t1.ky.map kV) (fun k σ F5 => ∃ (y4 : Option V), σ = [some (.ref p), some (.ref u), some (.ref a), some y, y4] ∧ But u F4 F5 ∧ F5 u = some (.lst (((t1.ky.take k).foldl addK (Ter.intos (Ter.intos [] (sides (c.take i))) ([l, r].take j))).map kV))) ⟨y4, rfl, But.refl _ _, s4 _ _ eu⟩ (fun k σ F5 _ h => ?_) (fun k z σ F5 hz h => ?_) (fun σ F5 h => ?_)⟩
        · obtain ⟨_, _, b5, _⟩ := h
          exact .inl (.inl (b5 _ _ lnu eln))
        · obtain ⟨y4, rfl, b5, eu5⟩ := h
          obtain ⟨ky, ek, rfl⟩ : ∃ ky, t1.ky[k]? = some ky ∧ z = kV ky := by
            rw [List.getElem?_map] at hz
            cases g : t1.ky[k]? with
            | none => rw [g] at hz; cases hz
            | some n => rw [g] at hz; exact ⟨n, rfl, (Option.some.inj hz).symm⟩
          have lk : k < t1.ky.length := (List.getElem?_eq_some_iff.mp ek).1
          have etk2 : t1.ky.take (k + 1) = t1.ky.take k ++ [ky] := by rw [List.take_add_one, ek]; rfl
          have fl := foldA_len (t1.ky.take k) (Ter.intos (Ter.intos [] (sides (c.take i))) ([l, r].take j))
          rw [List.length_take] at fl
          rw [etk2, List.foldl_append]
          generalize hA : (t1.ky.take k).foldl addK (Ter.intos (Ter.intos [] (sides (c.take i))) ([l, r].take j)) = A at *
          refine ⟨_, rfl, _, rfl, u, _, rfl, .inl (.inl (.inl eu5)), by cases ky <;> rfl, flat_keys A, _, rfl, ?_⟩
          show if (!inV (kV ky) (A.map kV)) = true then _ else _
          rw [inV_key]
          cases hb : hasK A ky with
          | true =>
            refine iteF ⟨_, rfl, b5, ?_⟩
            rw [eu5]
            show _ = some (HO.lst ((addK A ky).map kV))
            unfold addK
            rw [if_pos hb]
          | false =>
            refine iteT ⟨_, rfl, tyl eu5, _, rfl, u, _, _, rfl, rfl, eu5, small6' (by rw [List.length_map]; omega), _, rfl, b5.trans But.upd, ?_⟩
            rw [upd_same]
            show _ = some (HO.lst ((addK A ky).map kV))
            unfold addK
            rw [if_neg (by rw [hb]; exact Bool.false_ne_true), List.map_append]
            rfl
        · obtain ⟨y4, rfl, b5, eu5⟩ := h
          rw [List.length_map, List.take_length, ← into_ky] at eu5
          refine ⟨_, _, rfl, But.same nu (sF3.trans s4) b5, b5 _ _ tu (s4 _ _ et), ?_⟩
          rw [eu5, List.take_add_one, e1, intos_app]
          rfl
      · obtain ⟨y3, y4, rfl, sF3, et, eu⟩ := h
        refine ⟨_, _, _, rfl, sF3, ?_⟩
        have e9 : Ter.intos [] (sides (c.take i ++ ([(b, l, r)] : List Lit))) = Ter.intos (Ter.intos [] (sides (c.take i))) [l, r] := by
          rw [show sides (c.take i ++ ([(b, l, r)] : List Lit)) = sides (c.take i) ++ [l, r] from sides_snoc (c.take i) (b, l, r), intos_app]
        rw [eu, etk]
        exact congrArg (fun L => some (HO.lst (L.map kV))) e9.symm
    · obtain ⟨_, _, _, rfl, sF, eF⟩ := h
      rw [ll, List.take_length] at eF
      exact ⟨_, rfl, q u F sF nu eF⟩
  · refine .inr ⟨⟨_, .inl (.inl (s0 _ _ hp))⟩, for_tup (xs := xs) (fun i σ F => ∃ (y2 y3 y4 : Option V), σ = [some (.ref p), some (.ref u), y2, y3, y4] ∧ Same H F ∧ F u = some (.lst ((Ter.intos [] (sides (c.take i))).map kV))) ⟨none, none, none, rfl, s0, eu0⟩ (fun i σ F _ h => ?_) (fun i v σ F hv h => ?_) (fun σ F h => ?_)⟩
    · obtain ⟨_, _, _, _, sF, _⟩ := h
      exact .inl (.inl (sF _ _ hp))
    · obtain ⟨y2, y3, y4, rfl, sF, eF⟩ := h
      obtain ⟨lit, el, hl⟩ := hc.get hv
      have nl := nc lit (List.mem_of_getElem? el)
      have li : i < c.length := (List.getElem?_eq_some_iff.mp el).1
      have etk : c.take (i + 1) = c.take i ++ [lit] := by rw [List.take_add_one, el]; rfl
      have b0 := intos_len (sides (c.take i)) []
      have b1 := sides_size (c := c.take i) (n := 200) fun x hx => litN_size (nc x (List.mem_of_mem_take hx))
      have b2 : (c.take i).length ≤ 100 := by rw [List.length_take]; omega
      have b3 : (c.take i).length * (2 * 200) ≤ 100 * (2 * 200) := Nat.mul_le_mul_right _ b2
      simp only [List.length_nil] at b0
      cases hl with
      | @mk a b xl xr l r e h1 h2 =>
      have n1 : l.nest ≤ 20 := nl.1.2.2
      have n2 : r.nest ≤ 20 := nl.2.2.2
      have z1 : l.size ≤ 200 := nl.1.2.1
      have z2 : r.size ≤ 200 := nl.2.2.1
      have eaF := sF _ _ e
      refine ⟨_, rfl, 1, rfl, a, .bl b, [xl, xr], rfl, rfl, rfl, .inl (.inl eaF), fun t nt => ?_⟩
      have s2 := same_new nt (.tup [xl, xr])
      have et0 : (upd F t (.tup [xl, xr])) t = some (.tup [xl, xr]) := upd_same
      have eF2 := s2 _ _ eF
      have sF2 := sF.trans s2
      generalize upd F t (.tup [xl, xr]) = F2 at et0 eF2 sF2 ⊢
      refine ⟨t, rfl, ⟨_, .inl (.inl et0)⟩, for_tup (xs := [xl, xr]) (fun j σ F3 => ∃ (y3 y4 : Option V), σ = [some (.ref p), some (.ref u), some (.ref a), y3, y4] ∧ Same H F3 ∧ F3 t = some (.tup [xl, xr]) ∧ F3 u = some (.lst ((Ter.intos (Ter.intos [] (sides (c.take i))) ([l, r].take j)).map kV))) ⟨y3, y4, rfl, sF2, et0, eF2⟩ (fun j σ F3 _ h => ?_) (fun j y σ F3 hy h => ?_) (fun σ F3 h => ?_)⟩
      · obtain ⟨_, _, _, _, e3, _⟩ := h
        exact .inl (.inl e3)
      · obtain ⟨y3, y4, rfl, sF3, et, eu⟩ := h
        have lj : j < 2 := (List.getElem?_eq_some_iff.mp hy).1
        obtain ⟨t1, e1, hy1⟩ := (TmAll.cons (TmAt.mono sF3.tups _ _ h1) (.cons (TmAt.mono sF3.tups _ _ h2) .nil)).get hy
        have nt1 : t1.nest ≤ 20 ∧ t1.size ≤ 200 := by
          have : j = 0 ∨ j = 1 := by omega
          rcases this with rfl | rfl
          · cases e1; exact ⟨n1, z1⟩
          · cases e1; exact ⟨n2, z2⟩
        refine ⟨_, rfl, y, t1, rfl, hy1, by omega, by omega, fun ln F4 s4 nln eln => ?_⟩
        have kl := ky_len t1
        have lnu : ln ≠ u := fun z => by rw [z, eu] at nln; cases nln
        have lnt : ln ≠ t := fun z => by rw [z, et] at nln; cases nln
        have tu : t ≠ u := fun z => by rw [z, eu] at et; cases et
        have g0 := intos_len ([l, r].take j) (Ter.intos [] (sides (c.take i)))
        have g1 : Ter.sizes ([l, r].take j) ≤ 400 := by
          have : j = 0 ∨ j = 1 := by omega
          rcases this with rfl | rfl
          · exact Nat.zero_le _
          · show l.size + 0 ≤ 400; omega
        refine ⟨ln, rfl, ⟨_, .inl (.inl eln)⟩, for_list (xs := t1.ky.map kV) (fun k σ F5 => ∃ (y4 : Option V), σ = [some (.ref p), some (.ref u), some (.ref a), some y, y4] ∧ But u F4 F5 ∧ F5 u = some (.lst (((t1.ky.take k).foldl addK (Ter.intos (Ter.intos [] (sides (c.take i))) ([l, r].take j))).map kV))) ⟨y4, rfl, But.refl _ _, s4 _ _ eu⟩ (fun k σ F5 _ h => ?_) (fun k z σ F5 hz h => ?_) (fun σ F5 h => ?_)⟩
        · obtain ⟨_, _, b5, _⟩ := h
          exact .inl (.inl (b5 _ _ lnu eln))
        · obtain ⟨y4, rfl, b5, eu5⟩ := h
          obtain ⟨ky, ek, rfl⟩ : ∃ ky, t1.ky[k]? = some ky ∧ z = kV ky := by
            rw [List.getElem?_map] at hz
            cases g : t1.ky[k]? with
            | none => rw [g] at hz; cases hz
            | some n => rw [g] at hz; exact ⟨n, rfl, (Option.some.inj hz).symm⟩
          have lk : k < t1.ky.length := (List.getElem?_eq_some_iff.mp ek).1
          have etk2 : t1.ky.take (k + 1) = t1.ky.take k ++ [ky] := by rw [List.take_add_one, ek]; rfl
          have fl := foldA_len (t1.ky.take k) (Ter.intos (Ter.intos [] (sides (c.take i))) ([l, r].take j))
          rw [List.length_take] at fl
          rw [etk2, List.foldl_append]
          generalize hA : (t1.ky.take k).foldl addK (Ter.intos (Ter.intos [] (sides (c.take i))) ([l, r].take j)) = A at *
          refine ⟨_, rfl, _, rfl, u, _, rfl, .inl (.inl (.inl eu5)), by cases ky <;> rfl, flat_keys A, _, rfl, ?_⟩
          show if (!inV (kV ky) (A.map kV)) = true then _ else _
          rw [inV_key]
          cases hb : hasK A ky with
          | true =>
            refine iteF ⟨_, rfl, b5, ?_⟩
            rw [eu5]
            show _ = some (HO.lst ((addK A ky).map kV))
            unfold addK
            rw [if_pos hb]
          | false =>
            refine iteT ⟨_, rfl, tyl eu5, _, rfl, u, _, _, rfl, rfl, eu5, small6' (by rw [List.length_map]; omega), _, rfl, b5.trans But.upd, ?_⟩
            rw [upd_same]
            show _ = some (HO.lst ((addK A ky).map kV))
            unfold addK
            rw [if_neg (by rw [hb]; exact Bool.false_ne_true), List.map_append]
            rfl
        · obtain ⟨y4, rfl, b5, eu5⟩ := h
          rw [List.length_map, List.take_length, ← into_ky] at eu5
          refine ⟨_, _, rfl, But.same nu (sF3.trans s4) b5, b5 _ _ tu (s4 _ _ et), ?_⟩
          rw [eu5, List.take_add_one, e1, intos_app]
          rfl
      · obtain ⟨y3, y4, rfl, sF3, et, eu⟩ := h
        refine ⟨_, _, _, rfl, sF3, ?_⟩
        have e9 : Ter.intos [] (sides (c.take i ++ ([(b, l, r)] : List Lit))) = Ter.intos (Ter.intos [] (sides (c.take i))) [l, r] := by
          rw [show sides (c.take i ++ ([(b, l, r)] : List Lit)) = sides (c.take i) ++ [l, r] from sides_snoc (c.take i) (b, l, r), intos_app]
        rw [eu, etk]
        exact congrArg (fun L => some (HO.lst (L.map kV))) e9.symm
    · obtain ⟨_, _, _, rfl, sF, eF⟩ := h
      rw [ll, List.take_length] at eF
      exact ⟨_, rfl, q u F sF nu eF⟩
end
end K23
namespace K23
open PySem PySem.Spec PyProof.Rows L2 Own HT
section
variable {P : Program} {w : World} {K : PySem.W.Frag} {mg : Str → Option Value} {base : Heap}
def spWithK : Sp := fun vs H Q _ => ∃ (kd : Addr) (k : Key) (y : V) (kvs : List (Key × V)), vs = [.ref kd, kV k, y] ∧ H kd = some (.dK kvs) ∧ kvs.length ≤ 1000 ∧ ∀ p H', Same H H' → H p = none → H' p = some (.dK (putK kvs k y)) → Q (.ref p) H'
theorem ok_withK {f : Addr} {fd : FuncData} (D : Df K mg "_law_with" s__law_with ["known", "name", "element"] f fd) (m_dict : mg "dict" = none) : FnOk P w K mg base CX0 1 f fd ["known", "name", "element"] spWithK := by
  refine D.F.ok sc_with (fun vs H Q E h => ?_) (fun cdv A outer s H vs Q E hr h => ?_)
  · obtain ⟨_, _, _, _, rfl, _⟩ := h; rfl
  obtain ⟨kd, k, y, kvs, rfl, ek, lk, q⟩ := h
  have nd := sc_with.nd
  refine ⟨_, (pss_cons (ps_set (i := 3) nd rfl (.inl rfl) (pe_callTy call_dictD (by rfl) m_dict (by decide +kernel) (pa_cons (pv 0) pa_nil)))
    (pss_cons (ps_dput (hu_of hr) (pv 3) (pv 1) (pv 2) rfl)
    (pss_one (ps_ret (pv 3))))), ?_⟩
  refine ⟨_, rfl, kd, kvs, rfl, .inl ek, fun p np => ?_⟩
  refine ⟨_, rfl, _, rfl, kV k, rfl, p, _, rfl, DPut.k (k := k) upd_same (small6' (by omega)), _, rfl, ?_⟩
  exact q p _ (fun c o e => by rw [upd_ne (ne_of_none e np), upd_ne (ne_of_none e np)]; exact e) np upd_same
def AsA (H : Hp) (ks : List Key) (v : V) (r : List Int) : Prop := ∃ a : Addr, v = .ref a ∧ H a = some (.dK (zipK ks r))
theorem AsA.same {H H' : Hp} {ks : List Key} {v : V} {r : List Int} (h : AsA H ks v r) (s : Same H H') : AsA H' ks v r := by
  obtain ⟨a, e, ea⟩ := h
  exact ⟨a, e, s _ _ ea⟩
theorem AsA.but {H H' : Hp} {d : Addr} {ys : List V} {ks : List Key} {v : V} {r : List Int} (h : AsA H ks v r) (b : But d H H') (e : H d = some (.lst ys)) : AsA H' ks v r := by
  obtain ⟨a, ev, ea⟩ := h
  exact ⟨a, ev, b _ _ (fun z => by rw [z, e] at ea; cases ea) ea⟩
def spAs : Sp := fun vs H Q _ => ∃ (l : Addr) (ks : List Key) (sz : Nat), vs = [.ref l, .int (sz : Nat)] ∧ H l = some (.lst (ks.map kV)) ∧ ks.Nodup ∧ ks.length ≤ 3 ∧ sz ≤ 3 ∧ ∀ (d : Addr) (ws : List V) (H' : Hp), Same H H' → H' d = some (.lst ws) → ZA (AsA H' ks) ws (asg sz ks.length) → Q (.ref d) H'
theorem sc_as : FnScope ["names", "size", "rows", "name", "wider", "known", "element"] ["names", "size"] (defScope s__law_assignments) := ⟨rfl, rfl, rfl, by decide +kernel, rfl, by decide +kernel, by decide +kernel⟩
theorem zipK_len : ∀ (ks : List Key) (r : List Int), (zipK ks r).length ≤ ks.length
  | [], [] => Nat.zero_le _
  | [], _ :: _ => Nat.zero_le _
  | _ :: _, [] => Nat.zero_le _
  | _ :: ks, _ :: r => Nat.succ_le_succ (zipK_len ks r)
set_option maxHeartbeats 1000000 in
theorem ok_as {f fW : Addr} {fd dW : FuncData} (D : Df K mg "_law_assignments" s__law_assignments ["names", "size"] f fd) (DW : Df K mg "_law_with" s__law_with ["known", "name", "element"] fW dW) (GW : FnOk P w K mg base CX0 1 fW dW ["known", "name", "element"] spWithK) (m_list : mg "list" = none) (m_range : mg "range" = none) : FnOk P w K mg base CX0 2 f fd ["names", "size"] spAs := by
  refine D.F.ok sc_as (fun vs H Q E h => ?_) (fun cdv A outer s H vs Q E hr h => ?_)
  · obtain ⟨_, _, _, rfl, _⟩ := h; rfl
  obtain ⟨l, ks, sz, rfl, el, ndk, lk, ls, q⟩ := h
  have nd := sc_as.nd
  have r1 : Room 1 _ := hr.mono (by decide)
  refine ⟨_, (pss_cons (ps_set (i := 2) nd rfl (.inl rfl) (pe_lst (pa_cons pe_dnewK pa_nil)))
    (pss_cons (ps_for PassesOwn.never rfl (pi_list (pv 0)) (pg_name (i := 3) nd rfl (.inl rfl))
      (pss_cons (ps_set (i := 4) nd rfl (.inl rfl) (pe_lst pa_nil))
    (pss_cons (ps_for PassesOwn.never rfl (pi_list (pe_callTy call_list_of (by rfl) m_list (by decide +kernel) (pa_cons (pv 2) pa_nil))) (pg_name (i := 5) nd rfl (.inl rfl))
      (pss_one (ps_for PassesOwn.never rfl (pi_range1 (by rfl) m_range (pa_cons (pv 1) pa_nil)) (pg_name (i := 6) nd rfl (.inl rfl))
      (pss_one (ps_expr (pe_bm PySem.F.plainAttrs_list PySem.F.slot_list_append PySem.F.type_list_append mt_append (pv 4) (pa_cons (pe_call GW r1 (by rfl) DW.m DW.F.kp DW.b .nil pass0 (pa_cons (pv 5) (pa_cons (pv 3) (pa_cons (pv 6) pa_nil)))) pa_nil)))))))
    (pss_one (ps_set (i := 2) nd rfl (.inl rfl) (pv 4))))))
    (pss_one (ps_ret (pv 2))))), ?_⟩
  refine fun e0 ne0 => ⟨by show 1 ≤ sizeLine; decide, fun d0 nd0 => ?_⟩
  have s1 := same_new ne0 (.dK [])
  have s2 := same_new nd0 (.lst [.ref e0])
  have s12 := s1.trans s2
  have ee : (upd (upd H e0 (.dK [])) d0 (.lst [.ref e0])) e0 = some (.dK []) := s2 _ _ upd_same
  have ed : (upd (upd H e0 (.dK [])) d0 (.lst [.ref e0])) d0 = some (.lst [.ref e0]) := upd_same
  generalize upd (upd H e0 (.dK [])) d0 (.lst [.ref e0]) = G at s12 ee ed ⊢
  refine ⟨_, rfl, l, rfl, ⟨_, .inl (.inl (s12 _ _ el))⟩, for_list (xs := ks.map kV) (fun i σ F => ∃ (d : Addr) (ws : List V) (y3 y4 y5 y6 : Option V), σ = [some (.ref l), some (.int (sz : Nat)), some (.ref d), y3, y4, y5, y6] ∧ Same H F ∧ F d = some (.lst ws) ∧ ZA (AsA F (ks.take i)) ws (asg sz i)) ⟨d0, _, none, none, none, none, rfl, s12, ed, .cons ⟨e0, rfl, ee⟩ .nil⟩ (fun i σ F _ h => ?_) (fun i v σ F hv h => ?_) (fun σ F h => ?_)⟩
  · obtain ⟨_, _, _, _, _, _, _, sF, _⟩ := h
    exact .inl (.inl (sF _ _ el))
  · obtain ⟨d, ws, y3, y4, y5, y6, rfl, sF, ed, hz⟩ := h
    obtain ⟨k, ek, rfl⟩ : ∃ k, ks[i]? = some k ∧ v = kV k := by
      rw [List.getElem?_map] at hv
      cases g : ks[i]? with
      | none => rw [g] at hv; cases hv
      | some n => rw [g] at hv; exact ⟨n, rfl, (Option.some.inj hv).symm⟩
    have li : i < ks.length := (List.getElem?_eq_some_iff.mp ek).1
    have etk : ks.take (i + 1) = ks.take i ++ [k] := by rw [List.take_add_one, ek]; rfl
    have lw := hz.len
    have l27 := asg_27 (sz := sz) (n := i) ls (by omega)
    have nk : k ∉ ks.take i := fun z => by
      have h1 : (ks.take i ++ [k]).Nodup := by rw [← etk]; exact List.Sublist.nodup (List.take_sublist _ _) ndk
      exact (List.nodup_append.mp h1).2.2 k z k List.mem_cons_self rfl
    refine ⟨Nat.zero_le _, fun wd nwd => ?_⟩
    have s3 := same_new nwd (.lst [])
    refine ⟨_, rfl, d, ws, rfl, .inl (.inl (.inl (s3 _ _ ed))), fun lc nlc => ?_⟩
    have s4 := same_new nlc (.lst ws)
    have s34 := s3.trans s4
    have elc : (upd (upd F wd (.lst [])) lc (.lst ws)) lc = some (.lst ws) := upd_same
    have ewd : (upd (upd F wd (.lst [])) lc (.lst ws)) wd = some (.lst []) := s4 _ _ upd_same
    have nwl : lc ≠ wd := fun z => by rw [z, upd_same] at nlc; cases nlc
    generalize upd (upd F wd (.lst [])) lc (.lst ws) = F1 at s34 elc ewd ⊢
    have hz1 := hz.mono fun v r h => h.same s34
    refine ⟨lc, rfl, ⟨_, .inl (.inl elc)⟩, for_list (xs := ws) (fun j σ F2 => ∃ (acc : List V) (y5 y6 : Option V), σ = [some (.ref l), some (.int (sz : Nat)), some (.ref d), some (kV k), some (.ref wd), y5, y6] ∧ But wd F1 F2 ∧ F2 wd = some (.lst acc) ∧ ZA (AsA F2 (ks.take (i + 1))) acc (((asg sz i).take j).flatMap fun r => (List.range sz).map fun i => r ++ [((i : Nat) : Int)]) ∧ acc.length ≤ j * 3) ⟨[], y5, y6, rfl, But.refl _ _, ewd, .nil, Nat.zero_le _⟩ (fun j σ F2 _ h => ?_) (fun j v σ F2 hv2 h => ?_) (fun σ F2 h => ?_)⟩
    · obtain ⟨_, _, _, _, b2, _⟩ := h
      exact .inl (.inl (b2 _ _ nwl elc))
    · obtain ⟨acc, y5, y6, rfl, b2, ew, hA, la⟩ := h
      obtain ⟨r, hr', a, rfl, ea⟩ := hz1.get hv2
      have lj : j < ws.length := (List.getElem?_eq_some_iff.mp hv2).1
      have naw : a ≠ wd := fun z => by rw [z, ewd] at ea; cases ea
      have lr : r.length = (ks.take i).length := by
        rw [List.length_take, Nat.min_eq_left (by omega)]
        exact (asg_mem.mp (List.mem_of_getElem? hr')).1
      refine ⟨_, rfl, sz, rfl, by omega, by omega, for_range (n := sz) (fun m σ F3 => ∃ (acc : List V) (y6 : Option V), σ = [some (.ref l), some (.int (sz : Nat)), some (.ref d), some (kV k), some (.ref wd), some (.ref a), y6] ∧ But wd F1 F3 ∧ F3 wd = some (.lst acc) ∧ ZA (AsA F3 (ks.take (i + 1))) acc ((((asg sz i).take j).flatMap fun r => (List.range sz).map fun i => r ++ [((i : Nat) : Int)]) ++ (List.range m).map fun i => r ++ [((i : Nat) : Int)]) ∧ acc.length ≤ j * 3 + m) ⟨acc, y6, rfl, b2, ew, by rw [show List.range 0 = [] from rfl, List.map_nil, List.append_nil]; exact hA, by omega⟩ (fun m σ F3 hm h => ?_) (fun σ F3 h => ?_)⟩
      · obtain ⟨acc, y6, rfl, b3, ew, hA, la⟩ := h
        rw [Int.zero_add]
        have zl := zipK_len (ks.take i) r
        rw [List.length_take] at zl
        refine ⟨_, rfl, tyl ew, _, rfl, _, rfl, _, rfl, a, k, .int (m : Nat), _, rfl, b3 _ _ naw ea, by omega, fun pn F4 s4' npn epn => ?_⟩
        have ew4 := s4' _ _ ew
        refine ⟨wd, acc, _, rfl, rfl, ew4, small6' (by omega), ?_⟩
        have bu : But wd F4 (upd F4 wd (.lst (acc ++ [.ref pn]))) := But.upd
        have npw : pn ≠ wd := fun z => by rw [z, ew4] at epn; cases epn
        refine ⟨acc ++ [.ref pn], _, rfl, (b3.trans s4'.but).trans bu, upd_same, ?_, by rw [List.length_append, List.length_singleton]; omega⟩
        rw [List.range_succ, List.map_append, ← List.append_assoc]
        refine (hA.mono fun v r h => (h.same s4').but bu ew4).app (.cons ⟨pn, rfl, bu _ _ npw ?_⟩ .nil)
        rw [epn, putK_new _ (zipK_none nk), etk, zipK_snoc k (m : Nat) lr]
      · obtain ⟨acc, y6, rfl, b3, ew, hA, la⟩ := h
        refine ⟨acc, _, _, rfl, b3, ew, ?_, by omega⟩
        rw [show (asg sz i).take (j + 1) = (asg sz i).take j ++ [r] by rw [List.take_add_one, hr']; rfl, List.flatMap_append]
        show ZA _ acc (_ ++ List.flatMap _ [r])
        rw [List.flatMap_singleton]
        exact hA
    · obtain ⟨acc, y5, y6, rfl, b2, ew, hA, la⟩ := h
      refine ⟨_, rfl, wd, acc, _, _, _, _, rfl, ?_, ew, ?_⟩
      · exact sF.trans (But.same nwd s34 b2)
      · rw [lw, List.take_length] at hA
        exact hA
  · obtain ⟨d, ws, y3, y4, y5, y6, rfl, sF, ed, hz⟩ := h
    rw [List.length_map, List.take_length] at hz
    exact ⟨_, rfl, q d ws F sF ed hz⟩
def litA (x : Lit) : Prop := atomK x.2.1 x.2.2 ∧ x.2.1.nest ≤ 3 ∧ x.2.2.nest ≤ 3
def spCH : Sp := fun vs H Q _ => ∃ (p T : Addr) (c : List Lit) (M : Mdl), vs = [.ref p, .ref T] ∧ ClsAt H p c ∧ TabAt H T M ∧ M.sz ≤ 3 ∧ c.length ≤ 100 ∧ (∀ x ∈ c, litN x) ∧ (∀ x ∈ c, litA x) ∧ (clVars c).length ≤ 3 ∧
  ∀ (H' : Hp) (b : Bool), Same H H' → (b = true ↔ ∀ r ∈ asg M.sz (clVars c).length, c.any (litTrK M (sgm (clVars c) r)) = true) → Q (.bl b) H'
theorem sc_ch : FnScope ["clause", "tables", "known", "holds", "literal"] ["clause", "tables"] (defScope s__law_clause_holds) := ⟨rfl, rfl, rfl, by decide +kernel, rfl, by decide +kernel, by decide +kernel⟩
set_option maxHeartbeats 1000000 in
theorem ok_ch {f fA fC fE : Addr} {fd dA dC dE : FuncData} (D : Df K mg "_law_clause_holds" s__law_clause_holds ["clause", "tables"] f fd) (DA : Df K mg "_law_assignments" s__law_assignments ["names", "size"] fA dA) (GA : FnOk P w K mg base CX0 2 fA dA ["names", "size"] spAs)
    (DC : Df K mg "_law_clause_names" s__law_clause_names ["clause"] fC dC) (GC : FnOk P w K mg base CX0 23 fC dC ["clause"] spCN)
    (DE : Df K mg "_law_equal_holds" s__law_equal_holds ["left", "right", "tables", "known"] fE dE) (GE : FnOk P w K mg base CX0 6 fE dE ["left", "right", "tables", "known"] spEqHK) : FnOk P w K mg base CX0 24 f fd ["clause", "tables"] spCH := by
  refine D.F.ok sc_ch (fun vs H Q E h => ?_) (fun cdv A outer s H vs Q E hr h => ?_)
  · obtain ⟨_, _, _, _, rfl, _⟩ := h; rfl
  obtain ⟨p, T, c, M, rfl, hc, hT, hsz, lc, nc, ac, lv, q⟩ := h
  have nd := sc_ch.nd
  have r2 : Room 2 _ := hr.mono (by decide)
  have r6 : Room 6 _ := hr.mono (by decide)
  have r23 : Room 23 _ := hr.mono (by decide)
  refine ⟨_, (pss_cons (ps_for PassesOwn.never rfl (pi_list (pe_call GA r2 (by rfl) DA.m DA.F.kp DA.b .nil pass0 (pa_cons (pe_call GC r23 (by rfl) DC.m DC.F.kp DC.b .nil pass0 (pa_cons (pv 0) pa_nil)) (pa_cons (pe_ix ix_tup (pv 1) pe_int (fun _ _ => rfl)) pa_nil)))) (pg_name (i := 2) nd rfl (.inl rfl))
      (pss_cons (ps_set (i := 3) nd rfl (.inl rfl) pe_bl)
    (pss_cons (ps_for PassesOwn.never rfl (pi_tup (pv 0)) (pg_name (i := 4) nd rfl (.inl rfl))
      (pss_one (ps_if (pt_cmpR op_eq (pe_call GE r6 (by rfl) DE.m DE.F.kp DE.b .nil pass0 (pa_cons (pe_ix ix_tup (pv 4) pe_int (fun _ _ => rfl)) (pa_cons (pe_ix ix_tup (pv 4) pe_int (fun _ _ => rfl)) (pa_cons (pv 1) (pa_cons (pv 2) pa_nil))))) (pe_ix ix_tup (pv 4) pe_int (fun _ _ => rfl)) (nomark _))
      (pss_one (ps_set (i := 3) nd rfl (.inl rfl) pe_bl))
      pss_nil)))
    (pss_one (ps_if (pt_not (pt_val (pv 3)))
      (pss_one (ps_ret pe_bl))
      pss_nil)))))
    (pss_one (ps_ret pe_bl))), ?_⟩
  obtain ⟨xs, ep, hz⟩ := id hc
  have ll := hz.len
  refine ⟨_, rfl, p, xs, c, rfl, .inr ep, hz, lc, nc, fun u H1 s1 nu eu => ?_⟩
  obtain ⟨Fa, Ga, eT, hF, hG⟩ := id hT
  refine ⟨_, rfl, T, _, 0, _, rfl, rfl, .inl (.inl (s1 _ _ eT)), head_at, u, clVars c, M.sz, rfl, eu, clVars_nd c, lv, hsz, fun d ws H2 s2 ed hw => ?_⟩
  have s12 := s1.trans s2
  have lw := hw.len
  refine ⟨d, rfl, ⟨_, .inl (.inl ed)⟩, for_list (xs := ws) (fun i σ F => ∃ (y2 y3 y4 : Option V), σ = [some (.ref p), some (.ref T), y2, y3, y4] ∧ Same H2 F ∧ ∀ r ∈ (asg M.sz (clVars c).length).take i, c.any (litTrK M (sgm (clVars c) r)) = true) ⟨none, none, none, rfl, Same.refl _, fun r h => by cases h⟩ (fun i σ F _ h => ?_) (fun i v σ F hv h => ?_) (fun σ F h => ?_)⟩
  · obtain ⟨_, _, _, _, sF, _⟩ := h
    exact .inl (.inl (sF _ _ ed))
  · obtain ⟨y2, y3, y4, rfl, sF, hal⟩ := h
    obtain ⟨r, hr', a, rfl, ea⟩ := hw.get hv
    have mr := List.mem_of_getElem? hr'
    have lr := (asg_mem.mp mr).1
    have s2F := s12.trans sF
    refine ⟨_, rfl, p, rfl, ⟨xs, .inl (.inl (s2F _ _ ep))⟩, for_tup (xs := xs) (fun j σ F2 => ∃ (y4 : Option V), σ = [some (.ref p), some (.ref T), some (.ref a), some (.bl ((c.take j).any (litTrK M (sgm (clVars c) r)))), y4] ∧ Same F F2) ⟨y4, rfl, Same.refl _⟩ (fun j σ F2 _ h => ?_) (fun j z σ F2 hz2 h => ?_) (fun σ F2 h => ?_)⟩
    · obtain ⟨_, _, s3⟩ := h
      exact .inl (.inl (s3 _ _ (s2F _ _ ep)))
    · obtain ⟨y4, rfl, s3⟩ := h
      obtain ⟨x, ex, hx⟩ := hz.get hz2
      have mx := List.mem_of_getElem? ex
      have s03 := s2F.trans s3
      have ix := clVars_in c x mx
      obtain ⟨ax, n1, n2⟩ := ac x mx
      have etk : (c.take (j + 1)).any (litTrK M (sgm (clVars c) r)) = ((c.take j).any (litTrK M (sgm (clVars c) r)) || litTrK M (sgm (clVars c) r) x) := by
        rw [List.take_add_one, ex, List.any_append]
        show (_ || (litTrK M (sgm (clVars c) r) x || false)) = _
        rw [Bool.or_false]
      cases hx with
      | @mk g b xl xr l r' e h1 h2 =>
      have eg := s03 _ _ e
      refine ⟨_, rfl, g, _, 1, xl, rfl, rfl, .inl (.inl eg), at_1, _, rfl, g, _, 2, xr, rfl, rfl, .inl (.inl eg), at_2, _, rfl, _, rfl, clVars c, xl, xr, T, a, l, r', M, sgm (clVars c) r, rfl, TmAt.mono s03.tups _ _ h1, TmAt.mono s03.tups _ _ h2, hT.same s03, ⟨_, (sF.trans s3) _ _ ea, fun k hk => zipK_val lr hk⟩, ax, ix, n1, n2, fun F3 s4 => ?_⟩
      refine ⟨_, rfl, g, _, 0, .bl b, rfl, rfl, .inl (.inl (s4 _ _ eg)), head_at, rfl, _, rfl, ?_⟩
      rw [eqB]
      have el : litTrK M (sgm (clVars c) r) (b, l, r') = (eqHoldsK M (sgm (clVars c) r) l r' == b) := rfl
      rw [el] at etk
      cases hb : (eqHoldsK M (sgm (clVars c) r) l r' == b) with
      | true =>
        rw [hb, Bool.or_true] at etk
        exact iteT ⟨some (.ref g), by rw [etk]; rfl, s3.trans s4⟩
      | false =>
        rw [hb, Bool.or_false] at etk
        exact iteF ⟨some (.ref g), by rw [etk]; rfl, s3.trans s4⟩
    · obtain ⟨y4, rfl, s3⟩ := h
      rw [ll, List.take_length]
      refine ⟨_, rfl, _, rfl, ?_⟩
      cases hb : c.any (litTrK M (sgm (clVars c) r)) with
      | false =>
        refine iteT (q F2 false (s2F.trans s3) ⟨fun z => (by cases z), fun h => ?_⟩)
        rw [h r mr] at hb
        cases hb
      | true =>
        refine iteF ⟨_, _, _, rfl, sF.trans s3, fun r2 h2 => ?_⟩
        rw [List.take_add_one, hr'] at h2
        rcases List.mem_append.mp h2 with h2 | h2
        · exact hal r2 h2
        · rw [List.mem_singleton.mp (show r2 ∈ [r] from h2)]; exact hb
  · obtain ⟨y2, y3, y4, rfl, sF, hal⟩ := h
    rw [lw, List.take_length] at hal
    exact q F true (s12.trans sF) ⟨fun _ => hal, fun _ => rfl⟩
end
end K23
namespace K23
open PySem PySem.Spec PyProof.Rows L2 Own HT
section
variable {P : Program} {w : World} {K : PySem.W.Frag} {mg : Str → Option Value} {base : Heap}
theorem MxAt.tups {H H' : Hp} {v : V} {m : Mx} (h : MxAt H v m) (s : Tups H H') : MxAt H' v m := TmAt.mono s _ _ h
def spMx (n : Nat) : Sp := fun vs H Q _ => ∃ (d : Addr) (k : Nat), vs = [.ref d, .int (k : Nat)] ∧ Ints H d ∧ k < n ∧ ∀ v m H', But d H H' → Ints H' d → MxAt H' v m → m.ok → m.high ≤ k + 1 → m.wid ≤ 2 ^ k → m.lf ≤ 2 ^ k → Q v H'
theorem sc_mx : FnScope ["row", "depth", "choice", "left", "right"] ["row", "depth"] (defScope s__law_matrix) := ⟨rfl, rfl, rfl, by decide +kernel, rfl, by decide +kernel, by decide +kernel⟩
set_option maxHeartbeats 1000000 in
theorem ok_mx1 {f fT fA : Addr} {fd dT dA : FuncData} (D : Df K mg "_law_matrix" s__law_matrix ["row", "depth"] f fd) (DT : Df K mg "_law_take" s__law_take ["row", "bound"] fT dT) (GT : FnOk P w K mg base CX0 1 fT dT ["row", "bound"] spTake)
    (DA : Df K mg "_law_atom" s__law_atom ["row", "names", "depth"] fA dA) (GA : ∀ L, FnOk P w K mg base CX0 4 fA dA ["row", "names", "depth"] (spA20 L)) (m_int : mg "int" = none) {n : Nat} (G : FnOk P w K mg base CX0 (n + 4) f fd ["row", "depth"] (spMx n)) : FnOk P w K mg base CX0 (n + 1 + 4) f fd ["row", "depth"] (spMx (n + 1)) := by
  refine D.F.ok sc_mx (fun vs H Q E h => ?_) (fun cdv A outer s H vs Q E hr h => ?_)
  · obtain ⟨_, _, rfl, _⟩ := h; rfl
  obtain ⟨d, k, rfl, hI, hk, q⟩ := h
  have nd := sc_mx.nd
  have r1 : Room 1 _ := hr.mono (by omega)
  have r4 : Room 4 _ := hr.mono (by omega)
  refine ⟨_, (pss_cons (ps_set (i := 2) nd rfl (.inl rfl) (pe_call GT r1 (by rfl) DT.m DT.F.kp DT.b .nil pass0 (pa_cons (pv 0) (pa_cons pe_int pa_nil))))
    (pss_cons (ps_if (PW.pt (pw_or (pt_cmpR op_eq (pv 1) pe_int (nomark _)) (pw_or1 (pt_cmpR op_lt (pv 2) pe_int (nomark _)))))
      (pss_cons (ps_asg (pe_call (GA N3) r4 (by rfl) DA.m DA.F.kp DA.b .nil pass0 (pa_cons (pv 0) (pa_cons (pe_lst (pa_cons pe_str (pa_cons pe_str (pa_cons pe_str pa_nil)))) (pa_cons pe_int pa_nil)))) (pg_tup rfl (pgs_cons (pg_name (i := 3) nd rfl (.inl rfl)) (pgs_cons (pg_name (i := 4) nd rfl (.inl rfl)) pgs_nil))))
    (pss_cons (ps_if (pt_cmpR op_eq (pe_call GT r1 (by rfl) DT.m DT.F.kp DT.b .nil pass0 (pa_cons (pv 0) (pa_cons pe_int pa_nil))) pe_int (nomark _))
      (pss_one (ps_ret (pe_tup (pa_cons pe_str (pa_cons (pe_tup (pa_cons pe_str (pa_cons (pv 3) (pa_cons (pv 4) pa_nil)))) pa_nil)))))
      pss_nil)
    (pss_one (ps_ret (pe_tup (pa_cons pe_str (pa_cons (pv 3) (pa_cons (pv 4) pa_nil))))))))
      pss_nil)
    (pss_cons (ps_if (pt_cmpR op_eq (pv 2) pe_int (nomark _))
      (pss_one (ps_ret (pe_tup (pa_cons (pe_ix ix_list (pe_lst (pa_cons pe_str (pa_cons pe_str pa_nil))) (pe_call GT r1 (by rfl) DT.m DT.F.kp DT.b .nil pass0 (pa_cons (pv 0) (pa_cons pe_int pa_nil))) (fun _ _ => rfl)) pa_nil))))
      pss_nil)
    (pss_one (ps_ret (pe_tup (pa_cons (pe_ix ix_list (pe_lst (pa_cons pe_str (pa_cons pe_str pa_nil))) (pe_op op_mod (pe_callTy call_int1 (by rfl) m_int (by decide +kernel) (pa_cons (pv 2) pa_nil)) pe_int) (fun _ _ => rfl)) (pa_cons (pe_call G hr (by rfl) D.m D.F.kp D.b .nil pass0 (pa_cons (pv 0) (pa_cons (pe_op op_sub (pv 1) pe_int) pa_nil))) (pa_cons (pe_call G hr (by rfl) D.m D.F.kp D.b .nil pass0 (pa_cons (pv 0) (pa_cons (pe_op op_sub (pv 1) pe_int) pa_nil))) pa_nil))))))))), ?_⟩
  refine ⟨_, rfl, d, 12, rfl, hI, by decide, fun r H1 r0 r12 b1 hI1 => ?_⟩
  have pk : 1 ≤ 2 ^ k := Nat.one_le_two_pow
  have sub : ∀ {H2 : Hp} {Q2 : VK}, 1 ≤ k → Ints H2 d → (∀ v m H', But d H2 H' → Ints H' d → MxAt H' v m → m.ok → m.high ≤ k → m.wid ≤ 2 ^ (k - 1) → m.lf ≤ 2 ^ (k - 1) → Q2 v H') → spMx n [.ref d, .int ((k : Int) - 1)] H2 Q2 E0 := fun {H2 Q2} k1 hI2 h => by
    refine ⟨d, k - 1, ?_, hI2, by omega, fun v m H' b hI' hv ok hh hw hl => h v m H' b hI' hv ok (by omega) hw hl⟩
    rw [show ((k - 1 : Nat) : Int) = (k : Int) - 1 by omega]
  refine ⟨_, rfl, rfl, _, rfl, ?_⟩
  refine (fun (leaf : _) (rest : 1 ≤ k → _) => ite2 (fun _ => leaf) (fun z => ⟨_, rfl, _, _, rfl, rfl, _, rfl, ite2 (fun _ => leaf) (fun z2 => rest (Nat.pos_of_ne_zero fun e => z (decide_eq_true (congrArg (fun j : Nat => V.int j) e))))⟩)) ?_ ?_
  · refine ⟨_, rfl, by show 3 ≤ sizeLine; decide, fun l1 nl1 => ?_⟩
    have s1 := same_new nl1 (.lst [.str "X", .str "Y", .str "Z"])
    refine ⟨d, l1, N3, 1, rfl, hI1.same s1, upd_same, hI1.ne nl1, fun _ h => h, by decide, by decide, fun p v1 v2 t1 t2 H2 b2 hI2 ep h1 h2 ha n1 n2 z1 z2 => ?_⟩
    refine ⟨p, _, rfl, .inl (.inl ep), rfl, _, _, rfl, _, _, rfl, rfl, ?_⟩
    refine ⟨_, rfl, d, 2, rfl, hI2, by decide, fun r2 H3 q0 q1 b3 hI3 => ⟨rfl, _, rfl, ite2 (fun _ => ?_) (fun _ => ?_)⟩⟩
    · have m3 := b3.tupsI hI2
      refine ⟨v1, rfl, v2, rfl, by show 3 ≤ sizeLine; decide, fun p2 np2 => ⟨by show 2 ≤ sizeLine; decide, fun p3 np3 => ?_⟩⟩
      have s4 := same_new np2 (.tup [.str "equal", v1, v2])
      have s5 := same_new np3 (.tup [.str "not", .ref p2])
      have s45 := s4.trans s5
      exact q (.ref p3) (.lt false t1 t2) _ (b1.trans (s1.but.trans (b2.trans (b3.trans s45.but)))) (hI3.same s45) (.ap upd_same (.cons (.ap (s5 _ _ upd_same) (.cons (TmAt.mono (m3.trans s45.tups) _ _ h1) (.cons (TmAt.mono (m3.trans s45.tups) _ _ h2) .nil))) .nil)) ⟨ha, n1, n2, z1, z2⟩ (by show 1 ≤ k + 1; omega) pk pk
    · have m3 := b3.tupsI hI2
      refine ⟨v1, rfl, v2, rfl, by show 3 ≤ sizeLine; decide, fun p2 np2 => ?_⟩
      have s4 := same_new np2 (.tup [.str "equal", v1, v2])
      exact q (.ref p2) (.lt true t1 t2) _ (b1.trans (s1.but.trans (b2.trans (b3.trans s4.but)))) (hI3.same s4) (.ap upd_same (.cons (TmAt.mono (m3.trans s4.tups) _ _ h1) (.cons (TmAt.mono (m3.trans s4.tups) _ _ h2) .nil))) ⟨ha, n1, n2, z1, z2⟩ (by show 1 ≤ k + 1; omega) pk pk
  intro k1
  refine ⟨_, rfl, rfl, _, rfl, ite2 (fun _ => ?_) (fun _ => ?_)⟩
  · refine ⟨by show 2 ≤ sizeLine; decide, fun l6 nl6 => ?_⟩
    have s6 := same_new nl6 (.lst [.str "true", .str "false"])
    refine ⟨_, rfl, d, 2, rfl, hI1.same s6, by decide, fun r3 H3 u0 u1 b3 hI3 => ?_⟩
    obtain ⟨a, hq⟩ : ∃ a : Bool, atI [V.str "true", V.str "false"] r3 = some (.str (if a = true then "true" else "false")) := by
      rcases (show r3 = 0 ∨ r3 = 1 by omega) with e | e <;> rw [e]
      · exact ⟨true, rfl⟩
      · exact ⟨false, rfl⟩
    refine ⟨l6, _, _, _, rfl, rfl, .inl (.inl (b3 _ _ (hI1.ne nl6) upd_same)), hq, by show 1 ≤ sizeLine; decide, fun p np => ?_⟩
    have s8 := same_new np (.tup [.str (if a = true then "true" else "false")])
    exact q (.ref p) (.tt a) _ (b1.trans (s6.but.trans (b3.trans s8.but))) (hI3.same s8) (.ap upd_same .nil) trivial (by show 1 ≤ k + 1; omega) (Nat.zero_le _) pk
  refine ⟨by show 2 ≤ sizeLine; decide, fun l6 nl6 => ?_⟩
  have s6 := same_new nl6 (.lst [.str "and", .str "or"])
  have dbl : 2 ^ k = 2 ^ (k - 1) + 2 ^ (k - 1) := by
    obtain ⟨j, rfl⟩ : ∃ j, k = j + 1 := ⟨k - 1, by omega⟩
    rw [Nat.add_sub_cancel, Nat.pow_succ]; omega
  have pj : 1 ≤ 2 ^ (k - 1) := Nat.one_le_two_pow
  obtain ⟨o, ho⟩ : ∃ o : Bool, atI [V.str "and", V.str "or"] (r % 2) = some (.str (if o = true then "and" else "or")) := by
    rcases (show r % 2 = 0 ∨ r % 2 = 1 by omega) with e | e <;> rw [e]
    · exact ⟨true, rfl⟩
    · exact ⟨false, rfl⟩
  refine ⟨_, rfl, .inl ⟨r, rfl, _, _, rfl, rfl, (by show (0 : Int) < 2; decide), l6, _, _, _, rfl, rfl, .inl (.inl upd_same), ho, ?_⟩⟩
  refine ⟨_, rfl, _, rfl, _, _, rfl, rfl, sub k1 (hI1.same s6) fun v φ H7 b7 hI7 hv ok1 hn1 hw1 hl1 => ?_⟩
  refine ⟨_, rfl, _, rfl, _, _, rfl, rfl, sub k1 hI7 fun v2 ψ H8 b8 hI8 hv2 ok2 hn2 hw2 hl2 => ⟨by show 3 ≤ sizeLine; decide, fun p np => ?_⟩⟩
  have s9 := same_new np (.tup [.str (if o = true then "and" else "or"), v, v2])
  have m79 := (b8.tupsI hI7).trans s9.tups
  have bb := b1.trans (s6.but.trans (b7.trans (b8.trans s9.but)))
  cases o with
  | true => exact q (.ref p) (.an φ ψ) _ bb (hI8.same s9) (.ap upd_same (.cons (TmAt.mono m79 _ _ hv) (.cons (TmAt.mono s9.tups _ _ hv2) .nil))) ⟨ok1, ok2⟩ (by show max φ.high ψ.high + 1 ≤ k + 1; omega) (by show max φ.wid ψ.wid ≤ 2 ^ k; omega) (by show φ.lf + ψ.lf ≤ 2 ^ k; omega)
  | false => exact q (.ref p) (.or φ ψ) _ bb (hI8.same s9) (.ap upd_same (.cons (TmAt.mono m79 _ _ hv) (.cons (TmAt.mono s9.tups _ _ hv2) .nil))) ⟨ok1, ok2⟩ (by show max φ.high ψ.high + 1 ≤ k + 1; omega) (by show φ.wid + ψ.wid ≤ 2 ^ k; omega) (by show φ.lf + ψ.lf ≤ 2 ^ k; omega)
theorem ok_mx {f fT fA : Addr} {fd dT dA : FuncData} (D : Df K mg "_law_matrix" s__law_matrix ["row", "depth"] f fd) (DT : Df K mg "_law_take" s__law_take ["row", "bound"] fT dT) (GT : FnOk P w K mg base CX0 1 fT dT ["row", "bound"] spTake)
    (DA : Df K mg "_law_atom" s__law_atom ["row", "names", "depth"] fA dA) (GA : ∀ L, FnOk P w K mg base CX0 4 fA dA ["row", "names", "depth"] (spA20 L)) (m_int : mg "int" = none) : ∀ n : Nat, FnOk P w K mg base CX0 (n + 4) f fd ["row", "depth"] (spMx n)
  | 0 => by
    have no : ∀ vs H Q E, ¬ spMx 0 vs H Q E := fun vs H Q E h => by
      obtain ⟨_, _, _, _, hk, _⟩ := h
      omega
    exact ⟨fun vs H Q E h => absurd h (no vs H Q E), fun A outer s H args us vs Q E _ _ _ _ h => absurd h (no vs H Q E)⟩
  | n + 1 => ok_mx1 D DT GT DA GA m_int (ok_mx D DT GT DA GA m_int n)
def spWd : Sp := fun vs H Q _ => ∃ (d : Addr), vs = [.ref d] ∧ Ints H d ∧ ∀ v m H', But d H H' → Ints H' d → MxAt H' v m → m.ok → m.high ≤ 10 → m.wid ≤ 9 → m.lf ≤ 19 → Q v H'
theorem sc_wd : FnScope ["row", "matrix", "k", "left", "right", "one", "both"] ["row"] (defScope s__law_wide) := ⟨rfl, rfl, rfl, by decide +kernel, rfl, by decide +kernel, by decide +kernel⟩
set_option maxHeartbeats 1000000 in
theorem ok_wd {f fT fA : Addr} {fd dT dA : FuncData} (D : Df K mg "_law_wide" s__law_wide ["row"] f fd) (DT : Df K mg "_law_take" s__law_take ["row", "bound"] fT dT) (GT : FnOk P w K mg base CX0 1 fT dT ["row", "bound"] spTake)
    (DA : Df K mg "_law_atom" s__law_atom ["row", "names", "depth"] fA dA) (GA : ∀ L, FnOk P w K mg base CX0 4 fA dA ["row", "names", "depth"] (spA20 L)) (m_range : mg "range" = none) : FnOk P w K mg base CX0 5 f fd ["row"] spWd := by
  refine D.F.ok sc_wd (fun vs H Q E h => ?_) (fun cdv A outer s H vs Q E hr h => ?_)
  · obtain ⟨_, rfl, _⟩ := h; rfl
  obtain ⟨d, rfl, hI, q⟩ := h
  have nd := sc_wd.nd
  have r1 : Room 1 _ := hr.mono (by decide)
  have r4 : Room 4 _ := hr.mono (by decide)
  refine ⟨_, (pss_cons (ps_set (i := 1) nd rfl (.inl rfl) (pe_tup (pa_cons pe_str pa_nil)))
    (pss_cons (ps_for PassesOwn.never rfl (pi_range1 (by rfl) m_range (pa_cons (pe_op op_add pe_int (pe_call GT r1 (by rfl) DT.m DT.F.kp DT.b .nil pass0 (pa_cons (pv 0) (pa_cons pe_int pa_nil)))) pa_nil)) (pg_name (i := 2) nd rfl (.inl rfl))
      (pss_cons (ps_asg (pe_call (GA N3) r4 (by rfl) DA.m DA.F.kp DA.b .nil pass0 (pa_cons (pv 0) (pa_cons (pe_lst (pa_cons pe_str (pa_cons pe_str pa_nil))) (pa_cons pe_int pa_nil)))) (pg_tup rfl (pgs_cons (pg_name (i := 3) nd rfl (.inl rfl)) (pgs_cons (pg_name (i := 4) nd rfl (.inl rfl)) pgs_nil))))
    (pss_cons (ps_set (i := 5) nd rfl (.inl rfl) (pe_tup (pa_cons pe_str (pa_cons (pv 3) (pa_cons (pv 4) pa_nil)))))
    (pss_cons (ps_asg (pe_call (GA N3) r4 (by rfl) DA.m DA.F.kp DA.b .nil pass0 (pa_cons (pv 0) (pa_cons (pe_lst (pa_cons pe_str (pa_cons pe_str pa_nil))) (pa_cons pe_int pa_nil)))) (pg_tup rfl (pgs_cons (pg_name (i := 3) nd rfl (.inl rfl)) (pgs_cons (pg_name (i := 4) nd rfl (.inl rfl)) pgs_nil))))
    (pss_cons (ps_set (i := 6) nd rfl (.inl rfl) (pe_tup (pa_cons pe_str (pa_cons (pv 5) (pa_cons (pe_tup (pa_cons pe_str (pa_cons (pe_tup (pa_cons pe_str (pa_cons (pv 3) (pa_cons (pv 4) pa_nil)))) pa_nil))) pa_nil)))))
    (pss_one (ps_if (pt_cmpR op_eq (pv 2) pe_int (nomark _))
      (pss_one (ps_set (i := 1) nd rfl (.inl rfl) (pv 6)))
      (pss_one (ps_set (i := 1) nd rfl (.inl rfl) (pe_tup (pa_cons pe_str (pa_cons (pv 1) (pa_cons (pv 6) pa_nil)))))))))))))
    (pss_one (ps_ret (pv 1))))), ?_⟩
  refine ⟨by show 1 ≤ sizeLine; decide, fun p0 np0 => ?_⟩
  have s0 := same_new np0 (.tup [.str "true"])
  refine ⟨_, rfl, d, 8, rfl, hI.same s0, by decide, fun r F0 r0 r8 b0 hI0 => ⟨2, r, rfl, rfl, ?_⟩⟩
  have e0 : MxAt F0 (.ref p0) (.tt true) := .ap (b0 _ _ (hI.ne np0) upd_same) .nil
  obtain ⟨N, hN, hN9⟩ : ∃ N : Nat, 2 + r = (N : Int) ∧ N ≤ 9 := ⟨(2 + r).toNat, by omega, by omega⟩
  rw [show (fun i j : Int => V.int (i + j)) 2 r = V.int (N : Nat) from congrArg V.int hN]
  refine ⟨N, rfl, by omega, by omega, for_range (n := N) (fun i σ F => ∃ (vm : V) (m : Mx) (y2 y3 y4 y5 y6 : Option V), σ = [some (.ref d), some vm, y2, y3, y4, y5, y6] ∧ But d H F ∧ Ints F d ∧ MxAt F vm m ∧ m.ok ∧ m.high ≤ i + 1 ∧ m.wid ≤ i ∧ m.lf ≤ 2 * i + 1) ⟨_, .tt true, none, none, none, none, none, rfl, s0.but.trans b0, hI0, e0, trivial, Nat.le_refl _, Nat.le_refl _, Nat.le_refl _⟩ (fun i σ F hi h => ?_) (fun σ F h => ?_)⟩
  · obtain ⟨vm, m, y2, y3, y4, y5, y6, rfl, bF, hIF, hv, okm, hh, hwd, hlf⟩ := h
    have hxy : ∀ x ∈ ([("X" : Str), "Y"] : List Str), x ∈ N3 := fun x hx => by
      rcases List.mem_cons.mp hx with rfl | hx
      · exact List.mem_cons_self
      · rw [List.mem_singleton.mp hx]; exact List.mem_cons_of_mem _ List.mem_cons_self
    refine ⟨_, rfl, by show 2 ≤ sizeLine; decide, fun l1 nl1 => ?_⟩
    have s1 := same_new nl1 (.lst [.str "X", .str "Y"])
    refine ⟨d, l1, [("X" : Str), "Y"], 1, rfl, hIF.same s1, upd_same, hIF.ne nl1, hxy, by decide, by decide, fun p v1 v2 t1 t2 F2 b2 hI2 ep h1 h2 ha n1 n2 z1 z2 => ?_⟩
    have b2 := s1.but.trans b2
    refine ⟨p, _, rfl, .inl (.inl ep), rfl, _, _, rfl, _, _, rfl, rfl, ?_⟩
    refine ⟨v1, rfl, v2, rfl, by show 3 ≤ sizeLine; decide, fun pA npA => ?_⟩
    have sA := same_new npA (.tup [.str "equal", v1, v2])
    have hA : TmAt (upd F2 pA (.tup [.str "equal", v1, v2])) (.ref pA) (.ap "equal" [t1, t2]) := .ap upd_same (.cons (TmAt.mono sA.tups _ _ h1) (.cons (TmAt.mono sA.tups _ _ h2) .nil))
    have hIA := hI2.same sA
    have bA := b2.trans sA.but
    generalize upd F2 pA (.tup [.str "equal", v1, v2]) = FA at hA hIA bA ⊢
    refine ⟨_, rfl, by show 2 ≤ sizeLine; decide, fun l2 nl2 => ?_⟩
    have s2 := same_new nl2 (.lst [.str "X", .str "Y"])
    refine ⟨d, l2, [("X" : Str), "Y"], 1, rfl, hIA.same s2, upd_same, hIA.ne nl2, hxy, by decide, by decide, fun p' v1' v2' t1' t2' F3 b3 hI3 ep' h1' h2' ha' n1' n2' z1' z2' => ?_⟩
    have b3 := s2.but.trans b3
    refine ⟨p', _, rfl, .inl (.inl ep'), rfl, _, _, rfl, _, _, rfl, rfl, ?_⟩
    refine ⟨_, rfl, v1', rfl, v2', rfl, by show 3 ≤ sizeLine; decide, fun pB npB => ⟨by show 2 ≤ sizeLine; decide, fun pC npC => ⟨by show 3 ≤ sizeLine; decide, fun pD npD => ?_⟩⟩⟩
    have sB := same_new npB (.tup [.str "equal", v1', v2'])
    have sC := same_new npC (.tup [.str "not", .ref pB])
    have sD := same_new npD (.tup [.str "and", .ref pA, .ref pC])
    have sBD := sB.trans (sC.trans sD)
    have mA3 := (b3.tupsI hIA).trans sBD.tups
    have hD : MxAt (upd (upd (upd F3 pB (.tup [.str "equal", v1', v2'])) pC (.tup [.str "not", .ref pB])) pD (.tup [.str "and", .ref pA, .ref pC])) (.ref pD) (.an (.lt true t1 t2) (.lt false t1' t2')) := .ap upd_same (.cons (TmAt.mono mA3 _ _ hA) (.cons (.ap (sD _ _ upd_same) (.cons (.ap ((sC.trans sD) _ _ upd_same) (.cons (TmAt.mono sBD.tups _ _ h1') (.cons (TmAt.mono sBD.tups _ _ h2') .nil))) .nil)) .nil))
    have okD : (Mx.an (.lt true t1 t2) (.lt false t1' t2')).ok := ⟨⟨ha, n1, n2, z1, z2⟩, ha', n1', n2', z1', z2'⟩
    have bD := bA.trans (b3.trans sBD.but)
    have hID := hI3.same sBD
    have hvD := hv.tups (bD.tupsI hIF)
    generalize upd (upd (upd F3 pB (.tup [.str "equal", v1', v2'])) pC (.tup [.str "not", .ref pB])) pD (.tup [.str "and", .ref pA, .ref pC]) = FD at hD bD hID hvD ⊢
    refine ⟨_, rfl, rfl, _, rfl, ite2 (fun z => ?_) (fun z => ?_)⟩
    · exact ⟨_, rfl, _, _, _, _, _, _, _, rfl, bF.trans bD, hID, hD, okD, by show 2 ≤ i + 1 + 1; omega, by show 1 ≤ i + 1; omega, by show 2 ≤ 2 * (i + 1) + 1; omega⟩
    · have i1 : 1 ≤ i := by
        refine Nat.pos_of_ne_zero fun e => z ?_
        subst e
        exact decide_eq_true rfl
      refine ⟨vm, rfl, _, rfl, by show 3 ≤ sizeLine; decide, fun pE npE => ?_⟩
      have sE := same_new npE (.tup [.str "or", vm, .ref pD])
      exact ⟨_, .or m (.an (.lt true t1 t2) (.lt false t1' t2')), _, _, _, _, _, rfl, bF.trans (bD.trans sE.but), hID.same sE, .ap upd_same (.cons (TmAt.mono sE.tups _ _ hvD) (.cons (TmAt.mono sE.tups _ _ hD) .nil)), ⟨okm, okD⟩, by show max m.high 2 + 1 ≤ i + 1 + 1; omega, by show m.wid + 1 ≤ i + 1; omega, by show m.lf + 2 ≤ 2 * (i + 1) + 1; omega⟩
  · obtain ⟨vm, m, y2, y3, y4, y5, y6, rfl, bF, hIF, hv, okm, hh, hwd, hlf⟩ := h
    exact ⟨_, rfl, q vm m F bF hIF hv okm (by omega) (by omega) (by omega)⟩
end
end K23
namespace K23
open PySem PySem.Spec PyProof.Rows L2 Own HT
section
variable {P : Program} {w : World} {K : PySem.W.Frag} {mg : Str → Option Value} {base : Heap}
theorem nu3 (x y z : Int) : nuMax3 (.int x) (.int y) (.int z) = some (.int (max (max x y) z)) := by
  have two : ∀ x y : Int, nuMax2 (.int x) (.int y) = some (.int (max x y)) := fun x y => by
    show Option.map _ (some (decide (x < y))) = _
    show some (if decide (x < y) = true then V.int y else V.int x) = _
    by_cases h : x < y
    · rw [decide_eq_true h, if_pos rfl, Int.max_eq_right (by omega)]
    · rw [decide_eq_false h, if_neg Bool.false_ne_true, Int.max_eq_left (by omega)]
  unfold nuMax3
  rw [two x y]
  exact two _ z
def spCt (n : Nat) : Sp := fun vs H Q _ => ∃ (v : V) (m : Mx), vs = [v] ∧ MxAt H v m ∧ m.high < n ∧ m.lf ≤ 60 ∧ ∀ (p : Addr) (H' : Hp), Same H H' → H' p = some (.tup [.int (m.cnt : Nat), .int (m.most : Nat)]) → Q (.ref p) H'
theorem sc_ct : FnScope ["matrix", "kind", "one", "most", "two", "other", "count"] ["matrix"] (defScope s__law_counts) := ⟨rfl, rfl, rfl, by decide +kernel, rfl, by decide +kernel, by decide +kernel⟩
set_option maxHeartbeats 1000000 in
theorem ok_ct1 {f : Addr} {fd : FuncData} (D : Df K mg "_law_counts" s__law_counts ["matrix"] f fd) (m_max : mg "max" = none) {n : Nat} (G : FnOk P w K mg base CX0 (n + 1) f fd ["matrix"] (spCt n)) : FnOk P w K mg base CX0 (n + 1 + 1) f fd ["matrix"] (spCt (n + 1)) := by
  refine D.F.ok sc_ct (fun vs H Q E h => ?_) (fun cdv A outer s H vs Q E hr h => ?_)
  · obtain ⟨_, _, rfl, _⟩ := h; rfl
  obtain ⟨v, m, rfl, hv, hn, hl, q⟩ := h
  have nd := sc_ct.nd
  refine ⟨_, (pss_cons (ps_set (i := 1) nd rfl (.inl rfl) (pe_ix ix_tup (pv 0) pe_int (fun _ _ => rfl)))
    (pss_cons (ps_if (pt_cmpR op_eq (pv 1) pe_str (nomark _))
      (pss_one (ps_ret (pe_tup (pa_cons pe_int (pa_cons pe_int pa_nil)))))
      pss_nil)
    (pss_cons (ps_if (PW.pt (pw_and (pt_cmpR op_ne (pv 1) pe_str (nomark _)) (pw_and1 (pt_cmpR op_ne (pv 1) pe_str (nomark _)))))
      (pss_one (ps_ret (pe_tup (pa_cons pe_int (pa_cons pe_int pa_nil)))))
      pss_nil)
    (pss_cons (ps_asg (pe_call G hr (by rfl) D.m D.F.kp D.b .nil pass0 (pa_cons (pe_ix ix_tup (pv 0) pe_int (fun _ _ => rfl)) pa_nil)) (pg_tup rfl (pgs_cons (pg_name (i := 2) nd rfl (.inl rfl)) (pgs_cons (pg_name (i := 3) nd rfl (.inl rfl)) pgs_nil))))
    (pss_cons (ps_asg (pe_call G hr (by rfl) D.m D.F.kp D.b .nil pass0 (pa_cons (pe_ix ix_tup (pv 0) pe_int (fun _ _ => rfl)) pa_nil)) (pg_tup rfl (pgs_cons (pg_name (i := 4) nd rfl (.inl rfl)) (pgs_cons (pg_name (i := 5) nd rfl (.inl rfl)) pgs_nil))))
    (pss_cons (ps_set (i := 6) nd rfl (.inl rfl) (pe_op op_add (pv 2) (pv 4)))
    (C8.pss_cut (ps_if (pt_cmpR op_eq (pv 1) pe_str (nomark _))
      (pss_one (ps_set (i := 6) nd rfl (.inl rfl) (pe_op op_mul (pv 2) (pv 4))))
      pss_nil)
    (pss_one (ps_ret (pe_tup (pa_cons (pv 6) (pa_cons (pe_callB (call_max3Nu rfl) (by rfl) m_max (by decide +kernel) (pa_cons (pv 6) (pa_cons (pv 3) (pa_cons (pv 5) pa_nil)))) pa_nil)))))))))))), ?_⟩
  obtain ⟨p, xs, rfl, ep⟩ := mx_at hv
  refine ⟨_, rfl, p, _, 0, _, rfl, rfl, .inl (.inl ep), head_at, ?_⟩
  have one : ∀ p, H p = none → m.cnt = 1 → m.most = 1 → Q (.ref p) (upd H p (.tup [.int 1, .int 1])) := fun p np e1 e2 => q p _ (same_new np _) (by rw [upd_same, e1, e2]; rfl)
  cases m with
  | tt b =>
    cases b with
    | true =>
      refine ⟨_, rfl, rfl, _, rfl, inT (by show decide (V.str "true" = V.str "true") = true; decide +kernel) ⟨by show 2 ≤ sizeLine; decide, fun p np => q p _ (same_new np _) upd_same⟩⟩
    | false =>
      refine ⟨_, rfl, rfl, _, rfl, inF (by show decide (V.str "false" = V.str "true") = false; decide +kernel) ?_⟩
      refine ⟨_, rfl, rfl, _, rfl, inT (by show (!decide (V.str "false" = V.str "and")) = true; decide +kernel) ?_⟩
      refine ⟨_, rfl, rfl, _, rfl, inT (by show (!decide (V.str "false" = V.str "or")) = true; decide +kernel) ?_⟩
      exact ⟨by show 2 ≤ sizeLine; decide, fun p np => one p np rfl rfl⟩
  | lt b l r =>
    cases b with
    | true =>
      refine ⟨_, rfl, rfl, _, rfl, inF (by show decide (V.str "equal" = V.str "true") = false; decide +kernel) ?_⟩
      refine ⟨_, rfl, rfl, _, rfl, inT (by show (!decide (V.str "equal" = V.str "and")) = true; decide +kernel) ?_⟩
      refine ⟨_, rfl, rfl, _, rfl, inT (by show (!decide (V.str "equal" = V.str "or")) = true; decide +kernel) ?_⟩
      exact ⟨by show 2 ≤ sizeLine; decide, fun p np => one p np rfl rfl⟩
    | false =>
      refine ⟨_, rfl, rfl, _, rfl, inF (by show decide (V.str "not" = V.str "true") = false; decide +kernel) ?_⟩
      refine ⟨_, rfl, rfl, _, rfl, inT (by show (!decide (V.str "not" = V.str "and")) = true; decide +kernel) ?_⟩
      refine ⟨_, rfl, rfl, _, rfl, inT (by show (!decide (V.str "not" = V.str "or")) = true; decide +kernel) ?_⟩
      exact ⟨by show 2 ≤ sizeLine; decide, fun p np => one p np rfl rfl⟩
  | an f g =>
    refine ⟨_, rfl, rfl, _, rfl, inF (by show decide (V.str "and" = V.str "true") = false; decide +kernel) ?_⟩
    refine ⟨_, rfl, rfl, _, rfl, inF (by show (!decide (V.str "and" = V.str "and")) = false; decide +kernel) ?_⟩
    obtain ⟨p', x, y, e1, e2, hx, hy⟩ := two_at hv
    cases e1
    have hn : max f.high g.high + 1 < n + 1 := hn
    have hl : f.lf + g.lf ≤ 60 := hl
    have pf := lf_pos f
    have pg := lf_pos g
    have cf : f.cnt ≤ 2 ^ 60 := Nat.le_trans (cnt_lf f) (Nat.pow_le_pow_right (by decide) (by omega))
    have cg : g.cnt ≤ 2 ^ 60 := Nat.le_trans (cnt_lf g) (Nat.pow_le_pow_right (by decide) (by omega))
    refine ⟨_, rfl, p, _, 1, x, rfl, rfl, .inl (.inl e2), at_1, x, f, rfl, hx, by omega, by omega, fun p1 F1 s1 ep1 => ?_⟩
    refine ⟨p1, _, rfl, .inl (.inl ep1), rfl, _, _, rfl, _, _, rfl, rfl, ?_⟩
    refine ⟨_, rfl, p, _, 2, y, rfl, rfl, .inl (.inl (s1 _ _ e2)), at_2, y, g, rfl, TmAt.mono s1.tups _ _ hy, by omega, by omega, fun p2 F2 s2 ep2 => ?_⟩
    refine ⟨p2, _, rfl, .inl (.inl ep2), rfl, _, _, rfl, _, _, rfl, rfl, ?_⟩
    refine ⟨_, rfl, _, rfl, _, _, rfl, rfl, ?_⟩
    refine ⟨fun σ F => σ = [some (.ref p), some (.str "and"), some (.int (f.cnt : Nat)), some (.int (f.most : Nat)), some (.int (g.cnt : Nat)), some (.int (g.most : Nat)), some (.int ((f.cnt + g.cnt : Nat) : Int))] ∧ Same H F, ?_, fun σ F h => ?_⟩
    · exact ⟨_, rfl, rfl, _, rfl, inF (by show decide (V.str "and" = V.str "or") = false; decide +kernel) ⟨by rw [Int.natCast_add]; rfl, s1.trans s2⟩⟩
    obtain ⟨rfl, sF⟩ := h
    refine ⟨_, rfl, _, rfl, _, rfl, _, rfl, _, _, _, _, rfl, nu3 _ _ _, by show 2 ≤ sizeLine; decide, fun pt npt => ?_⟩
    refine q pt _ (sF.trans (same_new npt _)) ?_
    rw [upd_same]
    have e9 : max (max ((f.cnt + g.cnt : Nat) : Int) (f.most : Nat)) (g.most : Nat) = (((Mx.an f g).most : Nat) : Int) := by
      show _ = ((max (f.cnt + g.cnt) (max f.most g.most) : Nat) : Int)
      generalize f.cnt + g.cnt = z
      omega
    rw [e9]
    rfl
  | or f g =>
    refine ⟨_, rfl, rfl, _, rfl, inF (by show decide (V.str "or" = V.str "true") = false; decide +kernel) ?_⟩
    refine ⟨_, rfl, rfl, _, rfl, inT (by show (!decide (V.str "or" = V.str "and")) = true; decide +kernel) ?_⟩
    refine ⟨_, rfl, rfl, _, rfl, inF (by show (!decide (V.str "or" = V.str "or")) = false; decide +kernel) ?_⟩
    obtain ⟨p', x, y, e1, e2, hx, hy⟩ := two_at hv
    cases e1
    have hn : max f.high g.high + 1 < n + 1 := hn
    have hl : f.lf + g.lf ≤ 60 := hl
    have pf := lf_pos f
    have pg := lf_pos g
    have cf : f.cnt ≤ 2 ^ 60 := Nat.le_trans (cnt_lf f) (Nat.pow_le_pow_right (by decide) (by omega))
    have cg : g.cnt ≤ 2 ^ 60 := Nat.le_trans (cnt_lf g) (Nat.pow_le_pow_right (by decide) (by omega))
    refine ⟨_, rfl, p, _, 1, x, rfl, rfl, .inl (.inl e2), at_1, x, f, rfl, hx, by omega, by omega, fun p1 F1 s1 ep1 => ?_⟩
    refine ⟨p1, _, rfl, .inl (.inl ep1), rfl, _, _, rfl, _, _, rfl, rfl, ?_⟩
    refine ⟨_, rfl, p, _, 2, y, rfl, rfl, .inl (.inl (s1 _ _ e2)), at_2, y, g, rfl, TmAt.mono s1.tups _ _ hy, by omega, by omega, fun p2 F2 s2 ep2 => ?_⟩
    refine ⟨p2, _, rfl, .inl (.inl ep2), rfl, _, _, rfl, _, _, rfl, rfl, ?_⟩
    refine ⟨_, rfl, _, rfl, _, _, rfl, rfl, ?_⟩
    refine ⟨fun σ F => σ = [some (.ref p), some (.str "or"), some (.int (f.cnt : Nat)), some (.int (f.most : Nat)), some (.int (g.cnt : Nat)), some (.int (g.most : Nat)), some (.int ((f.cnt * g.cnt : Nat) : Int))] ∧ Same H F, ?_, fun σ F h => ?_⟩
    · exact ⟨_, rfl, rfl, _, rfl, inT (by show decide (V.str "or" = V.str "or") = true; decide +kernel) ⟨_, rfl, _, rfl, _, _, rfl, rfl, .inl ⟨by omega, by omega⟩, by rw [Int.natCast_mul]; rfl, s1.trans s2⟩⟩
    obtain ⟨rfl, sF⟩ := h
    refine ⟨_, rfl, _, rfl, _, rfl, _, rfl, _, _, _, _, rfl, nu3 _ _ _, by show 2 ≤ sizeLine; decide, fun pt npt => ?_⟩
    refine q pt _ (sF.trans (same_new npt _)) ?_
    rw [upd_same]
    have e9 : max (max ((f.cnt * g.cnt : Nat) : Int) (f.most : Nat)) (g.most : Nat) = (((Mx.or f g).most : Nat) : Int) := by
      show _ = ((max (f.cnt * g.cnt) (max f.most g.most) : Nat) : Int)
      generalize f.cnt * g.cnt = z
      omega
    rw [e9]
    rfl
theorem ok_ct {f : Addr} {fd : FuncData} (D : Df K mg "_law_counts" s__law_counts ["matrix"] f fd) (m_max : mg "max" = none) : ∀ n : Nat, FnOk P w K mg base CX0 (n + 1) f fd ["matrix"] (spCt n)
  | 0 => by
    have no : ∀ vs H Q E, ¬ spCt 0 vs H Q E := fun vs H Q E h => by
      obtain ⟨_, _, _, _, hk, _⟩ := h
      omega
    exact ⟨fun vs H Q E h => absurd h (no vs H Q E), fun A outer s H args us vs Q E _ _ _ _ h => absurd h (no vs H Q E)⟩
  | n + 1 => ok_ct1 D m_max (ok_ct D m_max n)
end
end K23
namespace K23
open PySem PySem.Spec PyProof.Rows L2 Own HT
section
variable {P : Program} {w : World} {K : PySem.W.Frag} {mg : Str → Option Value} {base : Heap}
def RwA (H : Hp) (v : V) (c : List Lit) : Prop := ∃ (a : Addr) (xs : List V), v = .ref a ∧ H a = some (.lst xs) ∧ LitAll H xs c
theorem RwA.same {H H' : Hp} {v : V} {c : List Lit} (h : RwA H v c) (s : Same H H') : RwA H' v c := by
  obtain ⟨a, xs, e, ea, r⟩ := h
  exact ⟨a, xs, e, s _ _ ea, r.mono s.tups⟩
def RwN (d : Addr) (H : Hp) (v : V) (c : List Lit) : Prop := ∃ (a : Addr) (xs : List V), v = .ref a ∧ a ≠ d ∧ H a = some (.lst xs) ∧ LitAll H xs c
theorem RwN.same {d : Addr} {H H' : Hp} {v : V} {c : List Lit} (h : RwN d H v c) (s : Same H H') : RwN d H' v c := by
  obtain ⟨a, xs, e, n, ea, r⟩ := h
  exact ⟨a, xs, e, n, s _ _ ea, r.mono s.tups⟩
theorem RwN.but {d : Addr} {ys : List V} {H H' : Hp} {v : V} {c : List Lit} (h : RwN d H v c) (b : But d H H') (e : H d = some (.lst ys)) : RwN d H' v c := by
  obtain ⟨a, xs, ev, n, ea, r⟩ := h
  exact ⟨a, xs, ev, n, b _ _ n ea, r.mono (b.tups e)⟩
theorem RwN.toA {d : Addr} {H : Hp} {v : V} {c : List Lit} (h : RwN d H v c) : RwA H v c := by
  obtain ⟨a, xs, ev, n, ea, r⟩ := h
  exact ⟨a, xs, ev, ea, r⟩
def spRw (n : Nat) : Sp := fun vs H Q _ => ∃ (v : V) (m : Mx), vs = [v] ∧ MxAt H v m ∧ m.high < n ∧ m.most ≤ 1000 ∧ m.wid ≤ 64 ∧ ∀ (d : Addr) (ws : List V) (H' : Hp), Same H H' → H d = none → H' d = some (.lst ws) → ZA (RwA H') ws m.raw → Q (.ref d) H'
theorem sc_rw : FnScope ["matrix", "kind", "first", "second", "rows", "one", "two"] ["matrix"] (defScope s__law_raw) := ⟨rfl, rfl, rfl, by decide +kernel, rfl, by decide +kernel, by decide +kernel⟩
set_option maxHeartbeats 1000000 in
theorem ok_rw1 {f : Addr} {fd : FuncData} (D : Df K mg "_law_raw" s__law_raw ["matrix"] f fd) {n : Nat} (G : FnOk P w K mg base CX0 (n + 1) f fd ["matrix"] (spRw n)) : FnOk P w K mg base CX0 (n + 1 + 1) f fd ["matrix"] (spRw (n + 1)) := by
  refine D.F.ok sc_rw (fun vs H Q E h => ?_) (fun cdv A outer s H vs Q E hr h => ?_)
  · obtain ⟨_, _, rfl, _⟩ := h; rfl
  obtain ⟨v, m, rfl, hv, hn, hm, hwid, q⟩ := h
  have nd := sc_rw.nd
  refine ⟨_, (pss_cons (ps_set (i := 1) nd rfl (.inl rfl) (pe_ix ix_tup (pv 0) pe_int (fun _ _ => rfl)))
    (pss_cons (ps_if (pt_cmpR op_eq (pv 1) pe_str (nomark _))
      (pss_one (ps_ret (pe_lst pa_nil)))
      pss_nil)
    (pss_cons (ps_if (pt_cmpR op_eq (pv 1) pe_str (nomark _))
      (pss_one (ps_ret (pe_lst (pa_cons (pe_lst pa_nil) pa_nil))))
      pss_nil)
    (pss_cons (ps_if (pt_cmpR op_eq (pv 1) pe_str (nomark _))
      (pss_one (ps_ret (pe_lst (pa_cons (pe_lst (pa_cons (pe_tup (pa_cons pe_bl (pa_cons (pe_ix ix_tup (pv 0) pe_int (fun _ _ => rfl)) (pa_cons (pe_ix ix_tup (pv 0) pe_int (fun _ _ => rfl)) pa_nil)))) pa_nil)) pa_nil))))
      pss_nil)
    (pss_cons (ps_if (pt_cmpR op_eq (pv 1) pe_str (nomark _))
      (pss_one (ps_ret (pe_lst (pa_cons (pe_lst (pa_cons (pe_tup (pa_cons pe_bl (pa_cons (pe_ix ix_tup (pe_ix ix_tup (pv 0) pe_int (fun _ _ => rfl)) pe_int (fun _ _ => rfl)) (pa_cons (pe_ix ix_tup (pe_ix ix_tup (pv 0) pe_int (fun _ _ => rfl)) pe_int (fun _ _ => rfl)) pa_nil)))) pa_nil)) pa_nil))))
      pss_nil)
    (pss_cons (ps_set (i := 2) nd rfl (.inl rfl) (pe_call G hr (by rfl) D.m D.F.kp D.b .nil pass0 (pa_cons (pe_ix ix_tup (pv 0) pe_int (fun _ _ => rfl)) pa_nil)))
    (pss_cons (ps_set (i := 3) nd rfl (.inl rfl) (pe_call G hr (by rfl) D.m D.F.kp D.b .nil pass0 (pa_cons (pe_ix ix_tup (pv 0) pe_int (fun _ _ => rfl)) pa_nil)))
    (pss_cons (ps_if (pt_cmpR op_eq (pv 1) pe_str (nomark _))
      (pss_one (ps_ret (pe_op op_cat (pv 2) (pv 3))))
      pss_nil)
    (pss_cons (ps_set (i := 4) nd rfl (.inl rfl) (pe_lst pa_nil))
    (pss_cons (ps_for PassesOwn.never rfl (pi_list (pv 2)) (pg_name (i := 5) nd rfl (.inl rfl))
      (pss_one (ps_for PassesOwn.never rfl (pi_list (pv 3)) (pg_name (i := 6) nd rfl (.inl rfl))
      (pss_one (ps_expr (pe_bm PySem.F.plainAttrs_list PySem.F.slot_list_append PySem.F.type_list_append mt_append (pv 4) (pa_cons (pe_op op_cat (pv 5) (pv 6)) pa_nil)))))))
    (pss_one (ps_ret (pv 4))))))))))))), ?_⟩
  obtain ⟨p, xs, rfl, ep⟩ := mx_at hv
  refine ⟨_, rfl, p, _, 0, _, rfl, rfl, .inl (.inl ep), head_at, ?_⟩
  cases m with
  | tt b =>
    cases b with
    | true =>
      refine ⟨_, rfl, rfl, _, rfl, inT (by show decide (V.str "true" = V.str "true") = true; decide +kernel) ⟨Nat.zero_le _, fun d nd' => ?_⟩⟩
      exact q d [] _ (same_new nd' _) nd' upd_same .nil
    | false =>
      refine ⟨_, rfl, rfl, _, rfl, inF (by show decide (V.str "false" = V.str "true") = false; decide +kernel) ?_⟩
      refine ⟨_, rfl, rfl, _, rfl, inT (by show decide (V.str "false" = V.str "false") = true; decide +kernel) ⟨Nat.zero_le _, fun e ne => ⟨by show 1 ≤ sizeLine; decide, fun d nd' => ?_⟩⟩⟩
      have s1 := same_new ne (.lst [])
      have s2 := same_new nd' (.lst [.ref e])
      exact q d [.ref e] _ (s1.trans s2) (s1.free nd') upd_same (.cons ⟨e, [], rfl, s2 _ _ upd_same, .nil⟩ .nil)
  | lt b l r =>
    cases b with
    | true =>
      obtain ⟨p', x, y, e1, e2, hx, hy⟩ := two_at hv
      cases e1
      refine ⟨_, rfl, rfl, _, rfl, inF (by show decide (V.str "equal" = V.str "true") = false; decide +kernel) ?_⟩
      refine ⟨_, rfl, rfl, _, rfl, inF (by show decide (V.str "equal" = V.str "false") = false; decide +kernel) ?_⟩
      refine ⟨_, rfl, rfl, _, rfl, inT (by show decide (V.str "equal" = V.str "equal") = true; decide +kernel) ?_⟩
      refine ⟨_, rfl, p, _, 1, x, rfl, rfl, .inl (.inl e2), at_1, _, rfl, p, _, 2, y, rfl, rfl, .inl (.inl e2), at_2, by show 3 ≤ sizeLine; decide, fun t nt => ⟨by show 1 ≤ sizeLine; decide, fun e ne => ⟨by show 1 ≤ sizeLine; decide, fun d nd' => ?_⟩⟩⟩
      have s0 := same_new nt (.tup [.bl true, x, y])
      have s1 := same_new ne (.lst [.ref t])
      have s2 := same_new nd' (.lst [.ref e])
      have s02 := s0.trans (s1.trans s2)
      exact q d [.ref e] _ s02 (s0.free (s1.free nd')) upd_same (.cons ⟨e, _, rfl, s2 _ _ upd_same, .cons (.mk ((s1.trans s2) _ _ upd_same) (TmAt.mono s02.tups _ _ hx) (TmAt.mono s02.tups _ _ hy)) .nil⟩ .nil)
    | false =>
      obtain ⟨p', z, e1, e2, hz⟩ := one_at hv
      cases e1
      obtain ⟨pz, x, y, e1, e3, hx, hy⟩ := two_at hz
      subst e1
      refine ⟨_, rfl, rfl, _, rfl, inF (by show decide (V.str "not" = V.str "true") = false; decide +kernel) ?_⟩
      refine ⟨_, rfl, rfl, _, rfl, inF (by show decide (V.str "not" = V.str "false") = false; decide +kernel) ?_⟩
      refine ⟨_, rfl, rfl, _, rfl, inF (by show decide (V.str "not" = V.str "equal") = false; decide +kernel) ?_⟩
      refine ⟨_, rfl, rfl, _, rfl, inT (by show decide (V.str "not" = V.str "not") = true; decide +kernel) ?_⟩
      refine ⟨_, rfl, p, _, 1, .ref pz, rfl, rfl, .inl (.inl e2), at_1, pz, _, 1, x, rfl, rfl, .inl (.inl e3), at_1, _, rfl, p, _, 1, .ref pz, rfl, rfl, .inl (.inl e2), at_1, pz, _, 2, y, rfl, rfl, .inl (.inl e3), at_2, by show 3 ≤ sizeLine; decide, fun t nt => ⟨by show 1 ≤ sizeLine; decide, fun e ne => ⟨by show 1 ≤ sizeLine; decide, fun d nd' => ?_⟩⟩⟩
      have s0 := same_new nt (.tup [.bl false, x, y])
      have s1 := same_new ne (.lst [.ref t])
      have s2 := same_new nd' (.lst [.ref e])
      have s02 := s0.trans (s1.trans s2)
      exact q d [.ref e] _ s02 (s0.free (s1.free nd')) upd_same (.cons ⟨e, _, rfl, s2 _ _ upd_same, .cons (.mk ((s1.trans s2) _ _ upd_same) (TmAt.mono s02.tups _ _ hx) (TmAt.mono s02.tups _ _ hy)) .nil⟩ .nil)
  | an f g =>
    obtain ⟨p', x, y, e1, e2, hx, hy⟩ := two_at hv
    cases e1
    have hn : max f.high g.high + 1 < n + 1 := hn
    have hm : max (f.cnt + g.cnt) (max f.most g.most) ≤ 1000 := hm
    have hwid : max f.wid g.wid ≤ 64 := hwid
    refine ⟨_, rfl, rfl, _, rfl, inF (by show decide (V.str "and" = V.str "true") = false; decide +kernel) ?_⟩
    refine ⟨_, rfl, rfl, _, rfl, inF (by show decide (V.str "and" = V.str "false") = false; decide +kernel) ?_⟩
    refine ⟨_, rfl, rfl, _, rfl, inF (by show decide (V.str "and" = V.str "equal") = false; decide +kernel) ?_⟩
    refine ⟨_, rfl, rfl, _, rfl, inF (by show decide (V.str "and" = V.str "not") = false; decide +kernel) ?_⟩
    refine ⟨_, rfl, p, _, 1, x, rfl, rfl, .inl (.inl e2), at_1, x, f, rfl, hx, by omega, by omega, by omega, fun d1 ws1 F1 s1 n1 e1 z1 => ?_⟩
    refine ⟨_, rfl, p, _, 2, y, rfl, rfl, .inl (.inl (s1 _ _ e2)), at_2, y, g, rfl, TmAt.mono s1.tups _ _ hy, by omega, by omega, by omega, fun d2 ws2 F2 s2 n2 e3 z2 => ?_⟩
    refine ⟨_, rfl, rfl, _, rfl, inT (by show decide (V.str "and" = V.str "and") = true; decide +kernel) ?_⟩
    have l1 := z1.len
    have l2 := z2.len
    rw [raw_len] at l1 l2
    refine ⟨_, rfl, _, rfl, d1, d2, ws1, ws2, rfl, rfl, s2 _ _ e1, e3, small6 (by omega), fun d nd' => ?_⟩
    have s3 := same_new nd' (.lst (ws1 ++ ws2))
    refine q d _ _ (s1.trans (s2.trans s3)) (s1.free (s2.free nd')) upd_same ?_
    exact (z1.mono fun v l h => h.same (s2.trans s3)).app (z2.mono fun v l h => h.same s3)
  | or f g =>
    obtain ⟨p', x, y, e1, e2, hx, hy⟩ := two_at hv
    cases e1
    have hn : max f.high g.high + 1 < n + 1 := hn
    have hm : max (f.cnt * g.cnt) (max f.most g.most) ≤ 1000 := hm
    have hwid : f.wid + g.wid ≤ 64 := hwid
    refine ⟨_, rfl, rfl, _, rfl, inF (by show decide (V.str "or" = V.str "true") = false; decide +kernel) ?_⟩
    refine ⟨_, rfl, rfl, _, rfl, inF (by show decide (V.str "or" = V.str "false") = false; decide +kernel) ?_⟩
    refine ⟨_, rfl, rfl, _, rfl, inF (by show decide (V.str "or" = V.str "equal") = false; decide +kernel) ?_⟩
    refine ⟨_, rfl, rfl, _, rfl, inF (by show decide (V.str "or" = V.str "not") = false; decide +kernel) ?_⟩
    refine ⟨_, rfl, p, _, 1, x, rfl, rfl, .inl (.inl e2), at_1, x, f, rfl, hx, by omega, by omega, by omega, fun d1 ws1 F1 s1 n1 e1 z1 => ?_⟩
    refine ⟨_, rfl, p, _, 2, y, rfl, rfl, .inl (.inl (s1 _ _ e2)), at_2, y, g, rfl, TmAt.mono s1.tups _ _ hy, by omega, by omega, by omega, fun d2 ws2 F2 s2 n2 e3 z2 => ?_⟩
    refine ⟨_, rfl, rfl, _, rfl, inF (by show decide (V.str "or" = V.str "and") = false; decide +kernel) ?_⟩
    have l1 := z1.len
    have l2 := z2.len
    rw [raw_len] at l1 l2
    refine ⟨Nat.zero_le _, fun d nd' => ?_⟩
    have s3 := same_new nd' (.lst [])
    have e1' := s2 _ _ e1
    have z1' := z1.mono fun v l h => h.same s2
    have n1d : d1 ≠ d := ne_of_none e1' nd'
    have n2d : d2 ≠ d := ne_of_none e3 nd'
    have s12 := s1.trans s2
    refine ⟨_, rfl, d1, rfl, ⟨_, .inl (.inl (s3 _ _ e1'))⟩, for_list (xs := ws1) (fun i σ F => ∃ (y5 y6 : Option V) (acc : List V), σ = [some (.ref p), some (.str "or"), some (.ref d1), some (.ref d2), some (.ref d), y5, y6] ∧ Same F2 F ∧ F d = some (.lst acc) ∧ ZA (RwN d F) acc ((f.raw.take i).flatMap fun a => g.raw.map fun b => a ++ b) ∧ acc.length ≤ i * g.cnt) ⟨none, none, [], rfl, s3, upd_same, .nil, Nat.zero_le _⟩ (fun i σ F _ h => ?_) (fun i v σ F hv' h => ?_) (fun σ F h => ?_)⟩
    · obtain ⟨_, _, _, _, sF, _⟩ := h
      exact .inl (.inl (sF _ _ e1'))
    · obtain ⟨y5, y6, acc, rfl, sF, ed, hA, la⟩ := h
      have li : i < ws1.length := (List.getElem?_eq_some_iff.mp hv').1
      obtain ⟨L1, hL1, a1, k1, rfl, ea1, r1⟩ := z1'.get hv'
      have m1 := raw_wid f L1 (List.mem_of_getElem? hL1)
      have lk1 := r1.len
      have up : (i + 1) * g.cnt ≤ f.cnt * g.cnt := Nat.mul_le_mul_right _ (by omega)
      have us : (i + 1) * g.cnt = i * g.cnt + g.cnt := Nat.succ_mul i g.cnt
      refine ⟨_, rfl, d2, rfl, ⟨_, .inl (.inl (sF _ _ e3))⟩, for_list (xs := ws2) (fun j σ G => ∃ (y6 : Option V) (acc : List V), σ = [some (.ref p), some (.str "or"), some (.ref d1), some (.ref d2), some (.ref d), some (.ref a1), y6] ∧ Same F2 G ∧ G d = some (.lst acc) ∧ ZA (RwN d G) acc (((f.raw.take i).flatMap fun a => g.raw.map fun b => a ++ b) ++ (g.raw.take j).map fun b => L1 ++ b) ∧ acc.length ≤ i * g.cnt + j) ⟨y6, acc, rfl, sF, ed, by rw [List.take_zero, List.map_nil, List.append_nil]; exact hA, la⟩ (fun j σ G _ h => ?_) (fun j v σ G hv2 h => ?_) (fun σ G h => ?_)⟩
      · obtain ⟨_, _, _, sG, _⟩ := h
        exact .inl (.inl (sG _ _ e3))
      · obtain ⟨y6, acc, rfl, sG, ed, hA, la⟩ := h
        have lj : j < ws2.length := (List.getElem?_eq_some_iff.mp hv2).1
        obtain ⟨L2, hL2, a2, k2, rfl, ea2, r2⟩ := z2.get hv2
        have m2 := raw_wid g L2 (List.mem_of_getElem? hL2)
        have lk2 := r2.len
        refine ⟨_, rfl, tyl ed, _, rfl, _, rfl, a1, a2, k1, k2, rfl, rfl, sG _ _ ea1, sG _ _ ea2, small6 (by omega), fun pn npn => ?_⟩
        have s4 := same_new npn (.lst (k1 ++ k2))
        have ed4 := s4 _ _ ed
        have epn : (upd G pn (.lst (k1 ++ k2))) pn = some (.lst (k1 ++ k2)) := upd_same
        have npd : pn ≠ d := (ne_of_none ed npn).symm
        generalize upd G pn (.lst (k1 ++ k2)) = U at s4 ed4 epn ⊢
        refine ⟨d, acc, _, rfl, rfl, ed4, small6' (by omega), ?_⟩
        have bu : But d U (upd U d (.lst (acc ++ [.ref pn]))) := But.upd
        have mu := bu.tups ed4
        have mm := (sG.trans s4).tups.trans mu
        refine ⟨_, acc ++ [.ref pn], rfl, But.same nd' (sG.trans s4) bu, upd_same, ?_, by rw [List.length_append, List.length_singleton]; omega⟩
        rw [List.take_add_one, hL2, List.map_append, ← List.append_assoc]
        refine (hA.mono fun v l h => (h.same s4).but bu ed4).app (.cons ⟨pn, _, rfl, npd, bu _ _ npd epn, (r1.mono mm).app (r2.mono mm)⟩ .nil)
      · obtain ⟨y6, acc, rfl, sG, ed, hA, la⟩ := h
        refine ⟨_, _, acc, rfl, sG, ed, ?_, by omega⟩
        rw [show f.raw.take (i + 1) = f.raw.take i ++ [L1] by rw [List.take_add_one, hL1]; rfl, List.flatMap_append]
        rw [l2, ← raw_len, List.take_length] at hA
        show ZA (RwN d G) acc (_ ++ List.flatMap _ [L1])
        rw [List.flatMap_singleton]
        exact hA
    · obtain ⟨y5, y6, acc, rfl, sF, ed, hA, la⟩ := h
      refine ⟨_, rfl, q d acc F (s12.trans sF) (s12.free nd') ed ?_⟩
      rw [l1, ← raw_len, List.take_length] at hA
      exact hA.mono fun v l h => h.toA
theorem ok_rw {f : Addr} {fd : FuncData} (D : Df K mg "_law_raw" s__law_raw ["matrix"] f fd) : ∀ n : Nat, FnOk P w K mg base CX0 (n + 1) f fd ["matrix"] (spRw n)
  | 0 => by
    have no : ∀ vs H Q E, ¬ spRw 0 vs H Q E := fun vs H Q E h => by
      obtain ⟨_, _, _, _, hk, _⟩ := h
      omega
    exact ⟨fun vs H Q E h => absurd h (no vs H Q E), fun A outer s H args us vs Q E _ _ _ _ h => absurd h (no vs H Q E)⟩
  | n + 1 => ok_rw1 D (ok_rw D n)
end
end K23
namespace K23
open PySem PySem.Spec PyProof.Rows L2 Own HT
section
variable {P : Program} {w : World} {K : PySem.W.Frag} {mg : Str → Option Value} {base : Heap}
theorem room65 {k : Nat} {A : Around} (r : Room k A) : A.units + 65 < cLine := by have := r.un; omega
def spLNum (n : Nat) : Sp := fun vs H Q _ => ∃ (v : V) (a : Addr) (t : Ter) (ks : List Key), vs = [v, .ref a] ∧ H a = some (.dK (numK 0 ks)) ∧ TmAt H v t ∧ t.inK ks ∧ t.size ≤ 100000 ∧ t.nest < n ∧
  ∀ v' H', Same H H' → TmAt H' v' (t.num ks) → Q v' H'
theorem sc_lnum : FnScope ["term", "numbers", "part"] ["term", "numbers"] (defScope s__law_numbered) := ⟨rfl, rfl, rfl, by decide +kernel, rfl, by decide +kernel, by decide +kernel⟩
theorem ok_lnum1 {f : Addr} {fd : FuncData} (D : Df K mg "_law_numbered" s__law_numbered ["term", "numbers"] f fd) (m_isinstance : mg "isinstance" = none) (m_tuple : mg "tuple" = none) {n : Nat} (G : FnOk P w K mg base CX0 (n + 1) f fd ["term", "numbers"] (spLNum n)) : FnOk P w K mg base CX0 (n + 1 + 1) f fd ["term", "numbers"] (spLNum (n + 1)) := by
  refine D.F.ok sc_lnum (fun vs H Q E h => ?_) (fun cdv A outer s H vs Q E hr h => ?_)
  · obtain ⟨v, a, t, ks, rfl, _⟩ := h; rfl
  obtain ⟨v, a, t, ks, rfl, ea, ht, hi, hz, hn, q⟩ := h
  have nd := sc_lnum.nd
  refine ⟨_, (pss_cons (ps_if (pt_not (pt_val (pe_callB call_isiTer (by rfl) m_isinstance (by decide +kernel) (pa_cons (pv 0) (pa_cons (pe_bltn (v := .ty "tuple") (by rfl) m_tuple (by decide +kernel) rfl) pa_nil)))))
      (pss_one (ps_ret (pe_dget (hu_of hr) (pv 1) (pv 0) (fun _ _ => rfl))))
      pss_nil)
    (pss_one (ps_ret (pe_op op_catT (pe_tup (pa_cons (pe_ix ix_tup (pv 0) pe_int (fun _ _ => rfl)) pa_nil)) (pe_callTy call_tuple_of (by rfl) m_tuple (by decide +kernel) (pa_cons (pe_lc (own := [("part", 2)]) (g := gName 2) (tt := tYes) (te := tCall (spLNum n) [] E0 (tCons (tVar 2) (tCons (tVar 1) tNil))) rfl nd (pi_tup (pe_slice sl_1 (pv 0) (po_some pe_int) po_none)) (blkOk_by (N := ["term", "numbers", "part"]) (sc := defScope s__law_numbered) (by decide +kernel)) (fun _ _ _ _ _ => pg_name (i := 2) nd rfl (Or.inl rfl)) (fun _ _ _ _ _ => pts_nil) (fun _ _ _ _ _ => pe_call G hr (by rfl) D.m D.F.kp D.b .nil pass0 (pa_cons (pv 2) (pa_cons (pv 1) pa_nil)))) pa_nil)))))), ?_⟩
  refine ⟨v, rfl, v, t, rfl, ht, _, rfl, ?_⟩
  cases ht with
  | int i =>
    have hi : (.inl i : Key) ∈ ks := hi
    refine iteT ⟨_, rfl, _, rfl, a, _, rfl, DGet.of (k := .inl i) ea (numK_val hi), ?_⟩
    rw [Nat.zero_add]
    exact q _ H (Same.refl _) (.int _)
  | str x =>
    have hi : (.inr x : Key) ∈ ks := hi
    refine iteT ⟨_, rfl, _, rfl, a, _, rfl, DGet.of (k := .inr x) ea (numK_val hi), ?_⟩
    rw [Nat.zero_add]
    exact q _ H (Same.refl _) (.int _)
  | @ap p g xs as e hs =>
    refine iteF ?_
    have ls := hs.len
    have hn : Ter.nests as + 1 < n + 1 := hn
    have hz : Ter.sizes as + 1 ≤ 100000 := hz
    have la := Ter.sizes_len as
    refine ⟨_, rfl, p, _, 0, .str g, rfl, rfl, .inl (.inl e), head_at, by show 1 ≤ sizeLine; decide, fun p1 np1 => ?_⟩
    have s1 := same_new np1 (.tup [.str g])
    refine ⟨.ref p, rfl, 1, rfl, p, .str g, xs, rfl, rfl, rfl, .inl (.inl (s1 _ _ e)), fun p2 np2 => ?_⟩
    have s2 := same_new np2 (.tup xs)
    refine ⟨p2, rfl, ⟨xs, .inl (.inl upd_same)⟩, fun d nd' => ?_⟩
    have s12 := s1.trans s2
    have nd0 : H d = none := s12.free nd'
    refine walk_t (xs := xs) (fun i H2 => ∃ acc, Same (upd (upd H p1 (.tup [.str g])) p2 (.tup xs)) H2 ∧ H2 d = some (.lst acc) ∧ TmAll H2 acc (Ter.nums ks (as.take i)) ∧ acc.length ≤ i) ⟨[], same_new nd' _, upd_same, .nil, Nat.le_refl _⟩ (fun i H2 _ h => ?_) (fun i x H2 hx h => ?_) (fun H2 h => ?_)
    · obtain ⟨acc, sm, _⟩ := h
      exact .inl (.inl (sm _ _ upd_same))
    · obtain ⟨acc, sm, ed, ha, la2⟩ := h
      obtain ⟨t1, et, hx1⟩ := hs.get hx
      have sa := s12.trans sm
      have hx2 := TmAt.mono sa.tups _ _ hx1
      have n1 := nest_le_of et
      have m1 := size_le_of et
      refine ⟨rfl, ?_⟩
      refine ⟨_, rfl, _, rfl, x, a, t1, ks, rfl, sa _ _ ea, hx2, wfs_get hi.2 et, by omega, by omega, fun v' H3 s3 hv' => ?_⟩
      have ed3 := s3 _ _ ed
      have b4 : But d H3 (upd H3 d (.lst (acc ++ [v']))) := But.upd
      have m4 := b4.tups ed3
      have li : i < as.length := (List.getElem?_eq_some_iff.mp et).1
      have etk : as.take (i + 1) = as.take i ++ [t1] := by rw [List.take_add_one, et]; rfl
      refine ⟨acc, ed3, small6' (by omega), acc ++ [v'], But.same nd' (sm.trans s3) b4, upd_same, ?_, by rw [List.length_append, List.length_singleton]; omega⟩
      rw [etk, nums_app]
      exact (TmAll.mono (s3.tups.trans m4) _ _ ha).app (.cons (TmAt.mono m4 _ _ hv') .nil)
    · obtain ⟨acc, sm, ed, ha, la2⟩ := h
      rw [ls, List.take_length] at ha
      have lx := ha.len
      rw [nums_len] at lx
      refine ⟨d, acc, rfl, .inl ⟨.inl (.inl ed), fun p3 np3 => ?_⟩⟩
      have s3 := same_new np3 (.tup acc)
      have sa := s12.trans (sm.trans s3)
      refine ⟨p1, p3, [.str g], acc, rfl, rfl, .inl (.inl (s3 _ _ (sm _ _ (s2 _ _ upd_same)))), .inl (.inl upd_same), by simp, small6 (by show 1 + acc.length ≤ _; omega), fun z => ?_, fun _ p4 np4 => ?_⟩
      · subst z
        have t0 : as = [] := List.length_eq_zero_iff.mp lx.symm
        subst t0
        exact q (.ref p1) _ sa (.ap (s3 _ _ (sm _ _ (s2 _ _ upd_same))) .nil)
      · have s4 := same_new np4 (.tup ([.str g] ++ acc))
        exact q (.ref p4) _ (sa.trans s4) (.ap upd_same (TmAll.mono (s3.trans s4).tups _ _ ha))
theorem ok_lnum {f : Addr} {fd : FuncData} (D : Df K mg "_law_numbered" s__law_numbered ["term", "numbers"] f fd) (m_isinstance : mg "isinstance" = none) (m_tuple : mg "tuple" = none) : ∀ n : Nat, FnOk P w K mg base CX0 (n + 1) f fd ["term", "numbers"] (spLNum n)
  | 0 => by
    have no : ∀ vs H Q E, ¬ spLNum 0 vs H Q E := fun vs H Q E h => by
      obtain ⟨_, _, _, _, _, _, _, _, _, hk, _⟩ := h
      omega
    exact ⟨fun vs H Q E h => absurd h (no vs H Q E), fun A outer s H args us vs Q E _ _ _ _ h => absurd h (no vs H Q E)⟩
  | n + 1 => ok_lnum1 D m_isinstance m_tuple (ok_lnum D m_isinstance m_tuple n)
theorem fine23 {t : Ter} (h : t.wf s23 (nam20 N3)) : t.wf symFine keyFine := wf_mono (fun f n h => by
    rcases h with ⟨rfl, _⟩ | ⟨rfl, _⟩ | ⟨rfl, _⟩ | ⟨rfl, _⟩ | ⟨rfl, _⟩ | ⟨rfl, _⟩ | ⟨rfl, _⟩ <;> (show PyData.strOk _ = true; decide +kernel)) (fun k h => by
    obtain ⟨x, rfl, hx⟩ := h
    show PyData.strOk x = true
    rcases List.mem_cons.mp hx with rfl | hx
    · decide +kernel
    rcases List.mem_cons.mp hx with rfl | hx
    · decide +kernel
    rw [List.mem_singleton.mp hx]
    decide +kernel) t h
theorem lay_lit {x : Lit} (h : litM x) : PyData.canLay0 (litD x) = true ∧ PyData.depth (litD x) ≤ 4 := by
  have s := h.S
  have f2 : x.2.2.wf symFine keyFine := by
    rcases s.2.1 with e | e
    · rw [e]; exact ⟨by show PyData.strOk _ = true; decide +kernel, trivial⟩
    · exact fine23 e
  obtain ⟨a1, a2⟩ := lay_ter x.2.1 (fine23 s.1)
  obtain ⟨b1, b2⟩ := lay_ter x.2.2 f2
  have n1 := h.2.1
  have n2 := h.2.2.1
  refine ⟨?_, ?_⟩
  · show (true && (x.2.1.dat.canLay0 && (x.2.2.dat.canLay0 && true))) = true
    rw [a1, b1]; rfl
  · show max 0 (max x.2.1.dat.depth (max x.2.2.dat.depth 0)) + 1 ≤ 4
    omega
theorem lay_lits : ∀ {c : List Lit}, (∀ x ∈ c, litM x) → PyData.canLayAll0 (c.map litD) = true ∧ PyData.depthAll (c.map litD) ≤ 4
  | [], _ => ⟨rfl, Nat.zero_le _⟩
  | x :: r, h => by
    obtain ⟨h1, h2⟩ := lay_lit (h x List.mem_cons_self)
    obtain ⟨h3, h4⟩ := lay_lits fun y hy => h y (List.mem_cons_of_mem _ hy)
    refine ⟨?_, ?_⟩
    · show (PyData.canLay0 (litD x) && PyData.canLayAll0 (r.map litD)) = true
      rw [h1, h3]; rfl
    · show max (PyData.depth (litD x)) (PyData.depthAll (r.map litD)) ≤ 4
      omega
theorem shp_lit {x : Lit} (h : litM x) : SeqAt.shaped (litD x) = true := by
  obtain ⟨h1, h2⟩ := lay_lit h
  show (PyData.canLay0 (litD x) && decide (PyData.depth (litD x) ≤ 64)) = true
  rw [h1, decide_eq_true (by omega)]; rfl
theorem shp_lits {c : List Lit} (h : ∀ x ∈ c, litM x) : SeqAt.shaped (.list (c.map litD)) = true := by
  obtain ⟨h1, h2⟩ := lay_lits h
  show (PyData.canLayAll0 (c.map litD) && decide (PyData.depthAll (c.map litD) + 1 ≤ 64)) = true
  rw [h1, decide_eq_true (by omega)]; rfl
theorem eqv_litE (x y : Lit) : PyData.eqv (litD x) (litD y) = true ↔ x = y := by
  rw [eqv_lit, Bool.and_eq_true, Bool.and_eq_true, eT_iff, eT_iff, beq_iff_eq]
  exact ⟨fun ⟨a, b, c⟩ => Prod.ext a (Prod.ext b c), fun h => by rw [h]; exact ⟨rfl, rfl, rfl⟩⟩
theorem any_lit {c : List Lit} {x : Lit} (hc : ∀ y ∈ c, litM y) (hx : litM x) : ((c.map litD).any fun z => PyData.eqv z (litD x)) = decide (shL x ∈ c.map shL) := by
  rw [Bool.eq_iff_iff, decide_eq_true_iff, List.any_map, List.any_eq_true]
  constructor
  · rintro ⟨y, hy, h⟩
    have h : PyData.eqv (litD y) (litD x) = true := h
    rw [← (eqv_litE y x).mp h]
    exact List.mem_map_of_mem hy
  · intro h
    obtain ⟨y, hy, e⟩ := List.mem_map.mp h
    refine ⟨y, hy, ?_⟩
    show PyData.eqv (litD y) (litD x) = true
    rw [shL_inj (hc y hy).S hx.S e]
    exact (eqv_litE x x).mpr rfl
def spDu : Sp := fun vs H Q _ => ∃ (p : Addr) (xs : List V) (c : List Lit), vs = [.ref p] ∧ H p = some (.lst xs) ∧ LitAll H xs c ∧ c.length ≤ 64 ∧ (∀ x ∈ c, litM x) ∧ ∀ (u : Addr) (H' : Hp), Same H H' → ClsAt H' u (numC (ddL c)) → Q (.ref u) H'
theorem sc_du : FnScope ["literals", "kept", "literal", "numbers", "name", "one"] ["literals"] (defScope s__law_due) := ⟨rfl, rfl, rfl, by decide +kernel, rfl, by decide +kernel, by decide +kernel⟩
set_option maxHeartbeats 1000000 in
theorem ok_du {f fC fB : Addr} {fd dC dB : FuncData} (D : Df K mg "_law_due" s__law_due ["literals"] f fd) (DC : Df K mg "_law_clause_names" s__law_clause_names ["clause"] fC dC) (GC : FnOk P w K mg base CX0 23 fC dC ["clause"] spCN)
    (DB : Df K mg "_law_numbered" s__law_numbered ["term", "numbers"] fB dB) (GB : FnOk P w K mg base CX0 22 fB dB ["term", "numbers"] (spLNum 21)) (m_len : mg "len" = none) (m_tuple : mg "tuple" = none) : FnOk P w K mg base CX0 24 f fd ["literals"] spDu := by
  refine D.F.ok sc_du (fun vs H Q E h => ?_) (fun cdv A outer s H vs Q E hr h => ?_)
  · obtain ⟨_, _, _, rfl, _⟩ := h; rfl
  obtain ⟨p, xs, c, rfl, ep, hc, lc, mc, q⟩ := h
  have nd := sc_du.nd
  have r22 : Room 22 _ := hr.mono (by decide)
  have r23 : Room 23 _ := hr.mono (by decide)
  refine ⟨_, (pss_cons (ps_set (i := 1) nd rfl (.inl rfl) (pe_lst pa_nil))
    (pss_cons (ps_for PassesOwn.never rfl (pi_list (pv 0)) (pg_name (i := 2) nd rfl (.inl rfl))
      (pss_one (ps_if (pt_cmpR (op_notInD (room65 hr)) (pv 2) (pv 1) (by rfl))
      (pss_one (ps_expr (pe_bm PySem.F.plainAttrs_list PySem.F.slot_list_append PySem.F.type_list_append mt_append (pv 1) (pa_cons (pv 2) pa_nil))))
      pss_nil)))
    (pss_cons (ps_set (i := 3) nd rfl (.inr rfl) pe_dnewK)
    (pss_cons (ps_for PassesOwn.never rfl (pi_list (pe_call GC r23 (by rfl) DC.m DC.F.kp DC.b .nil pass0 (pa_cons (pv 1) pa_nil))) (pg_name (i := 4) nd rfl (.inl rfl))
      (pss_one (ps_dput (hu_of hr) (pv 3) (pv 4) (pe_callB call_lenD (by rfl) m_len PySem.boot_len (pa_cons (pv 3) pa_nil)) rfl)))
    (pss_one (ps_ret (pe_callTy call_tuple_of (by rfl) m_tuple (by decide +kernel) (pa_cons (pe_lc (own := [("one", 5)]) (g := gName 5) (tt := tYes) (te := tTup (tCons (tOp (rIxT K) (tVar 5) (tC (.int 0))) (tCons (tCall (spLNum 21) [] E0 (tCons (tOp (rIxT K) (tVar 5) (tC (.int 1))) (tCons (tVar 3) tNil))) (tCons (tCall (spLNum 21) [] E0 (tCons (tOp (rIxT K) (tVar 5) (tC (.int 2))) (tCons (tVar 3) tNil))) tNil)))) rfl nd (pi_list (pv 1)) (blkOk_by (N := ["literals", "kept", "literal", "numbers", "name", "one"]) (sc := defScope s__law_due) (by decide +kernel)) (fun _ _ _ _ _ => pg_name (i := 5) nd rfl (Or.inl rfl)) (fun _ _ _ _ _ => pts_nil) (fun _ _ _ _ _ => (pe_tup (pa_cons (pe_ix ix_tup (pv 5) pe_int (fun _ _ => rfl)) (pa_cons (pe_call GB r22 (by rfl) DB.m DB.F.kp DB.b .nil pass0 (pa_cons (pe_ix ix_tup (pv 5) pe_int (fun _ _ => rfl)) (pa_cons (pv 3) pa_nil))) (pa_cons (pe_call GB r22 (by rfl) DB.m DB.F.kp DB.b .nil pass0 (pa_cons (pe_ix ix_tup (pv 5) pe_int (fun _ _ => rfl)) (pa_cons (pv 3) pa_nil))) pa_nil)))))) pa_nil)))))))), ?_⟩
  have ll := hc.len
  refine ⟨Nat.zero_le _, fun kd nkd => ?_⟩
  have s0 := same_new nkd (.lst [])
  refine ⟨_, rfl, p, rfl, ⟨_, .inl (.inl (s0 _ _ ep))⟩, for_list (xs := xs) (fun i σ F => ∃ (y2 : Option V) (acc : List V), σ = [some (.ref p), some (.ref kd), y2, none, none, none] ∧ Same H F ∧ F kd = some (.lst acc) ∧ LitAll F acc (ddL (c.take i))) ⟨none, [], rfl, s0, upd_same, .nil⟩ (fun i σ F _ h => ?_) (fun i v σ F hv h => ?_) (fun σ F h => ?_)⟩
  · obtain ⟨_, _, _, sF, _⟩ := h
    exact .inl (.inl (sF _ _ ep))
  · obtain ⟨y2, acc, rfl, sF, ed, hA⟩ := h
    obtain ⟨x, ex, hx⟩ := hc.get hv
    have hxF := hx.mono sF.tups
    have mx := mc x (List.mem_of_getElem? ex)
    have mA : ∀ y ∈ ddL (c.take i), litM y := fun y hy => mc y (List.mem_of_mem_take (dd_sub hy))
    have etk : ddL (c.take (i + 1)) = addL (ddL (c.take i)) x := by
      rw [List.take_add_one, ex]
      unfold ddL
      rw [List.foldl_append]
      rfl
    have la := hA.len
    have l1 := dd_len (c.take i)
    rw [List.length_take] at l1
    refine ⟨_, rfl, _, rfl, litD x, (ddL (c.take i)).map litD, dp_lit hxF, .lst (.inl (.inl ed)) (dp_lits hA), shp_lit mx, shp_lits mA, _, rfl, ?_⟩
    rw [any_lit mA mx]
    by_cases hm : shL x ∈ (ddL (c.take i)).map shL
    · rw [decide_eq_true hm]
      refine iteF ⟨_, acc, rfl, sF, ed, ?_⟩
      rw [etk]
      unfold addL
      rw [if_pos hm]
      exact hA
    · rw [decide_eq_false hm]
      refine iteT ⟨_, rfl, tyl ed, _, rfl, kd, acc, _, rfl, rfl, ed, small6' (by omega), ?_⟩
      have bu : But kd F (upd F kd (.lst (acc ++ [v]))) := But.upd
      have mu := bu.tups ed
      refine ⟨_, acc ++ [v], rfl, But.same nkd sF bu, upd_same, ?_⟩
      rw [etk]
      unfold addL
      rw [if_neg hm]
      exact (hA.mono mu).app (.cons (hxF.mono mu) .nil)
  · obtain ⟨y2, acc, rfl, sF, ed, hA⟩ := h
    rw [ll, List.take_length] at hA
    have mD : ∀ y ∈ ddL c, litM y := fun y hy => mc y (dd_sub hy)
    have ld := dd_len c
    have la := hA.len
    refine fun nb nnb => ?_
    have s1 := same_new nnb (.dK [])
    have ed1 := s1 _ _ ed
    have hA1 := hA.mono s1.tups
    have enb : (upd F nb (.dK [])) nb = some (.dK []) := upd_same
    generalize upd F nb (.dK []) = F1 at s1 ed1 hA1 enb
    refine ⟨_, rfl, kd, acc, ddL c, rfl, .inl ed1, hA1, by omega, fun x hx => litM_N (mD x hx), fun u F2 s2 nu eu => ?_⟩
    have kn := clVars_nd (ddL c)
    have kin := clVars_in (ddL c)
    generalize hks : clVars (ddL c) = ks at *
    have enb2 := s2 _ _ enb
    have nub : u ≠ nb := fun z => by rw [z, enb] at nu; cases nu
    have lks : ks.length ≤ 100000 := by
      have z1 := intos_len (sides (ddL c)) []
      have z2 := sides_size (c := ddL c) (n := 20) fun x hx => ⟨(mD x hx).2.2.2.1, (mD x hx).2.2.2.2⟩
      have z3 : (ddL c).length * (2 * 20) ≤ 64 * (2 * 20) := Nat.mul_le_mul_right _ (by omega)
      have z4 : ks.length = (Ter.intos [] (sides (ddL c))).length := by rw [← hks]; rfl
      simp only [List.length_nil] at z1
      omega
    refine ⟨u, rfl, ⟨_, .inl (.inl eu)⟩, for_list (xs := ks.map kV) (fun i σ F3 => ∃ (y4 : Option V), σ = [some (.ref p), some (.ref kd), y2, some (.ref nb), y4, none] ∧ But nb F2 F3 ∧ F3 nb = some (.dK (numK 0 (ks.take i)))) ⟨none, rfl, But.refl _ _, enb2⟩ (fun i σ F3 _ h => ?_) (fun i v σ F3 hv h => ?_) (fun σ F3 h => ?_)⟩
    · obtain ⟨_, _, b3, _⟩ := h
      exact .inl (.inl (b3 _ _ nub eu))
    · obtain ⟨y4, rfl, b3, e3⟩ := h
      obtain ⟨k, ek, rfl⟩ : ∃ k, ks[i]? = some k ∧ v = kV k := by
        rw [List.getElem?_map] at hv
        cases g : ks[i]? with
        | none => rw [g] at hv; cases hv
        | some n => rw [g] at hv; exact ⟨n, rfl, (Option.some.inj hv).symm⟩
      have li : i < ks.length := (List.getElem?_eq_some_iff.mp ek).1
      have nk := take_key kn ek
      refine ⟨_, rfl, nb, _, rfl, e3, _, rfl, kV k, rfl, nb, _, rfl, DPut.k (k := k) e3 (small6' (by rw [numK_len, List.length_take]; omega)), ?_⟩
      refine ⟨_, rfl, b3.trans But.upd, ?_⟩
      rw [upd_same, putK_new _ (numK_none nk), List.take_add_one, ek]
      show some (HO.dK (numK 0 (ks.take i) ++ [(k, V.int ((numK 0 (ks.take i)).length : Nat))])) = some (.dK (numK 0 (ks.take i ++ [k])))
      rw [numK_snoc, numK_len, List.length_take, show 0 + min i ks.length = min i ks.length by omega]
    · obtain ⟨y4, rfl, b3, e3⟩ := h
      rw [List.length_map, List.take_length] at e3
      have m23 : Tups F2 F3 := b3.tupsK enb2
      have kdb : kd ≠ nb := fun z => by rw [z, enb] at ed1; cases ed1
      have ekd := b3 _ _ kdb (s2 _ _ ed1)
      have hA3 := hA1.mono (s2.tups.trans m23)
      have sH3 : Same H F3 := by
        have sF1 : Same F F1 := s1
        have nbF : F nb = none := nnb
        exact sF.trans (But.same nbF (sF1.trans s2) b3)
      refine ⟨_, rfl, kd, rfl, ⟨_, .inl (.inl ekd)⟩, fun e ne => ?_⟩
      have s4 := same_new ne (.lst [])
      refine walk_l (xs := acc) (fun i F4 => ∃ ac, Same F3 F4 ∧ F4 e = some (.lst ac) ∧ LitAll F4 ac (((ddL c).take i).map (litNum ks))) ⟨[], s4, upd_same, .nil⟩ (fun i F4 _ h => ?_) (fun i x F4 hx h => ?_) (fun F4 h => ?_)
      · obtain ⟨_, s5, _⟩ := h
        exact .inl (.inl (s5 _ _ ekd))
      · obtain ⟨ac, s5, ee, ha⟩ := h
        obtain ⟨lit, el, hl⟩ := (hA3.mono s5.tups).get hx
        have ml := mD lit (List.mem_of_getElem? el)
        have kl := kin lit (List.mem_of_getElem? el)
        have lac := ha.len
        rw [List.length_map, List.length_take] at lac
        have li : i < (ddL c).length := (List.getElem?_eq_some_iff.mp el).1
        cases hl with
        | @mk g b xl xr l r eg h1 h2 =>
        have n1 : l.nest ≤ 3 := ml.2.1
        have n2 : r.nest ≤ 3 := ml.2.2.1
        have n3 : l.size ≤ 20 := ml.2.2.2.1
        have n4 : r.size ≤ 20 := ml.2.2.2.2
        refine ⟨rfl, ?_⟩
        refine ⟨_, rfl, g, _, 0, .bl b, rfl, rfl, .inl (.inl eg), head_at, ?_⟩
        refine ⟨_, rfl, g, _, 1, xl, rfl, rfl, .inl (.inl eg), at_1, _, rfl, xl, nb, l, ks, rfl, s5 _ _ e3, h1, kl.1, by omega, by omega, fun v1 F5 s6 hv1 => ?_⟩
        refine ⟨_, rfl, g, _, 2, xr, rfl, rfl, .inl (.inl (s6 _ _ eg)), at_2, _, rfl, xr, nb, r, ks, rfl, s6 _ _ (s5 _ _ e3), TmAt.mono s6.tups _ _ h2, kl.2, by omega, by omega, fun v2 F6 s7 hv2 => ?_⟩
        refine ⟨by show 3 ≤ sizeLine; decide, fun t nt => ?_⟩
        have s8 := same_new nt (.tup [.bl b, v1, v2])
        have sb := s6.trans (s7.trans s8)
        have ee7 := sb _ _ ee
        have b8 : But e (upd F6 t (.tup [.bl b, v1, v2])) (upd (upd F6 t (.tup [.bl b, v1, v2])) e (.lst (ac ++ [V.ref t]))) := But.upd
        have m8 := b8.tups ee7
        refine ⟨ac, ee7, small6' (by omega), ac ++ [V.ref t], But.same ne (s5.trans sb) b8, upd_same, ?_⟩
        rw [List.take_add_one, el, List.map_append]
        exact (ha.mono (sb.tups.trans m8)).app (.cons (.mk (b := b) (l := l.num ks) (r := r.num ks) (m8 _ _ upd_same) (TmAt.mono ((s7.trans s8).tups.trans m8) _ _ hv1) (TmAt.mono (s8.tups.trans m8) _ _ hv2)) .nil)
      · obtain ⟨ac, s5, ee, ha⟩ := h
        rw [la, List.take_length] at ha
        refine ⟨e, ac, rfl, .inl ⟨.inl (.inl ee), fun t nt => ?_⟩⟩
        have s6 := same_new nt (.tup ac)
        refine q t _ (sH3.trans (s5.trans s6)) ⟨ac, upd_same, ?_⟩
        show LitAll _ ac ((ddL c).map (litNum (clVars (ddL c))))
        rw [hks]
        exact ha.mono s6.tups
end
end K23
namespace K23
open PySem PySem.Spec PyProof.Rows L2 Own HT
section
variable {P : Program} {w : World} {K : PySem.W.Frag} {mg : Str → Option Value} {base : Heap}
def spAsk : Sp := fun vs H Q _ => ∃ (v b : V) (m : Mx) (lim : Int), vs = [v, b] ∧ ((b = .non ∧ lim = 200) ∨ b = .int lim) ∧ MxAt H v m ∧ m.ok ∧ m.high < 12 ∧ m.wid ≤ 64 ∧ 1 ≤ lim ∧ lim ≤ 1000 ∧
  ((m.most : Int) ≤ lim → ∀ (d : Addr) (ws : List V) (H' : Hp), Same H H' → H' d = some (.lst ws) → ZA (ClA H') ws (m.dd.map numC) → Q (.ref d) H') ∧
  (lim < (m.most : Int) → ∀ (p : Addr) (H' : Hp), Same H H' → H' p = some (.tup [.str "too large", .str "clauses"]) → Q (.ref p) H')
theorem sc_ask : FnScope ["matrix", "bound", "e"] ["matrix", "bound"] (defScope s__law_asked) := ⟨rfl, rfl, rfl, by decide +kernel, rfl, by decide +kernel, by decide +kernel⟩
set_option maxHeartbeats 1000000 in
theorem ok_ask {f fM C fI : Addr} {fd dM dI : FuncData} (D : Df K mg "_law_asked" s__law_asked ["matrix", "bound"] f fd) (DM : DkG K mg "matrix_clauses" s_matrix_clauses ["matrix", "limit"] 1 "limit" (.int 200) fM dM) (GM : FnOk P w K mg base (L2N.CX P w) 76 fM dM ["matrix", "limit"] (spMC C))
    (T : LimC P w K mg base C fI dI) : FnOk P w K mg base CX0 77 f fd ["matrix", "bound"] spAsk := by
  refine D.F.ok sc_ask (fun vs H Q E h => ?_) (fun cdv A outer s H vs Q E hr h => ?_)
  · obtain ⟨_, _, _, _, rfl, _⟩ := h; rfl
  obtain ⟨v, b, m, lim, rfl, hb, hv, ok, hn, hw, l1, l2, q, qE⟩ := h
  have nd := sc_ask.nd
  obtain ⟨ds, rd, bd⟩ := DM.b
  refine ⟨_, (pss_one (ps_try_hds (Wout := fun _ _ _ _ => False) (tb := fun W => tSeq (tIfS (tTest (tOp _ (tVar 1) _)) (tRet (tCallSD (spMC C) [.int 200] (WE W) (tCons (tVar 0) tNil))) tNext) (tRet (tCallNS 1 (["limit"] : List Str).length (spMC C) (fun vs zs => vs ++ zs) (WE W) (tCons (tVar 0) tNil) (tCons (tVar 1) tNil)))) rfl rfl nd takesN0
      (fun W pn xe tk _ => (pss_cons (ps_if (pt_cmpR op_isN (pv 1) pe_non (nomark _)) (pss_one (ps_ret (by exact (pe_callSD GM hr (by rfl) DM.m DM.F.kp bd rd (fun σ => L2N.passAt tk σ) (pa_cons (pv 0) pa_nil))))) pss_nil)
        (pss_one (ps_ret (by exact (pe_callNS GM hr (by rfl) DM.m DM.F.kp DM.kb (fun σ => L2N.passAt tk σ) (pa_cons (pv 0) pa_nil) (pk_cons (pv 1) pk_nil)))))))
      (.as (i := 2) rfl rfl ⟨rfl, by decide, .inl T.gC⟩ (fun a oe cls d pn hz hf => pss_one (ps_ret (pe_tup (pa_cons pe_str (pa_cons (pe_xf T.err.xf T.hn hz.zc hf (pv 2)) pa_nil))))) .nil))), ?_⟩
  rcases hb with ⟨rfl, rfl⟩ | rfl
  · refine ⟨_, rfl, rfl, _, rfl, inT rfl ?_⟩
    refine ⟨_, rfl, v, m, 200, rfl, hv, ok, hn, hw, l1, l2, fun le d ws H' s nd e z => q le d ws H' s e z, fun gt d H1 s1 nd1 ed => ⟨true, T.te, fun _ x nx => ?_, fun z => by cases z⟩⟩
    refine ⟨.ref x, rfl, rfl, rfl, d, _, .str "clauses", rfl, ed, rfl, by show 2 ≤ sizeLine; decide, fun p np => ?_⟩
    exact qE gt p _ (s1.trans (same_new np _)) upd_same
  · refine ⟨_, rfl, rfl, _, rfl, inF rfl ?_⟩
    refine ⟨_, rfl, _, rfl, rfl, rfl, v, m, lim, rfl, hv, ok, hn, hw, l1, l2, fun le d ws H' s nd e z => q le d ws H' s e z, fun gt d H1 s1 nd1 ed => ⟨true, T.te, fun _ x nx => ?_, fun z => by cases z⟩⟩
    refine ⟨.ref x, rfl, rfl, rfl, d, _, .str "clauses", rfl, ed, rfl, by show 2 ≤ sizeLine; decide, fun p np => ?_⟩
    exact qE gt p _ (s1.trans (same_new np _)) upd_same
end
end K23
namespace K23
open PySem PySem.Spec PyProof.Rows L2 Own HT
section
variable {X : Cx}
def rIsiLst : List V → Hp → VK → Prop := fun xs H Q => ∃ (a : Addr) (ys : List V), xs = [.ref a, .ty "list"] ∧ H a = some (.lst ys) ∧ Q (.bl true) H
theorem call_isiLst : CallR X (.builtin "isinstance") rIsiLst := by
  intro pins s σ H xs us Q I r h
  obtain ⟨a, ys, rfl, e, q⟩ := h
  exact call_isi pins s σ H _ us Q I r ⟨.ref a, .ty "list", _, _, true, rfl, .ty _, .base (.lst e), kit_ty (by decide +kernel), q⟩
end
section
variable {P : Program} {w : World} {K : PySem.W.Frag} {mg : Str → Option Value} {base : Heap}
def spLaw (K : PySem.W.Frag) : Sp := fun vs H Q _ => ∃ (a : Addr) (ns : List Int), vs = [.ref a] ∧ SqL K H a (ns.map V.int) ∧ ns.length ≤ 63 ∧ ∀ H', Q (.bl true) H'
def clsD (c : List Lit) : PyData := .tuple (c.map litD)
theorem ClA.dp {H : Hp} {v : V} {c : List Lit} (h : ClA H v c) : Dp K H v (clsD c) := by
  obtain ⟨p, rfl, xs, e, r⟩ := h
  exact .tup (.inl (.inl e)) (dp_lits r)
theorem fineN {t : Ter} {ks : List Key} (hk : ks.length ≤ 900) (h : t.wf symFine keyFine) (hi : t.inK ks) : (t.num ks).wf symFine keyFine := wf_mono (fun _ _ h => h) (fun k h => by obtain ⟨i, rfl, _⟩ := h; trivial) _ (num_wf hk t h hi)
theorem fine_2 {x : Lit} (h : litM x) : x.2.2.wf symFine keyFine := by
  rcases h.S.2.1 with e | e
  · rw [e]; exact ⟨by show PyData.strOk _ = true; decide +kernel, trivial⟩
  · exact fine23 e
theorem lay_num {x : Lit} (h : litM x) {ks : List Key} (hk : ks.length ≤ 900) (hi : litIn ks x) : PyData.canLay0 (litD (litNum ks x)) = true ∧ PyData.depth (litD (litNum ks x)) ≤ 4 := by
  obtain ⟨a1, a2⟩ := lay_ter _ (fineN hk (fine23 h.S.1) hi.1)
  obtain ⟨b1, b2⟩ := lay_ter _ (fineN hk (fine_2 h) hi.2)
  have n1 := h.2.1
  have n2 := h.2.2.1
  have m1 := (num_size ks x.2.1).2
  have m2 := (num_size ks x.2.2).2
  refine ⟨?_, ?_⟩
  · show (true && ((x.2.1.num ks).dat.canLay0 && ((x.2.2.num ks).dat.canLay0 && true))) = true
    rw [a1, b1]; rfl
  · show max 0 (max (x.2.1.num ks).dat.depth (max (x.2.2.num ks).dat.depth 0)) + 1 ≤ 4
    omega
theorem lay_cls {c : List Lit} (h : ∀ x ∈ c, PyData.canLay0 (litD x) = true ∧ PyData.depth (litD x) ≤ 4) : PyData.canLay0 (clsD c) = true ∧ PyData.depth (clsD c) ≤ 5 := by
  have : ∀ c : List Lit, (∀ x ∈ c, PyData.canLay0 (litD x) = true ∧ PyData.depth (litD x) ≤ 4) → PyData.canLayAll0 (c.map litD) = true ∧ PyData.depthAll (c.map litD) ≤ 4 := fun c => by
    induction c with
    | nil => exact fun _ => ⟨rfl, Nat.zero_le _⟩
    | cons x r ih =>
      intro h
      obtain ⟨h1, h2⟩ := h x List.mem_cons_self
      obtain ⟨h3, h4⟩ := ih fun y hy => h y (List.mem_cons_of_mem _ hy)
      refine ⟨?_, ?_⟩
      · show (PyData.canLay0 (litD x) && PyData.canLayAll0 (r.map litD)) = true
        rw [h1, h3]; rfl
      · show max (PyData.depth (litD x)) (PyData.depthAll (r.map litD)) ≤ 4
        omega
  obtain ⟨h1, h2⟩ := this c h
  refine ⟨h1, ?_⟩
  show PyData.depthAll (c.map litD) + 1 ≤ 5
  omega
theorem shp_clss {L : List (List Lit)} (h : ∀ c ∈ L, PyData.canLay0 (clsD c) = true ∧ PyData.depth (clsD c) ≤ 5) : SeqAt.shaped (.list (L.map clsD)) = true := by
  have : ∀ L : List (List Lit), (∀ c ∈ L, PyData.canLay0 (clsD c) = true ∧ PyData.depth (clsD c) ≤ 5) → PyData.canLayAll0 (L.map clsD) = true ∧ PyData.depthAll (L.map clsD) ≤ 5 := fun L => by
    induction L with
    | nil => exact fun _ => ⟨rfl, Nat.zero_le _⟩
    | cons x r ih =>
      intro h
      obtain ⟨h1, h2⟩ := h x List.mem_cons_self
      obtain ⟨h3, h4⟩ := ih fun y hy => h y (List.mem_cons_of_mem _ hy)
      refine ⟨?_, ?_⟩
      · show (PyData.canLay0 (clsD x) && PyData.canLayAll0 (r.map clsD)) = true
        rw [h1, h3]; rfl
      · show max (PyData.depth (clsD x)) (PyData.depthAll (r.map clsD)) ≤ 5
        omega
  obtain ⟨h1, h2⟩ := this L h
  show (PyData.canLayAll0 (L.map clsD) && decide (PyData.depthAll (L.map clsD) + 1 ≤ 64)) = true
  rw [h1, decide_eq_true (by omega)]; rfl
theorem anyN {t : Ter} {ks : List Key} (hk : ks.length ≤ 900) (h : t.wf sym20 (nam20 N3)) (hi : t.inK ks) : (t.num ks).wf sym20 anyNum := wf_mono (fun _ _ h => h) (fun k h => by obtain ⟨i, e, _⟩ := h; exact ⟨i, e⟩) _ (num_wf hk t h hi)
theorem anyNs {ts : List Ter} {ks : List Key} (hk : ks.length ≤ 900) (h : Ter.wfs sym20 (nam20 N3) ts) (hi : Ter.insK ks ts) : Ter.wfs sym20 anyNum (Ter.nums ks ts) := by
  have := nums_wf hk ts h hi
  have mono : ∀ us : List Ter, Ter.wfs sym20 numVar us → Ter.wfs sym20 anyNum us := fun us => by
    induction us with
    | nil => exact fun _ => trivial
    | cons a r ih => exact fun h => ⟨wf_mono (fun _ _ h => h) (fun k h => by obtain ⟨i, e, _⟩ := h; exact ⟨i, e⟩) _ h.1, ih h.2⟩
  exact mono _ this
theorem num_A {x : Lit} (h : litM x) {ks : List Key} (hk : ks.length ≤ 900) (hi : litIn ks x) : litA (litNum ks x) ∧ litN (litNum ks x) := by
  have m1 := num_size ks x.2.1
  have m2 := num_size ks x.2.2
  obtain ⟨ha, n1, n2, z1, z2⟩ := h
  refine ⟨⟨?_, by show (x.2.1.num ks).nest ≤ 3; omega, by show (x.2.2.num ks).nest ≤ 3; omega⟩, ⟨trivial, by show (x.2.1.num ks).size ≤ 200; omega, by show (x.2.1.num ks).nest ≤ 20; omega⟩, trivial, by show (x.2.2.num ks).size ≤ 200; omega, by show (x.2.2.num ks).nest ≤ 20; omega⟩
  rcases ha with ⟨h1, h2⟩ | ⟨f, as, e1, hp, hw, e2⟩
  · exact .inl ⟨anyN hk h1 hi.1, anyN hk h2 hi.2⟩
  · refine .inr ⟨f, Ter.nums ks as, ?_, ?_, ?_, ?_⟩
    · show x.2.1.num ks = _
      rw [e1]; rfl
    · rw [nums_len]; exact hp
    · have hi1 := hi.1
      rw [e1] at hi1
      exact anyNs hk hw hi1.2
    · show x.2.2.num ks = _
      rw [e2]; rfl
theorem sc_law : FnScope ["script", "row", "wide", "bound", "matrix", "tables", "most", "actual", "always", "known", "literals", "clause"] ["script"] (defScope s_law) := ⟨rfl, rfl, rfl, by decide +kernel, rfl, by decide +kernel, by decide +kernel⟩
set_option maxHeartbeats 4000000 in
theorem ok_law {f fN fT fM fW fB fA fC fS fV fR fU fH : Addr} {fd dN dT dM dW dB dA dC dS dV dR dU dH : FuncData} (D : Df K mg "law" s_law ["script"] f fd)
    (DN : Df K mg "_law_numbers" s__law_numbers ["script", "count"] fN dN) (GN : FnOk P w K mg base CX0 2 fN dN ["script", "count"] (spNums K))
    (DT : Df K mg "_law_take" s__law_take ["row", "bound"] fT dT) (GT : FnOk P w K mg base CX0 1 fT dT ["row", "bound"] spTake)
    (DM : Df K mg "_law_matrix" s__law_matrix ["row", "depth"] fM dM) (GM : FnOk P w K mg base CX0 12 fM dM ["row", "depth"] (spMx 8))
    (DW : Df K mg "_law_wide" s__law_wide ["row"] fW dW) (GW : FnOk P w K mg base CX0 5 fW dW ["row"] spWd)
    (DB : Df K mg "_law_tables" s__law_tables ["row"] fB dB) (GB : FnOk P w K mg base CX0 2 fB dB ["row"] spTab)
    (DA : Df K mg "_law_asked" s__law_asked ["matrix", "bound"] fA dA) (GA : FnOk P w K mg base CX0 77 fA dA ["matrix", "bound"] spAsk)
    (DC : Df K mg "_law_counts" s__law_counts ["matrix"] fC dC) (GC : FnOk P w K mg base CX0 13 fC dC ["matrix"] (spCt 12))
    (DS : Df K mg "_law_assignments" s__law_assignments ["names", "size"] fS dS) (GS : FnOk P w K mg base CX0 2 fS dS ["names", "size"] spAs)
    (DV : Df K mg "_law_truth" s__law_truth ["formula", "tables", "known"] fV dV) (GV : FnOk P w K mg base CX0 26 fV dV ["formula", "tables", "known"] (spTr 20))
    (DR : Df K mg "_law_raw" s__law_raw ["matrix"] fR dR) (GR : FnOk P w K mg base CX0 13 fR dR ["matrix"] (spRw 12))
    (DU : Df K mg "_law_due" s__law_due ["literals"] fU dU) (GU : FnOk P w K mg base CX0 24 fU dU ["literals"] spDu)
    (DH : Df K mg "_law_clause_holds" s__law_clause_holds ["clause", "tables"] fH dH) (GH : FnOk P w K mg base CX0 24 fH dH ["clause", "tables"] spCH)
    (m_isinstance : mg "isinstance" = none) (m_list : mg "list" = none) (m_len : mg "len" = none) (m_all : mg "all" = none) : FnOk P w K mg base CX0 78 f fd ["script"] (spLaw K) := by
  refine D.F.ok sc_law (fun vs H Q E h => ?_) (fun cdv A outer s H vs Q E hr h => ?_)
  · obtain ⟨a, ns, rfl, _⟩ := h; rfl
  obtain ⟨a0, ns, rfl, hS, hlen, q⟩ := h
  have nd := sc_law.nd
  have r1 : Room 1 _ := hr.mono (by decide)
  have r2 : Room 2 _ := hr.mono (by decide)
  have r5 : Room 5 _ := hr.mono (by decide)
  have r12 : Room 12 _ := hr.mono (by decide)
  have r13 : Room 13 _ := hr.mono (by decide)
  have r24 : Room 24 _ := hr.mono (by decide)
  have r26 : Room 26 _ := hr.mono (by decide)
  refine ⟨_, (pss_cons (ps_set (i := 1) nd rfl (.inl rfl) (pe_call GN r2 (by rfl) DN.m DN.F.kp DN.b .nil pass0 (pa_cons (pv 0) (pa_cons pe_int pa_nil))))
    (pss_cons (ps_set (i := 2) nd rfl (.inl rfl) (pe_cmpR op_eq (pe_call GT r1 (by rfl) DT.m DT.F.kp DT.b .nil pass0 (pa_cons (pv 1) (pa_cons pe_int pa_nil))) pe_int (nomark _)))
    (pss_cons (ps_set (i := 3) nd rfl (.inl rfl) (pe_ix ix_list (pe_lst (pa_cons pe_non (pa_cons (pe_op op_add pe_int (pe_call GT r1 (by rfl) DT.m DT.F.kp DT.b .nil pass0 (pa_cons (pv 1) (pa_cons pe_int pa_nil)))) pa_nil))) (pe_call GT r1 (by rfl) DT.m DT.F.kp DT.b .nil pass0 (pa_cons (pv 1) (pa_cons pe_int pa_nil))) (fun _ _ => rfl)))
    (pss_cons (ps_set (i := 4) nd rfl (.inl rfl) (pe_call GM r12 (by rfl) DM.m DM.F.kp DM.b .nil pass0 (pa_cons (pv 1) (pa_cons pe_int pa_nil))))
    (C8.pss_cut (ps_if (pt_val (pv 2))
      (pss_one (ps_set (i := 4) nd rfl (.inl rfl) (pe_call GW r5 (by rfl) DW.m DW.F.kp DW.b .nil pass0 (pa_cons (pv 1) pa_nil))))
      pss_nil)
    (pss_cons (ps_set (i := 5) nd rfl (.inr rfl) (pe_call GB r2 (by rfl) DB.m DB.F.kp DB.b .nil pass0 (pa_cons (pv 1) pa_nil)))
    (pss_cons (ps_set (i := 6) nd rfl (.inl rfl) pe_int)
    (C8.pss_cut (ps_if (pt_cmpR op_notN (pv 3) pe_non (nomark _))
      (pss_one (ps_set (i := 6) nd rfl (.inl rfl) (pv 3)))
      pss_nil)
    (pss_cons (ps_set (i := 7) nd rfl (.inl rfl) (pe_call GA hr (by rfl) DA.m DA.F.kp DA.b .nil pass0 (pa_cons (pv 4) (pa_cons (pv 3) pa_nil))))
    (pss_cons (ps_if (pt_cmpR op_gt (pe_ix ix_tup (pe_call GC r13 (by rfl) DC.m DC.F.kp DC.b .nil pass0 (pa_cons (pv 4) pa_nil)) pe_int (fun _ _ => rfl)) (pv 6) (nomark _))
      (pss_one (ps_ret (pe_cmpR (op_eqD hr.units) (pv 7) (pe_tup (pa_cons pe_str (pa_cons pe_str pa_nil))) (nomark _))))
      pss_nil)
    (pss_cons (ps_if (PW.pt (pw_or (pt_not (pt_val (pe_callB call_isiLst (by rfl) m_isinstance (by decide +kernel) (pa_cons (pv 7) (pa_cons (pe_bltn (v := .ty "list") (by rfl) m_list (by decide +kernel) rfl) pa_nil))))) (pw_or1 (pt_cmpR (op_neD hr.units) (pv 7) (pe_lc (own := [("literals", 10)]) (g := gName 10) (tt := tYes) (te := tCall spDu [] E0 (tCons (tVar 10) tNil)) rfl nd (pi_list (pe_call GR r13 (by rfl) DR.m DR.F.kp DR.b .nil pass0 (pa_cons (pv 4) pa_nil))) (blkOk_by (N := ["script", "row", "wide", "bound", "matrix", "tables", "most", "actual", "always", "known", "literals", "clause"]) (sc := defScope s_law) (by decide +kernel)) (fun _ _ _ _ _ => (pg_name (i := 10) nd rfl (.inl rfl))) (fun _ _ _ _ _ => pts_nil) (fun _ _ _ _ _ => pe_call GU r24 (by rfl) DU.m DU.F.kp DU.b .nil pass0 (pa_cons (pv 10) pa_nil))) (nomark _)))))
      (pss_one (ps_ret pe_bl))
      pss_nil)
    (pss_cons (ps_if (pt_cmpR op_gt (pe_callB call_len_seq (by rfl) m_len PySem.boot_len (pa_cons (pv 7) pa_nil)) pe_int (nomark _))
      (pss_one (ps_ret pe_bl))
      pss_nil)
    (pss_cons (ps_set (i := 8) nd rfl (.inl rfl) pe_bl)
    (pss_cons (ps_for PassesOwn.never rfl (pi_list (pe_call GS r2 (by rfl) DS.m DS.F.kp DS.b .nil pass0 (pa_cons (pe_lst (pa_cons pe_str (pa_cons pe_str (pa_cons pe_str pa_nil)))) (pa_cons (pe_ix ix_tup (pv 5) pe_int (fun _ _ => rfl)) pa_nil)))) (pg_name (i := 9) nd rfl (.inl rfl))
      (pss_one (ps_if (pt_not (pt_val (pe_call GV r26 (by rfl) DV.m DV.F.kp DV.b .nil pass0 (pa_cons (pv 4) (pa_cons (pv 5) (pa_cons (pv 9) pa_nil))))))
      (pss_one (ps_set (i := 8) nd rfl (.inl rfl) pe_bl))
      pss_nil)))
    (pss_one (ps_ret (pe_cmpR op_eq (pv 8) (pe_callB (cr_all rfl) (by rfl) m_all (by decide +kernel) (pa_cons (pe_lc (own := [("clause", 11)]) (g := gName 11) (tt := tYes) (te := tCall spCH [] E0 (tCons (tVar 11) (tCons (tVar 5) tNil))) rfl nd (pi_list (pv 7)) (blkOk_by (N := ["script", "row", "wide", "bound", "matrix", "tables", "most", "actual", "always", "known", "literals", "clause"]) (sc := defScope s_law) (by decide +kernel)) (fun _ _ _ _ _ => (pg_name (i := 11) nd rfl (.inl rfl))) (fun _ _ _ _ _ => pts_nil) (fun _ _ _ _ _ => pe_call GH r24 (by rfl) DH.m DH.F.kp DH.b .nil pass0 (pa_cons (pv 11) (pa_cons (pv 5) pa_nil)))) pa_nil)) (nomark _)))))))))))))))))), ?_⟩
  refine ⟨_, rfl, a0, ns, 80, rfl, hS, hlen, by decide, fun d H1 s1 nd1 hI1 => ?_⟩
  refine ⟨_, rfl, d, 5, rfl, hI1, by decide, fun r H2 _ _ b2 hI2 => ⟨rfl, ?_⟩⟩
  generalize decide (V.int r = V.int 1) = wd
  refine ⟨_, rfl, d, 40, rfl, hI2, by decide, fun x H3 x0 x1 b3 hI3 => ⟨1, x, rfl, rfl, by show 2 ≤ sizeLine; decide, fun lb nlb => ?_⟩⟩
  have s4 := same_new nlb (.lst [.non, .int (1 + x)])
  have hI4 := hI3.same s4
  have nlbd := hI3.ne nlb
  have elb : (upd H3 lb (.lst [.non, .int (1 + x)])) lb = some (.lst [.non, .int (1 + x)]) := upd_same
  refine ⟨_, rfl, d, 2, rfl, hI4, by decide, fun y H5 y0 y1 b5 hI5 => ?_⟩
  obtain ⟨vb, lim, hvb, hb, l1, l2⟩ : ∃ (vb : V) (lim : Int), atI [V.non, .int (1 + x)] y = some vb ∧ ((vb = .non ∧ lim = 200) ∨ vb = .int lim) ∧ 1 ≤ lim ∧ lim ≤ 1000 := by
    rcases (show y = 0 ∨ y = 1 by omega) with e | e <;> rw [e]
    · exact ⟨.non, 200, rfl, .inl ⟨rfl, rfl⟩, by decide, by decide⟩
    · exact ⟨.int (1 + x), 1 + x, rfl, .inr rfl, by omega, by omega⟩
  refine ⟨lb, _, _, _, rfl, rfl, .inl (.inl (b5 _ _ nlbd elb)), hvb, ?_⟩
  refine ⟨_, rfl, d, 5, rfl, hI5, by decide, fun vm0 m0 H6 b6 hI6 hv0 ok0 hh0 hw0 hl0 => ?_⟩
  have e32 : (2 : Nat) ^ 5 = 32 := rfl
  refine ⟨fun σ F => ∃ (vm : V) (m : Mx), σ = [some (.ref a0), some (.ref d), some (.bl wd), some vb, some vm, none, none, none, none, none, none, none] ∧ Ints F d ∧ MxAt F vm m ∧ m.ok ∧ m.high < 12 ∧ m.wid ≤ 64 ∧ m.lf ≤ 60, ?_, fun σ F h => ?_⟩
  · refine ⟨_, rfl, _, rfl, ?_⟩
    cases wd with
    | false => exact iteF ⟨vm0, m0, rfl, hI6, hv0, ok0, by omega, by omega, by omega⟩
    | true => exact iteT ⟨_, rfl, d, rfl, hI6, fun vm m F b hI' hv ok hh hw hl => ⟨vm, m, rfl, hI', hv, ok, by omega, by omega, by omega⟩⟩
  obtain ⟨vm, m, rfl, hIF, hv, ok, hh, hw, hlf⟩ := h
  refine ⟨_, rfl, d, rfl, hIF, fun T M F1 b1 hI1' hT sz1 sz3 => ?_⟩
  have hv1 := hv.tups (b1.tupsI hIF)
  refine ⟨fun σ F => σ = [some (.ref a0), some (.ref d), some (.bl wd), some vb, some vm, some (.ref T), some (.int lim), none, none, none, none, none] ∧ Same F1 F, ?_, fun σ F h => ?_⟩
  · rcases hb with ⟨rfl, rfl⟩ | rfl
    · exact ⟨_, rfl, rfl, _, rfl, inF rfl ⟨rfl, Same.refl _⟩⟩
    · exact ⟨_, rfl, rfl, _, rfl, inT rfl ⟨_, rfl, rfl, Same.refl _⟩⟩
  obtain ⟨rfl, sF⟩ := h
  have hvF := hv1.same sF
  have hTF := hT.same sF
  have cm := cnt_most m
  refine ⟨_, rfl, _, rfl, vm, vb, m, lim, rfl, hb, hvF, ok, hh, hw, l1, l2, fun le da wa F2 s2 ea za => ?_, fun gt pa F2 s2 ea => ?_⟩
  rotate_left
  · -- too many
    refine ⟨_, rfl, vm, m, rfl, hvF.same s2, hh, hlf, fun pc F3 s3 ec => ?_⟩
    refine ⟨pc, _, 1, _, rfl, rfl, .inl (.inl ec), at_1, _, rfl, _, _, rfl, rfl, _, rfl, inT (decide_eq_true gt) ?_⟩
    refine ⟨_, rfl, by show 2 ≤ sizeLine; decide, fun t nt => ?_⟩
    have s4' := same_new nt (.tup [.str "too large", .str "clauses"])
    refine ⟨.tuple [.str "too large", .str "clauses"], .tuple [.str "too large", .str "clauses"], .tup (.inl (.inl (s4' _ _ (s3 _ _ ea)))) (.cons (.str _) (.cons (.str _) .nil)), .tup (.inl (.inl upd_same)) (.cons (.str _) (.cons (.str _) .nil)), by decide +kernel, by decide +kernel, ?_⟩
    rw [show PyData.eqv (.tuple [.str "too large", .str "clauses"]) (.tuple [.str "too large", .str "clauses"]) = true by decide +kernel]
    exact q _
  -- the clauses
  refine ⟨_, rfl, vm, m, rfl, hvF.same s2, hh, hlf, fun pc F3 s3 ec => ?_⟩
  refine ⟨pc, _, 1, _, rfl, rfl, .inl (.inl ec), at_1, _, rfl, _, _, rfl, rfl, _, rfl, inF (decide_eq_false (by omega)) ?_⟩
  have s23 := s2.trans s3
  have ea3 := s3 _ _ ea
  have za3 := za.mono fun v c h => h.same s3
  have ldd : wa.length = m.cnt := by
    have := za.len
    rw [List.length_map, dd_len2] at this
    exact this
  refine ⟨_, rfl, da, wa, rfl, ea3, _, rfl, iteF ?_⟩
  refine ⟨_, rfl, _, rfl, vm, m, rfl, hvF.same s23, hh, by omega, hw, fun dr wr F4 s4' nr er zr => ⟨dr, rfl, ⟨_, .inl (.inl er)⟩, fun dl ndl => ?_⟩⟩
  have lr := zr.len
  rw [raw_len] at lr
  have e_dd : m.dd.map numC = m.raw.map fun c => numC (ddL c) := by unfold Mx.dd; rw [List.map_map]; rfl
  refine walk_l (xs := wr) (fun i F5 => ∃ acc, Same F4 F5 ∧ F5 dl = some (.lst acc) ∧ ZA (ClA F5) acc ((m.raw.take i).map fun c => numC (ddL c))) ⟨[], same_new ndl _, upd_same, .nil⟩ (fun i F5 _ h => ?_) (fun i x F5 hx h => ?_) (fun F5 h => ?_)
  · obtain ⟨acc, s5, _⟩ := h
    exact .inl (.inl (s5 _ _ er))
  · obtain ⟨acc, s5, ed, hA⟩ := h
    have li : i < wr.length := (List.getElem?_eq_some_iff.mp hx).1
    obtain ⟨c, hc, a, xs, rfl, eax, hxs⟩ := zr.get hx
    have mc := List.mem_of_getElem? hc
    have la := hA.len
    rw [List.length_map, List.length_take, raw_len] at la
    refine ⟨rfl, _, rfl, a, xs, c, rfl, s5 _ _ eax, hxs.mono s5.tups, Nat.le_trans (raw_wid m c mc) hw, raw_ok m ok c mc, fun u F6 s6 hu => ?_⟩
    have ed6 := s6 _ _ ed
    refine ⟨acc, ed6, small6' (by omega), ?_⟩
    have bu : But dl F6 (upd F6 dl (.lst (acc ++ [.ref u]))) := But.upd
    have mu := bu.tups ed6
    refine ⟨acc ++ [.ref u], But.same ndl (s5.trans s6) bu, upd_same, ?_⟩
    rw [List.take_add_one, hc, List.map_append]
    obtain ⟨ys, eu, hys⟩ := hu
    exact (hA.mono fun v c h => h.tups (s6.tups.trans mu)).app (.cons ⟨u, rfl, ys, mu _ _ eu, hys.mono mu⟩ .nil)
  obtain ⟨acc, s5, ed, hA⟩ := h
  rw [lr, ← raw_len, List.take_length] at hA
  have s35 := s4'.trans s5
  have ea5 := s35 _ _ ea3
  have za5 := za3.mono fun v c h => h.same s35
  rw [e_dd] at za5
  have facts : ∀ c ∈ m.raw, (∀ x ∈ ddL c, litM x) ∧ (clVars (ddL c)).length ≤ 3 ∧ (ddL c).length ≤ 64 := fun c hc => by
    have hm : ∀ x ∈ ddL c, litM x := fun x hx => raw_ok m ok c hc x (dd_sub hx)
    refine ⟨hm, ?_, Nat.le_trans (dd_len c) (Nat.le_trans (raw_wid m c hc) hw)⟩
    have := clv_len hm
    rw [clVars_num, List.length_map] at this
    exact this
  have shp : SeqAt.shaped (.list ((m.raw.map fun c => numC (ddL c)).map clsD)) = true := shp_clss fun c hc => by
    obtain ⟨c0, h0, rfl⟩ := List.mem_map.mp hc
    obtain ⟨f1, f2, _⟩ := facts c0 h0
    refine lay_cls fun x hx => ?_
    obtain ⟨y, hy, rfl⟩ := List.mem_map.mp hx
    exact lay_num (f1 y hy) (by omega) (clVars_in _ y hy)
  refine ⟨.list ((m.raw.map fun c => numC (ddL c)).map clsD), .list ((m.raw.map fun c => numC (ddL c)).map clsD), .lst (.inl (.inl ea5)) (za5.dp fun v c h => h.dp), .lst (.inl (.inl ed)) (hA.dp fun v c h => h.dp), shp, shp, _, rfl, ?_⟩
  rw [SeqAt.eqv_refl _ (SeqAt.canLay_of_shaped shp)]
  refine iteF ?_
  refine ⟨_, rfl, da, wa, rfl, .inl (.inl (.inl ea5)), _, _, rfl, rfl, _, rfl, ite2 (fun _ => q _) (fun _ => ?_)⟩
  -- the law's own truth
  obtain ⟨Fa, Ga, eT, hFa, hGa⟩ := hTF.same (s23.trans s35)
  have hT5 := hTF.same (s23.trans s35)
  have hv5 := hvF.same (s23.trans s35)
  obtain ⟨fmk, fmq, fmh⟩ := mx_fm m ok
  refine ⟨by show 3 ≤ sizeLine; decide, fun ln nln => ?_⟩
  have s6 := same_new nln (.lst [.str "X", .str "Y", .str "Z"])
  have eln : (upd F5 ln (.lst [.str "X", .str "Y", .str "Z"])) ln = some (.lst (K3.map kV)) := upd_same
  generalize upd F5 ln (.lst [.str "X", .str "Y", .str "Z"]) = F6 at s6 eln ⊢
  refine ⟨_, rfl, T, _, 0, _, rfl, rfl, .inl (.inl (s6 _ _ eT)), head_at, ln, K3, M.sz, rfl, eln, by decide +kernel, by decide, sz3, fun dw ww F7 s7 edw zw => ?_⟩
  have s67 := s6.trans s7
  have lw := zw.len
  refine ⟨dw, rfl, ⟨_, .inl (.inl edw)⟩, for_list (xs := ww) (fun i σ F8 => ∃ (y9 : Option V), σ = [some (.ref a0), some (.ref d), some (.bl wd), some vb, some vm, some (.ref T), some (.int lim), some (.ref da), some (.bl (((asg M.sz 3).take i).all fun r => m.fm.truth M (rhoR r))), y9, none, none] ∧ Same F7 F8) ⟨none, rfl, Same.refl _⟩ (fun i σ F8 _ h => ?_) (fun i v σ F8 hv8 h => ?_) (fun σ F8 h => ?_)⟩
  · obtain ⟨_, _, s8⟩ := h
    exact .inl (.inl (s8 _ _ edw))
  · obtain ⟨y9, rfl, s8⟩ := h
    obtain ⟨r, hr', a, rfl, eax⟩ := zw.get hv8
    have mr := List.mem_of_getElem? hr'
    have lr3 := (asg_mem.mp mr).1
    have s68 := s67.trans s8
    have etk : ((asg M.sz 3).take (i + 1)).all (fun r => m.fm.truth M (rhoR r)) = (((asg M.sz 3).take i).all (fun r => m.fm.truth M (rhoR r)) && m.fm.truth M (rhoR r)) := by
      rw [List.take_add_one, show (asg M.sz 3)[i]? = some r from hr', List.all_append]
      show (_ && (m.fm.truth M (rhoR r) && true)) = _
      rw [Bool.and_true]
    refine ⟨_, rfl, _, rfl, _, rfl, N3, vm, T, a, m.fm, M, rhoR r, rfl, hv5.same s68, hT5.same s68, sz3, ⟨zipK K3 r, s8 _ _ eax, zipK_len K3 r, fun x hx => zipK_val lr3 (K3_mem hx)⟩, by decide +kernel, by show 3 + _ ≤ 100; omega, fmk, fmq, by omega, fun F9 s9 => ⟨_, rfl, ?_⟩⟩
    cases hb : m.fm.truth M (rhoR r) with
    | true =>
      rw [hb, Bool.and_true] at etk
      exact iteF ⟨some (.ref a), by rw [etk]; rfl, s8.trans s9⟩
    | false =>
      rw [hb, Bool.and_false] at etk
      exact iteT ⟨some (.ref a), by rw [etk]; rfl, s8.trans s9⟩
  · obtain ⟨y9, rfl, s8⟩ := h
    rw [lw]
    show _
    have s68 := s67.trans s8
    have ea8 := s68 _ _ ea5
    have za8 := za5.mono fun v c h => h.same s68
    have hT8 := hT5.same s68
    refine ⟨_, rfl, _, rfl, da, rfl, ⟨_, .inl (.inl ea8)⟩, fun dh ndh => ?_⟩
    refine walk_l (xs := wa) (fun i G => ∃ bs : List Bool, Same F8 G ∧ G dh = some (.lst (bs.map V.bl)) ∧ bs.length = i ∧ (bs.all id = true ↔ ∀ c ∈ m.raw.take i, ∀ r ∈ asg M.sz (clVars (numC (ddL c))).length, (numC (ddL c)).any (litTrK M (sgm (clVars (numC (ddL c))) r)) = true)) ⟨[], same_new ndh _, upd_same, rfl, ⟨fun _ c h => (by cases h), fun _ => rfl⟩⟩ (fun i G _ h => ?_) (fun i x G hx h => ?_) (fun G h => ?_)
    · obtain ⟨bs, sG, _⟩ := h
      exact .inl (.inl (sG _ _ ea8))
    · obtain ⟨bs, sG, eG, lb', hiff⟩ := h
      have li : i < wa.length := (List.getElem?_eq_some_iff.mp hx).1
      obtain ⟨c1, hc1, pc1, rfl, hcl⟩ := za8.get hx
      obtain ⟨c, hc, rfl⟩ : ∃ c, m.raw[i]? = some c ∧ c1 = numC (ddL c) := by
        rw [List.getElem?_map] at hc1
        cases g : m.raw[i]? with
        | none => rw [g] at hc1; cases hc1
        | some c => rw [g] at hc1; exact ⟨c, rfl, (Option.some.inj hc1).symm⟩
      have mc := List.mem_of_getElem? hc
      obtain ⟨f1, f2, f3⟩ := facts c mc
      have nums : ∀ x ∈ numC (ddL c), litA x ∧ litN x := fun x hx => by
        obtain ⟨y, hy, rfl⟩ := List.mem_map.mp hx
        exact num_A (f1 y hy) (by omega) (clVars_in _ y hy)
      refine ⟨rfl, ?_⟩
      refine ⟨_, rfl, _, rfl, pc1, T, numC (ddL c), M, rfl, hcl.same sG, hT8.same sG, sz3, by show ((ddL c).map _).length ≤ 100; rw [List.length_map]; omega, fun x hx => (nums x hx).2, fun x hx => (nums x hx).1, clv_len f1, fun G2 b s2' hb2 => ?_⟩
      have eG2 := s2' _ _ eG
      refine ⟨_, eG2, small6' (by rw [List.length_map]; omega), bs ++ [b], But.same ndh (sG.trans s2') But.upd, ?_, by rw [List.length_append, lb']; rfl, ?_⟩
      · rw [upd_same, List.map_append]; rfl
      · rw [List.all_append, Bool.and_eq_true, hiff, List.take_add_one, hc]
        constructor
        · rintro ⟨h1, h2⟩ c' hc' r hr2
          rcases List.mem_append.mp hc' with hc' | hc'
          · exact h1 c' hc' r hr2
          · rw [List.mem_singleton.mp (show c' ∈ [c] from hc')] at hr2 ⊢
            have h3 : b = true := by
              have h2 : (b && true) = true := h2
              rw [Bool.and_true] at h2
              exact h2
            exact hb2.mp h3 r hr2
        · intro h
          refine ⟨fun c' hc' => h c' (List.mem_append_left _ hc'), ?_⟩
          show (b && true) = true
          rw [Bool.and_true]
          exact hb2.mpr (h c (List.mem_append_right _ (show c ∈ [c] from List.mem_cons_self)))
    · obtain ⟨bs, sG, eG, lb', hiff⟩ := h
      rw [ldd, ← raw_len, List.take_length] at hiff
      refine ⟨dh, bs, rfl, .inl (.inl eG), rfl, ?_⟩
      rw [eqB]
      have same : (((asg M.sz 3).take (asg M.sz K3.length).length).all (fun r => m.fm.truth M (rhoR r)) == bs.all id) = true := by
        rw [beq_iff_eq, Bool.eq_iff_iff, hiff, ← mx_rows sz1 ok, show (asg M.sz 3).take (asg M.sz K3.length).length = asg M.sz 3 from List.take_length, List.all_eq_true]
      rw [same]
      exact q _
end
end K23
set_option maxHeartbeats 8000000
namespace K23
open PySem PySem.Spec PyProof.Rows L2 Own HT
theorem all_mk {l : PySem.W.OpenLaw} {w : World} {K : PySem.W.Frag} {h : Heap} {mg : Str → Option Value} {fa f_decimal f_is_variable f_variables_of f_replace_variables f_numbered f_clause_variables f_show_term f_show_literal f_matrix_clauses f_clause_count f_literal_dicts f__law_mix f__law_numbers f__law_take f__law_term f__law_atom f__law_tables f__law_value f__law_equal_holds f__law_with f__law_truth f__law_clause_names f__law_names f__law_assignments f__law_clause_holds f__law_matrix f__law_counts f__law_raw f__law_numbered f__law_due f__law_asked f__law_wide f_law : Addr}
    {f_TRUE : Addr} {od_T : Option Addr} {sl_T : Array (Option Value)} {n_T : Nat} {t_T t_PIECE t_LIM : Tok} {C_TooLarge fI_TooLarge cc_TooLarge ca_TooLarge NN_TooLarge : Addr} {nm_TooLarge qn_TooLarge fl_TooLarge : Str} {bs_TooLarge bm_TooLarge su_TooLarge : List Value} {sn_TooLarge : List Str} {ab_TooLarge : Bool} {cl_TooLarge : Option Bool} {dd_TooLarge oe_TooLarge an_TooLarge cx_TooLarge ce_TooLarge : Option Addr} {m0_TooLarge m1_TooLarge m2_TooLarge m3_TooLarge m5_TooLarge : Option Value} {oc_TooLarge kV_TooLarge do_TooLarge pm_TooLarge ct_TooLarge oo_TooLarge ol_TooLarge : Value} {os_TooLarge ox_TooLarge oy_TooLarge : Array (Option Value)} {vv_TooLarge : Array Value} {tf_TooLarge : Tok}
    (X : K.In h) (G : h.Ns mainGlobals mg) (hfa : mg "law" = some (.ref fa))
    {od_decimal an_decimal od_is_variable an_is_variable od_variables_of an_variables_of od_replace_variables an_replace_variables od_numbered an_numbered od_clause_variables an_clause_variables od_show_term an_show_term od_show_literal an_show_literal od_matrix_clauses an_matrix_clauses od_clause_count an_clause_count od_literal_dicts an_literal_dicts od__law_mix an__law_mix od__law_numbers an__law_numbers od__law_take an__law_take od__law_term an__law_term od__law_atom an__law_atom od__law_tables an__law_tables od__law_value an__law_value od__law_equal_holds an__law_equal_holds od__law_with an__law_with od__law_truth an__law_truth od__law_clause_names an__law_clause_names od__law_names an__law_names od__law_assignments an__law_assignments od__law_clause_holds an__law_clause_holds od__law_matrix an__law_matrix od__law_counts an__law_counts od__law_raw an__law_raw od__law_numbered an__law_numbered od__law_due an__law_due od__law_asked an__law_asked od__law_wide an__law_wide od_law an_law : Option Addr} {sl_decimal sl_is_variable sl_variables_of sl_replace_variables sl_numbered sl_clause_variables sl_show_term sl_show_literal sl_matrix_clauses sl_clause_count sl_literal_dicts sl__law_mix sl__law_numbers sl__law_take sl__law_term sl__law_atom sl__law_tables sl__law_value sl__law_equal_holds sl__law_with sl__law_truth sl__law_clause_names sl__law_names sl__law_assignments sl__law_clause_holds sl__law_matrix sl__law_counts sl__law_raw sl__law_numbered sl__law_due sl__law_asked sl__law_wide sl_law : Array (Option Value)} {oc_decimal kV_decimal dc_decimal pm_decimal cd_decimal ct_decimal oc_is_variable kV_is_variable dc_is_variable pm_is_variable cd_is_variable ct_is_variable oc_variables_of kV_variables_of dc_variables_of pm_variables_of cd_variables_of ct_variables_of oc_replace_variables kV_replace_variables dc_replace_variables pm_replace_variables cd_replace_variables ct_replace_variables oc_numbered kV_numbered dc_numbered pm_numbered cd_numbered ct_numbered oc_clause_variables kV_clause_variables dc_clause_variables pm_clause_variables cd_clause_variables ct_clause_variables oc_show_term kV_show_term dc_show_term pm_show_term cd_show_term ct_show_term oc_show_literal kV_show_literal dc_show_literal pm_show_literal cd_show_literal ct_show_literal oc_matrix_clauses dc_matrix_clauses pm_matrix_clauses cd_matrix_clauses ct_matrix_clauses oc_clause_count kV_clause_count dc_clause_count pm_clause_count cd_clause_count ct_clause_count oc_literal_dicts kV_literal_dicts dc_literal_dicts pm_literal_dicts cd_literal_dicts ct_literal_dicts oc__law_mix kV__law_mix dc__law_mix pm__law_mix cd__law_mix ct__law_mix oc__law_numbers kV__law_numbers dc__law_numbers pm__law_numbers cd__law_numbers ct__law_numbers oc__law_take kV__law_take dc__law_take pm__law_take cd__law_take ct__law_take oc__law_term kV__law_term dc__law_term pm__law_term cd__law_term ct__law_term oc__law_atom kV__law_atom dc__law_atom pm__law_atom cd__law_atom ct__law_atom oc__law_tables kV__law_tables dc__law_tables pm__law_tables cd__law_tables ct__law_tables oc__law_value kV__law_value dc__law_value pm__law_value cd__law_value ct__law_value oc__law_equal_holds kV__law_equal_holds dc__law_equal_holds pm__law_equal_holds cd__law_equal_holds ct__law_equal_holds oc__law_with kV__law_with dc__law_with pm__law_with cd__law_with ct__law_with oc__law_truth kV__law_truth dc__law_truth pm__law_truth cd__law_truth ct__law_truth oc__law_clause_names kV__law_clause_names dc__law_clause_names pm__law_clause_names cd__law_clause_names ct__law_clause_names oc__law_names kV__law_names dc__law_names pm__law_names cd__law_names ct__law_names oc__law_assignments kV__law_assignments dc__law_assignments pm__law_assignments cd__law_assignments ct__law_assignments oc__law_clause_holds kV__law_clause_holds dc__law_clause_holds pm__law_clause_holds cd__law_clause_holds ct__law_clause_holds oc__law_matrix kV__law_matrix dc__law_matrix pm__law_matrix cd__law_matrix ct__law_matrix oc__law_counts kV__law_counts dc__law_counts pm__law_counts cd__law_counts ct__law_counts oc__law_raw kV__law_raw dc__law_raw pm__law_raw cd__law_raw ct__law_raw oc__law_numbered kV__law_numbered dc__law_numbered pm__law_numbered cd__law_numbered ct__law_numbered oc__law_due kV__law_due dc__law_due pm__law_due cd__law_due ct__law_due oc__law_asked kV__law_asked dc__law_asked pm__law_asked cd__law_asked ct__law_asked oc__law_wide kV__law_wide dc__law_wide pm__law_wide cd__law_wide ct__law_wide oc_law kV_law dc_law pm_law cd_law ct_law : Value} {kd_matrix_clauses : Addr}
    (a_decimal : PySem.W.nsIn K mainGlobals "decimal" = some (some (.ref f_decimal))) (l_decimal : K.lookup f_decimal = some ⟨oc_decimal, od_decimal, .func (PySem.W.fnOf "decimal" "decimal" (defArgs s_decimal) (defBody s_decimal) (defScope s_decimal) .none kV_decimal dc_decimal pm_decimal an_decimal cd_decimal ct_decimal), sl_decimal⟩) (c_decimal : PySem.W.codeIn K cd_decimal "decimal" = true) (k_decimal : PySem.W.keepIn K (.ref f_decimal) = true)
    (a_is_variable : PySem.W.nsIn K mainGlobals "is_variable" = some (some (.ref f_is_variable))) (l_is_variable : K.lookup f_is_variable = some ⟨oc_is_variable, od_is_variable, .func (PySem.W.fnOf "is_variable" "is_variable" (defArgs s_is_variable) (defBody s_is_variable) (defScope s_is_variable) .none kV_is_variable dc_is_variable pm_is_variable an_is_variable cd_is_variable ct_is_variable), sl_is_variable⟩) (c_is_variable : PySem.W.codeIn K cd_is_variable "is_variable" = true) (k_is_variable : PySem.W.keepIn K (.ref f_is_variable) = true)
    (a_variables_of : PySem.W.nsIn K mainGlobals "variables_of" = some (some (.ref f_variables_of))) (l_variables_of : K.lookup f_variables_of = some ⟨oc_variables_of, od_variables_of, .func (PySem.W.fnOf "variables_of" "variables_of" (defArgs s_variables_of) (defBody s_variables_of) (defScope s_variables_of) .none kV_variables_of dc_variables_of pm_variables_of an_variables_of cd_variables_of ct_variables_of), sl_variables_of⟩) (c_variables_of : PySem.W.codeIn K cd_variables_of "variables_of" = true) (k_variables_of : PySem.W.keepIn K (.ref f_variables_of) = true)
    (a_replace_variables : PySem.W.nsIn K mainGlobals "replace_variables" = some (some (.ref f_replace_variables))) (l_replace_variables : K.lookup f_replace_variables = some ⟨oc_replace_variables, od_replace_variables, .func (PySem.W.fnOf "replace_variables" "replace_variables" (defArgs s_replace_variables) (defBody s_replace_variables) (defScope s_replace_variables) .none kV_replace_variables dc_replace_variables pm_replace_variables an_replace_variables cd_replace_variables ct_replace_variables), sl_replace_variables⟩) (c_replace_variables : PySem.W.codeIn K cd_replace_variables "replace_variables" = true) (k_replace_variables : PySem.W.keepIn K (.ref f_replace_variables) = true)
    (a_numbered : PySem.W.nsIn K mainGlobals "numbered" = some (some (.ref f_numbered))) (l_numbered : K.lookup f_numbered = some ⟨oc_numbered, od_numbered, .func (PySem.W.fnOf "numbered" "numbered" (defArgs s_numbered) (defBody s_numbered) (defScope s_numbered) .none kV_numbered dc_numbered pm_numbered an_numbered cd_numbered ct_numbered), sl_numbered⟩) (c_numbered : PySem.W.codeIn K cd_numbered "numbered" = true) (k_numbered : PySem.W.keepIn K (.ref f_numbered) = true)
    (a_clause_variables : PySem.W.nsIn K mainGlobals "clause_variables" = some (some (.ref f_clause_variables))) (l_clause_variables : K.lookup f_clause_variables = some ⟨oc_clause_variables, od_clause_variables, .func (PySem.W.fnOf "clause_variables" "clause_variables" (defArgs s_clause_variables) (defBody s_clause_variables) (defScope s_clause_variables) .none kV_clause_variables dc_clause_variables pm_clause_variables an_clause_variables cd_clause_variables ct_clause_variables), sl_clause_variables⟩) (c_clause_variables : PySem.W.codeIn K cd_clause_variables "clause_variables" = true) (k_clause_variables : PySem.W.keepIn K (.ref f_clause_variables) = true)
    (a_show_term : PySem.W.nsIn K mainGlobals "show_term" = some (some (.ref f_show_term))) (l_show_term : K.lookup f_show_term = some ⟨oc_show_term, od_show_term, .func (PySem.W.fnOf "show_term" "show_term" (defArgs s_show_term) (defBody s_show_term) (defScope s_show_term) .none kV_show_term dc_show_term pm_show_term an_show_term cd_show_term ct_show_term), sl_show_term⟩) (c_show_term : PySem.W.codeIn K cd_show_term "show_term" = true) (k_show_term : PySem.W.keepIn K (.ref f_show_term) = true)
    (a_show_literal : PySem.W.nsIn K mainGlobals "show_literal" = some (some (.ref f_show_literal))) (l_show_literal : K.lookup f_show_literal = some ⟨oc_show_literal, od_show_literal, .func (PySem.W.fnOf "show_literal" "show_literal" (defArgs s_show_literal) (defBody s_show_literal) (defScope s_show_literal) .none kV_show_literal dc_show_literal pm_show_literal an_show_literal cd_show_literal ct_show_literal), sl_show_literal⟩) (c_show_literal : PySem.W.codeIn K cd_show_literal "show_literal" = true) (k_show_literal : PySem.W.keepIn K (.ref f_show_literal) = true)
    (d_matrix_clauses : PySem.W.nsIn K kd_matrix_clauses "limit" = some (some (Value.int 200 t_LIM)))
    (a_matrix_clauses : PySem.W.nsIn K mainGlobals "matrix_clauses" = some (some (.ref f_matrix_clauses))) (l_matrix_clauses : K.lookup f_matrix_clauses = some ⟨oc_matrix_clauses, od_matrix_clauses, .func (PySem.W.fnOf "matrix_clauses" "matrix_clauses" (defArgs s_matrix_clauses) (defBody s_matrix_clauses) (defScope s_matrix_clauses) .none (.ref kd_matrix_clauses) dc_matrix_clauses pm_matrix_clauses an_matrix_clauses cd_matrix_clauses ct_matrix_clauses), sl_matrix_clauses⟩) (c_matrix_clauses : PySem.W.codeIn K cd_matrix_clauses "matrix_clauses" = true) (k_matrix_clauses : PySem.W.keepIn K (.ref f_matrix_clauses) = true)
    (a_clause_count : PySem.W.nsIn K mainGlobals "clause_count" = some (some (.ref f_clause_count))) (l_clause_count : K.lookup f_clause_count = some ⟨oc_clause_count, od_clause_count, .func (PySem.W.fnOf "clause_count" "clause_count" (defArgs s_clause_count) (defBody s_clause_count) (defScope s_clause_count) .none kV_clause_count dc_clause_count pm_clause_count an_clause_count cd_clause_count ct_clause_count), sl_clause_count⟩) (c_clause_count : PySem.W.codeIn K cd_clause_count "clause_count" = true) (k_clause_count : PySem.W.keepIn K (.ref f_clause_count) = true)
    (a_literal_dicts : PySem.W.nsIn K mainGlobals "literal_dicts" = some (some (.ref f_literal_dicts))) (l_literal_dicts : K.lookup f_literal_dicts = some ⟨oc_literal_dicts, od_literal_dicts, .func (PySem.W.fnOf "literal_dicts" "literal_dicts" (defArgs s_literal_dicts) (defBody s_literal_dicts) (defScope s_literal_dicts) .none kV_literal_dicts dc_literal_dicts pm_literal_dicts an_literal_dicts cd_literal_dicts ct_literal_dicts), sl_literal_dicts⟩) (c_literal_dicts : PySem.W.codeIn K cd_literal_dicts "literal_dicts" = true) (k_literal_dicts : PySem.W.keepIn K (.ref f_literal_dicts) = true)
    (a__law_mix : PySem.W.nsIn K mainGlobals "_law_mix" = some (some (.ref f__law_mix))) (l__law_mix : K.lookup f__law_mix = some ⟨oc__law_mix, od__law_mix, .func (PySem.W.fnOf "_law_mix" "_law_mix" (defArgs s__law_mix) (defBody s__law_mix) (defScope s__law_mix) .none kV__law_mix dc__law_mix pm__law_mix an__law_mix cd__law_mix ct__law_mix), sl__law_mix⟩) (c__law_mix : PySem.W.codeIn K cd__law_mix "_law_mix" = true) (k__law_mix : PySem.W.keepIn K (.ref f__law_mix) = true)
    (a__law_numbers : PySem.W.nsIn K mainGlobals "_law_numbers" = some (some (.ref f__law_numbers))) (l__law_numbers : K.lookup f__law_numbers = some ⟨oc__law_numbers, od__law_numbers, .func (PySem.W.fnOf "_law_numbers" "_law_numbers" (defArgs s__law_numbers) (defBody s__law_numbers) (defScope s__law_numbers) .none kV__law_numbers dc__law_numbers pm__law_numbers an__law_numbers cd__law_numbers ct__law_numbers), sl__law_numbers⟩) (c__law_numbers : PySem.W.codeIn K cd__law_numbers "_law_numbers" = true) (k__law_numbers : PySem.W.keepIn K (.ref f__law_numbers) = true)
    (a__law_take : PySem.W.nsIn K mainGlobals "_law_take" = some (some (.ref f__law_take))) (l__law_take : K.lookup f__law_take = some ⟨oc__law_take, od__law_take, .func (PySem.W.fnOf "_law_take" "_law_take" (defArgs s__law_take) (defBody s__law_take) (defScope s__law_take) .none kV__law_take dc__law_take pm__law_take an__law_take cd__law_take ct__law_take), sl__law_take⟩) (c__law_take : PySem.W.codeIn K cd__law_take "_law_take" = true) (k__law_take : PySem.W.keepIn K (.ref f__law_take) = true)
    (a__law_term : PySem.W.nsIn K mainGlobals "_law_term" = some (some (.ref f__law_term))) (l__law_term : K.lookup f__law_term = some ⟨oc__law_term, od__law_term, .func (PySem.W.fnOf "_law_term" "_law_term" (defArgs s__law_term) (defBody s__law_term) (defScope s__law_term) .none kV__law_term dc__law_term pm__law_term an__law_term cd__law_term ct__law_term), sl__law_term⟩) (c__law_term : PySem.W.codeIn K cd__law_term "_law_term" = true) (k__law_term : PySem.W.keepIn K (.ref f__law_term) = true)
    (a__law_atom : PySem.W.nsIn K mainGlobals "_law_atom" = some (some (.ref f__law_atom))) (l__law_atom : K.lookup f__law_atom = some ⟨oc__law_atom, od__law_atom, .func (PySem.W.fnOf "_law_atom" "_law_atom" (defArgs s__law_atom) (defBody s__law_atom) (defScope s__law_atom) .none kV__law_atom dc__law_atom pm__law_atom an__law_atom cd__law_atom ct__law_atom), sl__law_atom⟩) (c__law_atom : PySem.W.codeIn K cd__law_atom "_law_atom" = true) (k__law_atom : PySem.W.keepIn K (.ref f__law_atom) = true)
    (a__law_tables : PySem.W.nsIn K mainGlobals "_law_tables" = some (some (.ref f__law_tables))) (l__law_tables : K.lookup f__law_tables = some ⟨oc__law_tables, od__law_tables, .func (PySem.W.fnOf "_law_tables" "_law_tables" (defArgs s__law_tables) (defBody s__law_tables) (defScope s__law_tables) .none kV__law_tables dc__law_tables pm__law_tables an__law_tables cd__law_tables ct__law_tables), sl__law_tables⟩) (c__law_tables : PySem.W.codeIn K cd__law_tables "_law_tables" = true) (k__law_tables : PySem.W.keepIn K (.ref f__law_tables) = true)
    (a__law_value : PySem.W.nsIn K mainGlobals "_law_value" = some (some (.ref f__law_value))) (l__law_value : K.lookup f__law_value = some ⟨oc__law_value, od__law_value, .func (PySem.W.fnOf "_law_value" "_law_value" (defArgs s__law_value) (defBody s__law_value) (defScope s__law_value) .none kV__law_value dc__law_value pm__law_value an__law_value cd__law_value ct__law_value), sl__law_value⟩) (c__law_value : PySem.W.codeIn K cd__law_value "_law_value" = true) (k__law_value : PySem.W.keepIn K (.ref f__law_value) = true)
    (a__law_equal_holds : PySem.W.nsIn K mainGlobals "_law_equal_holds" = some (some (.ref f__law_equal_holds))) (l__law_equal_holds : K.lookup f__law_equal_holds = some ⟨oc__law_equal_holds, od__law_equal_holds, .func (PySem.W.fnOf "_law_equal_holds" "_law_equal_holds" (defArgs s__law_equal_holds) (defBody s__law_equal_holds) (defScope s__law_equal_holds) .none kV__law_equal_holds dc__law_equal_holds pm__law_equal_holds an__law_equal_holds cd__law_equal_holds ct__law_equal_holds), sl__law_equal_holds⟩) (c__law_equal_holds : PySem.W.codeIn K cd__law_equal_holds "_law_equal_holds" = true) (k__law_equal_holds : PySem.W.keepIn K (.ref f__law_equal_holds) = true)
    (a__law_with : PySem.W.nsIn K mainGlobals "_law_with" = some (some (.ref f__law_with))) (l__law_with : K.lookup f__law_with = some ⟨oc__law_with, od__law_with, .func (PySem.W.fnOf "_law_with" "_law_with" (defArgs s__law_with) (defBody s__law_with) (defScope s__law_with) .none kV__law_with dc__law_with pm__law_with an__law_with cd__law_with ct__law_with), sl__law_with⟩) (c__law_with : PySem.W.codeIn K cd__law_with "_law_with" = true) (k__law_with : PySem.W.keepIn K (.ref f__law_with) = true)
    (a__law_truth : PySem.W.nsIn K mainGlobals "_law_truth" = some (some (.ref f__law_truth))) (l__law_truth : K.lookup f__law_truth = some ⟨oc__law_truth, od__law_truth, .func (PySem.W.fnOf "_law_truth" "_law_truth" (defArgs s__law_truth) (defBody s__law_truth) (defScope s__law_truth) .none kV__law_truth dc__law_truth pm__law_truth an__law_truth cd__law_truth ct__law_truth), sl__law_truth⟩) (c__law_truth : PySem.W.codeIn K cd__law_truth "_law_truth" = true) (k__law_truth : PySem.W.keepIn K (.ref f__law_truth) = true)
    (a__law_clause_names : PySem.W.nsIn K mainGlobals "_law_clause_names" = some (some (.ref f__law_clause_names))) (l__law_clause_names : K.lookup f__law_clause_names = some ⟨oc__law_clause_names, od__law_clause_names, .func (PySem.W.fnOf "_law_clause_names" "_law_clause_names" (defArgs s__law_clause_names) (defBody s__law_clause_names) (defScope s__law_clause_names) .none kV__law_clause_names dc__law_clause_names pm__law_clause_names an__law_clause_names cd__law_clause_names ct__law_clause_names), sl__law_clause_names⟩) (c__law_clause_names : PySem.W.codeIn K cd__law_clause_names "_law_clause_names" = true) (k__law_clause_names : PySem.W.keepIn K (.ref f__law_clause_names) = true)
    (a__law_names : PySem.W.nsIn K mainGlobals "_law_names" = some (some (.ref f__law_names))) (l__law_names : K.lookup f__law_names = some ⟨oc__law_names, od__law_names, .func (PySem.W.fnOf "_law_names" "_law_names" (defArgs s__law_names) (defBody s__law_names) (defScope s__law_names) .none kV__law_names dc__law_names pm__law_names an__law_names cd__law_names ct__law_names), sl__law_names⟩) (c__law_names : PySem.W.codeIn K cd__law_names "_law_names" = true) (k__law_names : PySem.W.keepIn K (.ref f__law_names) = true)
    (a__law_assignments : PySem.W.nsIn K mainGlobals "_law_assignments" = some (some (.ref f__law_assignments))) (l__law_assignments : K.lookup f__law_assignments = some ⟨oc__law_assignments, od__law_assignments, .func (PySem.W.fnOf "_law_assignments" "_law_assignments" (defArgs s__law_assignments) (defBody s__law_assignments) (defScope s__law_assignments) .none kV__law_assignments dc__law_assignments pm__law_assignments an__law_assignments cd__law_assignments ct__law_assignments), sl__law_assignments⟩) (c__law_assignments : PySem.W.codeIn K cd__law_assignments "_law_assignments" = true) (k__law_assignments : PySem.W.keepIn K (.ref f__law_assignments) = true)
    (a__law_clause_holds : PySem.W.nsIn K mainGlobals "_law_clause_holds" = some (some (.ref f__law_clause_holds))) (l__law_clause_holds : K.lookup f__law_clause_holds = some ⟨oc__law_clause_holds, od__law_clause_holds, .func (PySem.W.fnOf "_law_clause_holds" "_law_clause_holds" (defArgs s__law_clause_holds) (defBody s__law_clause_holds) (defScope s__law_clause_holds) .none kV__law_clause_holds dc__law_clause_holds pm__law_clause_holds an__law_clause_holds cd__law_clause_holds ct__law_clause_holds), sl__law_clause_holds⟩) (c__law_clause_holds : PySem.W.codeIn K cd__law_clause_holds "_law_clause_holds" = true) (k__law_clause_holds : PySem.W.keepIn K (.ref f__law_clause_holds) = true)
    (a__law_matrix : PySem.W.nsIn K mainGlobals "_law_matrix" = some (some (.ref f__law_matrix))) (l__law_matrix : K.lookup f__law_matrix = some ⟨oc__law_matrix, od__law_matrix, .func (PySem.W.fnOf "_law_matrix" "_law_matrix" (defArgs s__law_matrix) (defBody s__law_matrix) (defScope s__law_matrix) .none kV__law_matrix dc__law_matrix pm__law_matrix an__law_matrix cd__law_matrix ct__law_matrix), sl__law_matrix⟩) (c__law_matrix : PySem.W.codeIn K cd__law_matrix "_law_matrix" = true) (k__law_matrix : PySem.W.keepIn K (.ref f__law_matrix) = true)
    (a__law_counts : PySem.W.nsIn K mainGlobals "_law_counts" = some (some (.ref f__law_counts))) (l__law_counts : K.lookup f__law_counts = some ⟨oc__law_counts, od__law_counts, .func (PySem.W.fnOf "_law_counts" "_law_counts" (defArgs s__law_counts) (defBody s__law_counts) (defScope s__law_counts) .none kV__law_counts dc__law_counts pm__law_counts an__law_counts cd__law_counts ct__law_counts), sl__law_counts⟩) (c__law_counts : PySem.W.codeIn K cd__law_counts "_law_counts" = true) (k__law_counts : PySem.W.keepIn K (.ref f__law_counts) = true)
    (a__law_raw : PySem.W.nsIn K mainGlobals "_law_raw" = some (some (.ref f__law_raw))) (l__law_raw : K.lookup f__law_raw = some ⟨oc__law_raw, od__law_raw, .func (PySem.W.fnOf "_law_raw" "_law_raw" (defArgs s__law_raw) (defBody s__law_raw) (defScope s__law_raw) .none kV__law_raw dc__law_raw pm__law_raw an__law_raw cd__law_raw ct__law_raw), sl__law_raw⟩) (c__law_raw : PySem.W.codeIn K cd__law_raw "_law_raw" = true) (k__law_raw : PySem.W.keepIn K (.ref f__law_raw) = true)
    (a__law_numbered : PySem.W.nsIn K mainGlobals "_law_numbered" = some (some (.ref f__law_numbered))) (l__law_numbered : K.lookup f__law_numbered = some ⟨oc__law_numbered, od__law_numbered, .func (PySem.W.fnOf "_law_numbered" "_law_numbered" (defArgs s__law_numbered) (defBody s__law_numbered) (defScope s__law_numbered) .none kV__law_numbered dc__law_numbered pm__law_numbered an__law_numbered cd__law_numbered ct__law_numbered), sl__law_numbered⟩) (c__law_numbered : PySem.W.codeIn K cd__law_numbered "_law_numbered" = true) (k__law_numbered : PySem.W.keepIn K (.ref f__law_numbered) = true)
    (a__law_due : PySem.W.nsIn K mainGlobals "_law_due" = some (some (.ref f__law_due))) (l__law_due : K.lookup f__law_due = some ⟨oc__law_due, od__law_due, .func (PySem.W.fnOf "_law_due" "_law_due" (defArgs s__law_due) (defBody s__law_due) (defScope s__law_due) .none kV__law_due dc__law_due pm__law_due an__law_due cd__law_due ct__law_due), sl__law_due⟩) (c__law_due : PySem.W.codeIn K cd__law_due "_law_due" = true) (k__law_due : PySem.W.keepIn K (.ref f__law_due) = true)
    (a__law_asked : PySem.W.nsIn K mainGlobals "_law_asked" = some (some (.ref f__law_asked))) (l__law_asked : K.lookup f__law_asked = some ⟨oc__law_asked, od__law_asked, .func (PySem.W.fnOf "_law_asked" "_law_asked" (defArgs s__law_asked) (defBody s__law_asked) (defScope s__law_asked) .none kV__law_asked dc__law_asked pm__law_asked an__law_asked cd__law_asked ct__law_asked), sl__law_asked⟩) (c__law_asked : PySem.W.codeIn K cd__law_asked "_law_asked" = true) (k__law_asked : PySem.W.keepIn K (.ref f__law_asked) = true)
    (a__law_wide : PySem.W.nsIn K mainGlobals "_law_wide" = some (some (.ref f__law_wide))) (l__law_wide : K.lookup f__law_wide = some ⟨oc__law_wide, od__law_wide, .func (PySem.W.fnOf "_law_wide" "_law_wide" (defArgs s__law_wide) (defBody s__law_wide) (defScope s__law_wide) .none kV__law_wide dc__law_wide pm__law_wide an__law_wide cd__law_wide ct__law_wide), sl__law_wide⟩) (c__law_wide : PySem.W.codeIn K cd__law_wide "_law_wide" = true) (k__law_wide : PySem.W.keepIn K (.ref f__law_wide) = true)
    (a_law : PySem.W.nsIn K mainGlobals "law" = some (some (.ref f_law))) (l_law : K.lookup f_law = some ⟨oc_law, od_law, .func (PySem.W.fnOf "law" "law" (defArgs s_law) (defBody s_law) (defScope s_law) .none kV_law dc_law pm_law an_law cd_law ct_law), sl_law⟩) (c_law : PySem.W.codeIn K cd_law "law" = true) (k_law : PySem.W.keepIn K (.ref f_law) = true)
    (a_PIECE : PySem.W.nsIn K mainGlobals "PIECE" = some (some (.int PIECE10 t_PIECE))) (a_TRUE : PySem.W.nsIn K mainGlobals "TRUE" = some (some (.ref f_TRUE))) (l_TRUE : K.lookup f_TRUE = some ⟨.type "tuple", od_T, .seq #[.str "true" t_T] n_T, sl_T⟩) (aC_TooLarge : PySem.W.nsIn K mainGlobals "TooLarge" = some (some (.ref C_TooLarge)))
    (xC_TooLarge : K.lookup C_TooLarge = some (excClassObj nm_TooLarge qn_TooLarge C_TooLarge NN_TooLarge bs_TooLarge bm_TooLarge true sn_TooLarge su_TooLarge ab_TooLarge cl_TooLarge dd_TooLarge m0_TooLarge m1_TooLarge m2_TooLarge m3_TooLarge m5_TooLarge "ValueError.__new__"))
    (hv_TooLarge : PySem.HandSPX.refsVE bm_TooLarge = true)
    (sa_TooLarge : PySem.W.findIn K (.ref C_TooLarge) "__setattr__" = some (some (.builtin "object.__setattr__")))
    (eC_TooLarge : PySem.W.subIn K (.ref C_TooLarge) (.type "BaseException") = some true)
    (tC_TooLarge : PySem.W.typeIn K (.ref C_TooLarge) = some (.type "type"))
    (kC_TooLarge : PySem.W.keepIn K (.ref C_TooLarge) = true)
    (up_TooLarge : PySem.W.ks_superIn K C_TooLarge C_TooLarge "__init__" = some (some (.builtin "ValueError.__init__")))
    (vs_TooLarge : PySem.W.subIn K (.ref C_TooLarge) (.type "ValueError") = some true)
    (ow_TooLarge : PySem.W.mroIn K C_TooLarge (.ref C_TooLarge) = some true)
    (oq_TooLarge : PySem.W.nsIn K cStatics "thirdparty.any" = some none)
    (iC_TooLarge : PySem.W.findIn K (.ref C_TooLarge) "__init__" = some (some (.ref fI_TooLarge)))
    (tI_TooLarge : PySem.W.typeIn K (.ref fI_TooLarge) = some (.type "function"))
    (lI_TooLarge : K.lookup fI_TooLarge = some ⟨oc_TooLarge, oe_TooLarge, .func (PySem.W.fnX "__init__" "TooLarge.__init__" (defArgs initSt) (defBody initSt) (defScope initSt) [("__class__", cc_TooLarge)] .none kV_TooLarge do_TooLarge pm_TooLarge an_TooLarge (.ref ca_TooLarge) ct_TooLarge), os_TooLarge⟩)
    (cI_TooLarge : PySem.W.codeIn K (.ref ca_TooLarge) "TooLarge.__init__" = true)
    (lc_TooLarge : K.lookup ca_TooLarge = some ⟨oo_TooLarge, cx_TooLarge, .fields vv_TooLarge, ox_TooLarge⟩)
    (vf_TooLarge : vv_TooLarge[2]? = some (.str fl_TooLarge tf_TooLarge))
    (hf_TooLarge : ((l.prog.main.file : Str) == fl_TooLarge) = true)
    (ht_TooLarge : (l.prog.main.scope.names.lookup ("super" : Str)).isSome = false)
    (ce_TooLargex : K.lookup cc_TooLarge = some ⟨ol_TooLarge, ce_TooLarge, .cell (some (.ref C_TooLarge)), oy_TooLarge⟩)
    (no_TooLarge_limit : PySem.W.findIn K (.ref C_TooLarge) "limit" = some none)
    (ga_TooLarge : PySem.W.findIn K (.ref C_TooLarge) "__getattribute__" = some (some (.builtin "BaseException.__getattribute__")))
    (gg_TooLarge : PySem.W.findIn K (.ref C_TooLarge) "__getattr__" = some none)
    (hd_TooLarge : PySem.W.hasDictIn K C_TooLarge = true)
    (ic_TooLarge : PySem.W.isClsIn K C_TooLarge = true)
    (cc_TooLargec : PySem.W.findIn K (.ref C_TooLarge) "__class__" = some (some (.builtin "object.__class__")))
    (cn_TooLarge : PySem.W.specialIn K (.builtin "object.__class__") "__get__" = some (some (.builtin "getset_descriptor.__get__")))
    (ck_TooLarge : PySem.W.takesIn K (.builtin "object.__class__") = some true)
    (mo_TooLarge : PySem.W.mroIn K C_TooLarge (.type "object") = some true)
    (sC_TooLarge : PySem.W.subIn K (.ref C_TooLarge) (.ref C_TooLarge) = some true)
   
    (z_len : PySem.W.nsIn K mainGlobals "len" = some none)
    (z_int : PySem.W.nsIn K mainGlobals "int" = some none)
    (z_range : PySem.W.nsIn K mainGlobals "range" = some none)
    (z_tuple : PySem.W.nsIn K mainGlobals "tuple" = some none)
    (z_isinstance : PySem.W.nsIn K mainGlobals "isinstance" = some none)
    (z_dict : PySem.W.nsIn K mainGlobals "dict" = some none)
    (z_list : PySem.W.nsIn K mainGlobals "list" = some none)
    (z_str : PySem.W.nsIn K mainGlobals "str" = some none)
    (z_enumerate : PySem.W.nsIn K mainGlobals "enumerate" = some none)
    (z_max : PySem.W.nsIn K mainGlobals "max" = some none)
    (z_all : PySem.W.nsIn K mainGlobals "all" = some none)
    (z_super : PySem.W.nsIn K mainGlobals "super" = some none)
    : ∃ fd : FuncData, (∀ (s : Shared) (v : Value), BindsTo s fd ⟨[v], []⟩ [("script", v)]) ∧ ∀ base : Heap, K.In base → base.Ns mainGlobals mg → FnOk l.prog w K mg base CX0 78 fa fd ["script"] (spLaw K) := by
  have e := hfa.symm.trans (PySem.W.mg_of X G a_law); cases e
  have F_decimal := fun_mk (st := s_decimal) l_decimal c_decimal k_decimal
  have D_decimal : Df K mg "decimal" s_decimal ["number"] _ _ := ⟨F_decimal, F_decimal.binds (ps := ["number"]) (fun _ _ _ _ _ _ us hl => match us, hl with | [_], _ => rfl), PySem.W.mg_of X G a_decimal⟩
  have F_is_variable := fun_mk (st := s_is_variable) l_is_variable c_is_variable k_is_variable
  have D_is_variable : Df K mg "is_variable" s_is_variable ["term"] _ _ := ⟨F_is_variable, F_is_variable.binds (ps := ["term"]) (fun _ _ _ _ _ _ us hl => match us, hl with | [_], _ => rfl), PySem.W.mg_of X G a_is_variable⟩
  have F_variables_of := fun_mk (st := s_variables_of) l_variables_of c_variables_of k_variables_of
  have D_variables_of : Df K mg "variables_of" s_variables_of ["terms"] _ _ := ⟨F_variables_of, F_variables_of.binds (ps := ["terms"]) (fun _ _ _ _ _ _ us hl => match us, hl with | [_], _ => rfl), PySem.W.mg_of X G a_variables_of⟩
  have F_replace_variables := fun_mk (st := s_replace_variables) l_replace_variables c_replace_variables k_replace_variables
  have D_replace_variables : Df K mg "replace_variables" s_replace_variables ["term", "new"] _ _ := ⟨F_replace_variables, F_replace_variables.binds (ps := ["term", "new"]) (fun _ _ _ _ _ _ us hl => match us, hl with | [_, _], _ => rfl), PySem.W.mg_of X G a_replace_variables⟩
  have F_numbered := fun_mk (st := s_numbered) l_numbered c_numbered k_numbered
  have D_numbered : Df K mg "numbered" s_numbered ["literals"] _ _ := ⟨F_numbered, F_numbered.binds (ps := ["literals"]) (fun _ _ _ _ _ _ us hl => match us, hl with | [_], _ => rfl), PySem.W.mg_of X G a_numbered⟩
  have F_clause_variables := fun_mk (st := s_clause_variables) l_clause_variables c_clause_variables k_clause_variables
  have D_clause_variables : Df K mg "clause_variables" s_clause_variables ["clause"] _ _ := ⟨F_clause_variables, F_clause_variables.binds (ps := ["clause"]) (fun _ _ _ _ _ _ us hl => match us, hl with | [_], _ => rfl), PySem.W.mg_of X G a_clause_variables⟩
  have F_show_term := fun_mk (st := s_show_term) l_show_term c_show_term k_show_term
  have D_show_term : Df K mg "show_term" s_show_term ["term"] _ _ := ⟨F_show_term, F_show_term.binds (ps := ["term"]) (fun _ _ _ _ _ _ us hl => match us, hl with | [_], _ => rfl), PySem.W.mg_of X G a_show_term⟩
  have F_show_literal := fun_mk (st := s_show_literal) l_show_literal c_show_literal k_show_literal
  have D_show_literal : Df K mg "show_literal" s_show_literal ["literal"] _ _ := ⟨F_show_literal, F_show_literal.binds (ps := ["literal"]) (fun _ _ _ _ _ _ us hl => match us, hl with | [_], _ => rfl), PySem.W.mg_of X G a_show_literal⟩
  have F_matrix_clauses := fun_mk (st := s_matrix_clauses) l_matrix_clauses c_matrix_clauses k_matrix_clauses
  have FD_matrix_clauses : FunD K "matrix_clauses" "matrix_clauses" (defArgs s_matrix_clauses) (defBody s_matrix_clauses) (defScope s_matrix_clauses) [] [("limit", V.int 200)] f_matrix_clauses _ := ⟨⟨_, _, _, _, _, _, _, _, _, _, rfl, l_matrix_clauses, c_matrix_clauses, .inl ⟨rfl, rfl⟩, .inr ⟨_, rfl, fun q hq => by cases List.mem_singleton.mp hq; exact ⟨_, d_matrix_clauses, ⟨_, rfl⟩⟩⟩⟩, k_matrix_clauses⟩
  have D_matrix_clauses : DkG K mg "matrix_clauses" s_matrix_clauses ["matrix", "limit"] 1 "limit" (V.int 200) _ _ := ⟨F_matrix_clauses, FD_matrix_clauses.binds0 1 (by decide) rfl (fun D doc pm an cdv ct us ks h1 h2 => match us, ks, h1, h2 with | [_], [_], _, _ => ⟨_, _, _, _, _, _, rfl, rfl, rfl⟩), ⟨fun s us ws X h1 h2 => match us, ws, h1, h2 with | [_], [_], _, _ => .of_eq rfl, fun r1 r2 => r1.append r2⟩, PySem.W.mg_of X G a_matrix_clauses⟩
  have F_clause_count := fun_mk (st := s_clause_count) l_clause_count c_clause_count k_clause_count
  have D_clause_count : Df K mg "clause_count" s_clause_count ["matrix", "limit"] _ _ := ⟨F_clause_count, F_clause_count.binds (ps := ["matrix", "limit"]) (fun _ _ _ _ _ _ us hl => match us, hl with | [_, _], _ => rfl), PySem.W.mg_of X G a_clause_count⟩
  have F_literal_dicts := fun_mk (st := s_literal_dicts) l_literal_dicts c_literal_dicts k_literal_dicts
  have D_literal_dicts : Df K mg "literal_dicts" s_literal_dicts ["matrix"] _ _ := ⟨F_literal_dicts, F_literal_dicts.binds (ps := ["matrix"]) (fun _ _ _ _ _ _ us hl => match us, hl with | [_], _ => rfl), PySem.W.mg_of X G a_literal_dicts⟩
  have F__law_mix := fun_mk (st := s__law_mix) l__law_mix c__law_mix k__law_mix
  have D__law_mix : Df K mg "_law_mix" s__law_mix ["number", "k"] _ _ := ⟨F__law_mix, F__law_mix.binds (ps := ["number", "k"]) (fun _ _ _ _ _ _ us hl => match us, hl with | [_, _], _ => rfl), PySem.W.mg_of X G a__law_mix⟩
  have F__law_numbers := fun_mk (st := s__law_numbers) l__law_numbers c__law_numbers k__law_numbers
  have D__law_numbers : Df K mg "_law_numbers" s__law_numbers ["script", "count"] _ _ := ⟨F__law_numbers, F__law_numbers.binds (ps := ["script", "count"]) (fun _ _ _ _ _ _ us hl => match us, hl with | [_, _], _ => rfl), PySem.W.mg_of X G a__law_numbers⟩
  have F__law_take := fun_mk (st := s__law_take) l__law_take c__law_take k__law_take
  have D__law_take : Df K mg "_law_take" s__law_take ["row", "bound"] _ _ := ⟨F__law_take, F__law_take.binds (ps := ["row", "bound"]) (fun _ _ _ _ _ _ us hl => match us, hl with | [_, _], _ => rfl), PySem.W.mg_of X G a__law_take⟩
  have F__law_term := fun_mk (st := s__law_term) l__law_term c__law_term k__law_term
  have D__law_term : Df K mg "_law_term" s__law_term ["row", "names", "depth"] _ _ := ⟨F__law_term, F__law_term.binds (ps := ["row", "names", "depth"]) (fun _ _ _ _ _ _ us hl => match us, hl with | [_, _, _], _ => rfl), PySem.W.mg_of X G a__law_term⟩
  have F__law_atom := fun_mk (st := s__law_atom) l__law_atom c__law_atom k__law_atom
  have D__law_atom : Df K mg "_law_atom" s__law_atom ["row", "names", "depth"] _ _ := ⟨F__law_atom, F__law_atom.binds (ps := ["row", "names", "depth"]) (fun _ _ _ _ _ _ us hl => match us, hl with | [_, _, _], _ => rfl), PySem.W.mg_of X G a__law_atom⟩
  have F__law_tables := fun_mk (st := s__law_tables) l__law_tables c__law_tables k__law_tables
  have D__law_tables : Df K mg "_law_tables" s__law_tables ["row"] _ _ := ⟨F__law_tables, F__law_tables.binds (ps := ["row"]) (fun _ _ _ _ _ _ us hl => match us, hl with | [_], _ => rfl), PySem.W.mg_of X G a__law_tables⟩
  have F__law_value := fun_mk (st := s__law_value) l__law_value c__law_value k__law_value
  have D__law_value : Df K mg "_law_value" s__law_value ["term", "functions", "known"] _ _ := ⟨F__law_value, F__law_value.binds (ps := ["term", "functions", "known"]) (fun _ _ _ _ _ _ us hl => match us, hl with | [_, _, _], _ => rfl), PySem.W.mg_of X G a__law_value⟩
  have F__law_equal_holds := fun_mk (st := s__law_equal_holds) l__law_equal_holds c__law_equal_holds k__law_equal_holds
  have D__law_equal_holds : Df K mg "_law_equal_holds" s__law_equal_holds ["left", "right", "tables", "known"] _ _ := ⟨F__law_equal_holds, F__law_equal_holds.binds (ps := ["left", "right", "tables", "known"]) (fun _ _ _ _ _ _ us hl => match us, hl with | [_, _, _, _], _ => rfl), PySem.W.mg_of X G a__law_equal_holds⟩
  have F__law_with := fun_mk (st := s__law_with) l__law_with c__law_with k__law_with
  have D__law_with : Df K mg "_law_with" s__law_with ["known", "name", "element"] _ _ := ⟨F__law_with, F__law_with.binds (ps := ["known", "name", "element"]) (fun _ _ _ _ _ _ us hl => match us, hl with | [_, _, _], _ => rfl), PySem.W.mg_of X G a__law_with⟩
  have F__law_truth := fun_mk (st := s__law_truth) l__law_truth c__law_truth k__law_truth
  have D__law_truth : Df K mg "_law_truth" s__law_truth ["formula", "tables", "known"] _ _ := ⟨F__law_truth, F__law_truth.binds (ps := ["formula", "tables", "known"]) (fun _ _ _ _ _ _ us hl => match us, hl with | [_, _, _], _ => rfl), PySem.W.mg_of X G a__law_truth⟩
  have F__law_clause_names := fun_mk (st := s__law_clause_names) l__law_clause_names c__law_clause_names k__law_clause_names
  have D__law_clause_names : Df K mg "_law_clause_names" s__law_clause_names ["clause"] _ _ := ⟨F__law_clause_names, F__law_clause_names.binds (ps := ["clause"]) (fun _ _ _ _ _ _ us hl => match us, hl with | [_], _ => rfl), PySem.W.mg_of X G a__law_clause_names⟩
  have F__law_names := fun_mk (st := s__law_names) l__law_names c__law_names k__law_names
  have D__law_names : Df K mg "_law_names" s__law_names ["term"] _ _ := ⟨F__law_names, F__law_names.binds (ps := ["term"]) (fun _ _ _ _ _ _ us hl => match us, hl with | [_], _ => rfl), PySem.W.mg_of X G a__law_names⟩
  have F__law_assignments := fun_mk (st := s__law_assignments) l__law_assignments c__law_assignments k__law_assignments
  have D__law_assignments : Df K mg "_law_assignments" s__law_assignments ["names", "size"] _ _ := ⟨F__law_assignments, F__law_assignments.binds (ps := ["names", "size"]) (fun _ _ _ _ _ _ us hl => match us, hl with | [_, _], _ => rfl), PySem.W.mg_of X G a__law_assignments⟩
  have F__law_clause_holds := fun_mk (st := s__law_clause_holds) l__law_clause_holds c__law_clause_holds k__law_clause_holds
  have D__law_clause_holds : Df K mg "_law_clause_holds" s__law_clause_holds ["clause", "tables"] _ _ := ⟨F__law_clause_holds, F__law_clause_holds.binds (ps := ["clause", "tables"]) (fun _ _ _ _ _ _ us hl => match us, hl with | [_, _], _ => rfl), PySem.W.mg_of X G a__law_clause_holds⟩
  have F__law_matrix := fun_mk (st := s__law_matrix) l__law_matrix c__law_matrix k__law_matrix
  have D__law_matrix : Df K mg "_law_matrix" s__law_matrix ["row", "depth"] _ _ := ⟨F__law_matrix, F__law_matrix.binds (ps := ["row", "depth"]) (fun _ _ _ _ _ _ us hl => match us, hl with | [_, _], _ => rfl), PySem.W.mg_of X G a__law_matrix⟩
  have F__law_counts := fun_mk (st := s__law_counts) l__law_counts c__law_counts k__law_counts
  have D__law_counts : Df K mg "_law_counts" s__law_counts ["matrix"] _ _ := ⟨F__law_counts, F__law_counts.binds (ps := ["matrix"]) (fun _ _ _ _ _ _ us hl => match us, hl with | [_], _ => rfl), PySem.W.mg_of X G a__law_counts⟩
  have F__law_raw := fun_mk (st := s__law_raw) l__law_raw c__law_raw k__law_raw
  have D__law_raw : Df K mg "_law_raw" s__law_raw ["matrix"] _ _ := ⟨F__law_raw, F__law_raw.binds (ps := ["matrix"]) (fun _ _ _ _ _ _ us hl => match us, hl with | [_], _ => rfl), PySem.W.mg_of X G a__law_raw⟩
  have F__law_numbered := fun_mk (st := s__law_numbered) l__law_numbered c__law_numbered k__law_numbered
  have D__law_numbered : Df K mg "_law_numbered" s__law_numbered ["term", "numbers"] _ _ := ⟨F__law_numbered, F__law_numbered.binds (ps := ["term", "numbers"]) (fun _ _ _ _ _ _ us hl => match us, hl with | [_, _], _ => rfl), PySem.W.mg_of X G a__law_numbered⟩
  have F__law_due := fun_mk (st := s__law_due) l__law_due c__law_due k__law_due
  have D__law_due : Df K mg "_law_due" s__law_due ["literals"] _ _ := ⟨F__law_due, F__law_due.binds (ps := ["literals"]) (fun _ _ _ _ _ _ us hl => match us, hl with | [_], _ => rfl), PySem.W.mg_of X G a__law_due⟩
  have F__law_asked := fun_mk (st := s__law_asked) l__law_asked c__law_asked k__law_asked
  have D__law_asked : Df K mg "_law_asked" s__law_asked ["matrix", "bound"] _ _ := ⟨F__law_asked, F__law_asked.binds (ps := ["matrix", "bound"]) (fun _ _ _ _ _ _ us hl => match us, hl with | [_, _], _ => rfl), PySem.W.mg_of X G a__law_asked⟩
  have F__law_wide := fun_mk (st := s__law_wide) l__law_wide c__law_wide k__law_wide
  have D__law_wide : Df K mg "_law_wide" s__law_wide ["row"] _ _ := ⟨F__law_wide, F__law_wide.binds (ps := ["row"]) (fun _ _ _ _ _ _ us hl => match us, hl with | [_], _ => rfl), PySem.W.mg_of X G a__law_wide⟩
  have F_law := fun_mk (st := s_law) l_law c_law k_law
  have D_law : Df K mg "law" s_law ["script"] _ _ := ⟨F_law, F_law.binds (ps := ["script"]) (fun _ _ _ _ _ _ us hl => match us, hl with | [_], _ => rfl), PySem.W.mg_of X G a_law⟩
  have m_len := PySem.W.mg_none_of X G z_len
  have m_int := PySem.W.mg_none_of X G z_int
  have m_range := PySem.W.mg_none_of X G z_range
  have m_tuple := PySem.W.mg_none_of X G z_tuple
  have m_isinstance := PySem.W.mg_none_of X G z_isinstance
  have m_dict := PySem.W.mg_none_of X G z_dict
  have m_list := PySem.W.mg_none_of X G z_list
  have m_str := PySem.W.mg_none_of X G z_str
  have m_enumerate := PySem.W.mg_none_of X G z_enumerate
  have m_max := PySem.W.mg_none_of X G z_max
  have m_all := PySem.W.mg_none_of X G z_all
  have m_super := PySem.W.mg_none_of X G z_super
  have SC_TooLarge : SupC K C_TooLarge := ⟨⟨⟨nm_TooLarge, qn_TooLarge, NN_TooLarge, bs_TooLarge, bm_TooLarge, sn_TooLarge, su_TooLarge, ab_TooLarge, cl_TooLarge, dd_TooLarge, m0_TooLarge, m1_TooLarge, m2_TooLarge, m3_TooLarge, m5_TooLarge, xC_TooLarge, hv_TooLarge⟩, sa_TooLarge, eC_TooLarge, tC_TooLarge, kC_TooLarge⟩, up_TooLarge, vs_TooLarge, ow_TooLarge, oq_TooLarge⟩
  have IC_TooLarge : InitC l.prog K mg C_TooLarge fI_TooLarge cc_TooLarge ca_TooLarge "__init__" "TooLarge.__init__" (defArgs initSt) (defBody initSt) (defScope initSt) _ := { sup := SC_TooLarge, fn := ⟨_, _, _, _, _, _, _, _, _, rfl, lI_TooLarge⟩, code := cI_TooLarge, file := ⟨_, _, _, _, lc_TooLarge, rfl, vf_TooLarge, hf_TooLarge⟩, top := ht_TooLarge, cell := ⟨_, _, _, ce_TooLargex⟩, glob := m_super, self := ⟨_, rfl, rfl⟩, k1 := by decide +kernel, k2 := by decide +kernel, k3 := by decide +kernel, iC := iC_TooLarge, tI := tI_TooLarge }
  have EC_TooLarge : ErrC K C_TooLarge := ⟨ga_TooLarge, gg_TooLarge, eC_TooLarge, hd_TooLarge, ic_TooLarge, cc_TooLargec, cn_TooLarge, ck_TooLarge, mo_TooLarge⟩
  refine ⟨PySem.W.fnOf "law" "law" (defArgs s_law) (defBody s_law) (defScope s_law) .none kV_law dc_law pm_law an_law cd_law ct_law, fun s v => .of_eq rfl, fun base _ _ => ?_⟩
  have T5 : Tops5 K w mg := ⟨⟨_, PySem.W.mg_of X G a_TRUE, fun H => .inr ⟨_, _, _, l_TRUE, rfl, rfl, by show 1 ≤ sizeLine; decide, .cons ⟨_, rfl⟩ .nil⟩⟩⟩
  have G_isv := ok_is_variable (P := l.prog) (w := w) (base := base) D_is_variable m_isinstance m_tuple
  have G_decimal := ok_decimal (P := l.prog) (w := w) (base := base) D_decimal (PySem.W.mg_of X G a_PIECE) m_str
  have G_show_term := ok_show_term (P := l.prog) (w := w) (base := base) D_show_term D_is_variable G_isv m_isinstance m_str m_len D_decimal G_decimal 61
  have G_show_literal := ok_show_literal (P := l.prog) (w := w) (base := base) D_show_literal D_show_term G_show_term T5
  have G_mix := ok_mix (P := l.prog) (w := w) (base := base) D__law_mix m_int
  have G_nums := ok_nums (P := l.prog) (w := w) (base := base) D__law_numbers D__law_mix G_mix m_range m_int
  have G_take := ok_take (P := l.prog) (w := w) (base := base) D__law_take m_int
  have G_atom := fun L => ok_a20 (P := l.prog) (w := w) (base := base) L D__law_atom D__law_take G_take D__law_term (ok_t20 (P := l.prog) (w := w) (base := base) L D__law_term D__law_take G_take m_len m_int 2)
  have G_tab := ok_tab (P := l.prog) (w := w) (base := base) D__law_tables D__law_take G_take m_range
  have G_value := ok_value (P := l.prog) (w := w) (base := base) D__law_value m_isinstance m_tuple 4
  have G_eqh := ok_eqh (P := l.prog) (w := w) (base := base) D__law_equal_holds D__law_value G_value m_tuple
  have G_with := ok_with (P := l.prog) (w := w) (base := base) D__law_with m_dict
  have G_truth := ok_truth (P := l.prog) (w := w) (base := base) D__law_truth D__law_equal_holds G_eqh D__law_with G_with m_range 20
  have G_valueK := ok_valueK (P := l.prog) (w := w) (base := base) D__law_value m_isinstance m_tuple 4
  have G_eqhK := ok_eqhK (P := l.prog) (w := w) (base := base) D__law_equal_holds D__law_value G_valueK m_tuple
  have G_withK := ok_withK (P := l.prog) (w := w) (base := base) D__law_with m_dict
  have G_vof := ok_variables_of (P := l.prog) (w := w) (base := base) D_variables_of D_is_variable G_isv m_list
  have G_cv := ok_clause_variables (P := l.prog) (w := w) (base := base) D_clause_variables D_variables_of G_vof
  have G_rv := ok_rv (P := l.prog) (w := w) (base := base) D_replace_variables D_is_variable G_isv m_tuple 21
  have G_numbered := ok_numbered (P := l.prog) (w := w) (base := base) D_numbered D_clause_variables G_cv D_replace_variables G_rv m_enumerate m_tuple
  have G_init := ok_init (P := l.prog) (w := w) (base := base) IC_TooLarge no_TooLarge_limit
  have T_lim : LimC l.prog w K mg base C_TooLarge fI_TooLarge _ := ⟨PySem.W.mg_of X G aC_TooLarge, SC_TooLarge.oex, iC_TooLarge, tI_TooLarge, G_init, .all (fun us hl => match us, hl with | [_, _], _ => rfl), EC_TooLarge, exm_self eC_TooLarge ic_TooLarge tC_TooLarge sC_TooLarge, no_TooLarge_limit⟩
  have G_cc := ok_cc (P := l.prog) (w := w) (base := base) D_clause_count T_lim 12
  have G_ld := ok_ld (P := l.prog) (w := w) (base := base) D_literal_dicts D_show_literal G_show_literal 12
  have G_mc := ok_mc (P := l.prog) (w := w) (base := base) D_matrix_clauses D_clause_count G_cc D_literal_dicts G_ld D_numbered G_numbered m_list
  have G_nms := ok_nms (P := l.prog) (w := w) (base := base) D__law_names m_isinstance m_tuple 21
  have G_cn := ok_cn (P := l.prog) (w := w) (base := base) D__law_clause_names D__law_names G_nms
  have G_as := ok_as (P := l.prog) (w := w) (base := base) D__law_assignments D__law_with G_withK m_list m_range
  have G_ch := ok_ch (P := l.prog) (w := w) (base := base) D__law_clause_holds D__law_assignments G_as D__law_clause_names G_cn D__law_equal_holds G_eqhK
  have G_mx := ok_mx (P := l.prog) (w := w) (base := base) D__law_matrix D__law_take G_take D__law_atom G_atom m_int 8
  have G_wd := ok_wd (P := l.prog) (w := w) (base := base) D__law_wide D__law_take G_take D__law_atom G_atom m_range
  have G_ct := ok_ct (P := l.prog) (w := w) (base := base) D__law_counts m_max 12
  have G_rw := ok_rw (P := l.prog) (w := w) (base := base) D__law_raw 12
  have G_lnum := ok_lnum (P := l.prog) (w := w) (base := base) D__law_numbered m_isinstance m_tuple 21
  have G_du := ok_du (P := l.prog) (w := w) (base := base) D__law_due D__law_clause_names G_cn D__law_numbered G_lnum m_len m_tuple
  have G_ask := ok_ask (P := l.prog) (w := w) (base := base) D__law_asked D_matrix_clauses G_mc T_lim
  exact ok_law D_law D__law_numbers G_nums D__law_take G_take D__law_matrix G_mx D__law_wide G_wd D__law_tables G_tab D__law_asked G_ask D__law_counts G_ct D__law_assignments G_as D__law_truth G_truth D__law_raw G_rw D__law_due G_du D__law_clause_holds G_ch m_isinstance m_list m_len m_all
end K23
open PySem PySem.W PyProof.Rows
set_option maxRecDepth 100000 in
set_option maxHeartbeats 0 in
theorem PySem.Challenge.cw_elenchus_k23_clauses_of_a_matrix_holds : PySem.Challenge.rw_elenchus_k23_clauses_of_a_matrix.Holds := by
  w_on; o_law; k_head; (case hw => w_witness2)
  k_fill
  refine L2.walk_of (l := PySem.Challenge.rw_elenchus_k23_clauses_of_a_matrix) (n := 63) (k := 78) (x := "script") (CX := fun _ => L2.CX0) (sp := fun w => K23.spLaw _) rfl (by decide) rfl ⟨rfl, by decide, by decide⟩ (fun w h Y => PySem.W.kIn_of Y) ?F (fun _ _ a ns hl _ hS => ⟨a, ns, rfl, hS, hl, fun _ => rfl⟩) (fun _ _ _ _ _ h => h)
  case F =>
    intro w mg fa h KX G hmg
    refine' K23.all_mk (l := PySem.Challenge.rw_elenchus_k23_clauses_of_a_matrix) KX G hmg ?a_decimal ?l_decimal ?c_decimal ?k_decimal ?a_is_variable ?l_is_variable ?c_is_variable ?k_is_variable ?a_variables_of ?l_variables_of ?c_variables_of ?k_variables_of ?a_replace_variables ?l_replace_variables ?c_replace_variables ?k_replace_variables ?a_numbered ?l_numbered ?c_numbered ?k_numbered ?a_clause_variables ?l_clause_variables ?c_clause_variables ?k_clause_variables ?a_show_term ?l_show_term ?c_show_term ?k_show_term ?a_show_literal ?l_show_literal ?c_show_literal ?k_show_literal ?d_matrix_clauses ?a_matrix_clauses ?l_matrix_clauses ?c_matrix_clauses ?k_matrix_clauses ?a_clause_count ?l_clause_count ?c_clause_count ?k_clause_count ?a_literal_dicts ?l_literal_dicts ?c_literal_dicts ?k_literal_dicts ?a__law_mix ?l__law_mix ?c__law_mix ?k__law_mix ?a__law_numbers ?l__law_numbers ?c__law_numbers ?k__law_numbers ?a__law_take ?l__law_take ?c__law_take ?k__law_take ?a__law_term ?l__law_term ?c__law_term ?k__law_term ?a__law_atom ?l__law_atom ?c__law_atom ?k__law_atom ?a__law_tables ?l__law_tables ?c__law_tables ?k__law_tables ?a__law_value ?l__law_value ?c__law_value ?k__law_value ?a__law_equal_holds ?l__law_equal_holds ?c__law_equal_holds ?k__law_equal_holds ?a__law_with ?l__law_with ?c__law_with ?k__law_with ?a__law_truth ?l__law_truth ?c__law_truth ?k__law_truth ?a__law_clause_names ?l__law_clause_names ?c__law_clause_names ?k__law_clause_names ?a__law_names ?l__law_names ?c__law_names ?k__law_names ?a__law_assignments ?l__law_assignments ?c__law_assignments ?k__law_assignments ?a__law_clause_holds ?l__law_clause_holds ?c__law_clause_holds ?k__law_clause_holds ?a__law_matrix ?l__law_matrix ?c__law_matrix ?k__law_matrix ?a__law_counts ?l__law_counts ?c__law_counts ?k__law_counts ?a__law_raw ?l__law_raw ?c__law_raw ?k__law_raw ?a__law_numbered ?l__law_numbered ?c__law_numbered ?k__law_numbered ?a__law_due ?l__law_due ?c__law_due ?k__law_due ?a__law_asked ?l__law_asked ?c__law_asked ?k__law_asked ?a__law_wide ?l__law_wide ?c__law_wide ?k__law_wide ?a_law ?l_law ?c_law ?k_law ?a_PIECE ?a_TRUE ?l_TRUE ?aC_TooLarge ?xC_TooLarge ?hv_TooLarge ?sa_TooLarge ?eC_TooLarge ?tC_TooLarge ?kC_TooLarge ?up_TooLarge ?vs_TooLarge ?ow_TooLarge ?oq_TooLarge ?iC_TooLarge ?tI_TooLarge ?lI_TooLarge ?cI_TooLarge ?lc_TooLarge ?vf_TooLarge ?hf_TooLarge ?ht_TooLarge ?ce_TooLargex ?no_TooLarge_limit ?ga_TooLarge ?gg_TooLarge ?hd_TooLarge ?ic_TooLarge ?cc_TooLargec ?cn_TooLarge ?ck_TooLarge ?mo_TooLarge ?sC_TooLarge ?z_len ?z_int ?z_range ?z_tuple ?z_isinstance ?z_dict ?z_list ?z_str ?z_enumerate ?z_max ?z_all ?z_super
    (case a_decimal => k_is)
    (case l_decimal => k_is)
    (case c_decimal => k_is)
    (case k_decimal => k_is)
    (case a_is_variable => k_is)
    (case l_is_variable => k_is)
    (case c_is_variable => k_is)
    (case k_is_variable => k_is)
    (case a_variables_of => k_is)
    (case l_variables_of => k_is)
    (case c_variables_of => k_is)
    (case k_variables_of => k_is)
    (case a_replace_variables => k_is)
    (case l_replace_variables => k_is)
    (case c_replace_variables => k_is)
    (case k_replace_variables => k_is)
    (case a_numbered => k_is)
    (case l_numbered => k_is)
    (case c_numbered => k_is)
    (case k_numbered => k_is)
    (case a_clause_variables => k_is)
    (case l_clause_variables => k_is)
    (case c_clause_variables => k_is)
    (case k_clause_variables => k_is)
    (case a_show_term => k_is)
    (case l_show_term => k_is)
    (case c_show_term => k_is)
    (case k_show_term => k_is)
    (case a_show_literal => k_is)
    (case l_show_literal => k_is)
    (case c_show_literal => k_is)
    (case k_show_literal => k_is)
    (case a_matrix_clauses => k_is)
    (case l_matrix_clauses => k_is)
    (case c_matrix_clauses => k_is)
    (case k_matrix_clauses => k_is)
    (case a_clause_count => k_is)
    (case l_clause_count => k_is)
    (case c_clause_count => k_is)
    (case k_clause_count => k_is)
    (case a_literal_dicts => k_is)
    (case l_literal_dicts => k_is)
    (case c_literal_dicts => k_is)
    (case k_literal_dicts => k_is)
    (case a__law_mix => k_is)
    (case l__law_mix => k_is)
    (case c__law_mix => k_is)
    (case k__law_mix => k_is)
    (case a__law_numbers => k_is)
    (case l__law_numbers => k_is)
    (case c__law_numbers => k_is)
    (case k__law_numbers => k_is)
    (case a__law_take => k_is)
    (case l__law_take => k_is)
    (case c__law_take => k_is)
    (case k__law_take => k_is)
    (case a__law_term => k_is)
    (case l__law_term => k_is)
    (case c__law_term => k_is)
    (case k__law_term => k_is)
    (case a__law_atom => k_is)
    (case l__law_atom => k_is)
    (case c__law_atom => k_is)
    (case k__law_atom => k_is)
    (case a__law_tables => k_is)
    (case l__law_tables => k_is)
    (case c__law_tables => k_is)
    (case k__law_tables => k_is)
    (case a__law_value => k_is)
    (case l__law_value => k_is)
    (case c__law_value => k_is)
    (case k__law_value => k_is)
    (case a__law_equal_holds => k_is)
    (case l__law_equal_holds => k_is)
    (case c__law_equal_holds => k_is)
    (case k__law_equal_holds => k_is)
    (case a__law_with => k_is)
    (case l__law_with => k_is)
    (case c__law_with => k_is)
    (case k__law_with => k_is)
    (case a__law_truth => k_is)
    (case l__law_truth => k_is)
    (case c__law_truth => k_is)
    (case k__law_truth => k_is)
    (case a__law_clause_names => k_is)
    (case l__law_clause_names => k_is)
    (case c__law_clause_names => k_is)
    (case k__law_clause_names => k_is)
    (case a__law_names => k_is)
    (case l__law_names => k_is)
    (case c__law_names => k_is)
    (case k__law_names => k_is)
    (case a__law_assignments => k_is)
    (case l__law_assignments => k_is)
    (case c__law_assignments => k_is)
    (case k__law_assignments => k_is)
    (case a__law_clause_holds => k_is)
    (case l__law_clause_holds => k_is)
    (case c__law_clause_holds => k_is)
    (case k__law_clause_holds => k_is)
    (case a__law_matrix => k_is)
    (case l__law_matrix => k_is)
    (case c__law_matrix => k_is)
    (case k__law_matrix => k_is)
    (case a__law_counts => k_is)
    (case l__law_counts => k_is)
    (case c__law_counts => k_is)
    (case k__law_counts => k_is)
    (case a__law_raw => k_is)
    (case l__law_raw => k_is)
    (case c__law_raw => k_is)
    (case k__law_raw => k_is)
    (case a__law_numbered => k_is)
    (case l__law_numbered => k_is)
    (case c__law_numbered => k_is)
    (case k__law_numbered => k_is)
    (case a__law_due => k_is)
    (case l__law_due => k_is)
    (case c__law_due => k_is)
    (case k__law_due => k_is)
    (case a__law_asked => k_is)
    (case l__law_asked => k_is)
    (case c__law_asked => k_is)
    (case k__law_asked => k_is)
    (case a__law_wide => k_is)
    (case l__law_wide => k_is)
    (case c__law_wide => k_is)
    (case k__law_wide => k_is)
    (case a_law => k_is)
    (case l_law => k_is)
    (case c_law => k_is)
    (case k_law => k_is)
    (case a_PIECE => k_is)
    (case a_TRUE => k_is)
    (case l_TRUE => k_is)
    (case aC_TooLarge => k_is)
    (case xC_TooLarge => k_is)
    (case hv_TooLarge => first | rfl | decide +kernel)
    (case sa_TooLarge => k_is)
    (case eC_TooLarge => k_is)
    (case tC_TooLarge => k_is)
    (case kC_TooLarge => k_is)
    (case up_TooLarge => ks_is)
    (case vs_TooLarge => k_is)
    (case ow_TooLarge => k_is)
    (case oq_TooLarge => k_is)
    (case iC_TooLarge => k_is)
    (case tI_TooLarge => k_is)
    (case lI_TooLarge => k_is)
    (case cI_TooLarge => k_is)
    (case lc_TooLarge => k_is)
    (case vf_TooLarge => rfl)
    (case hf_TooLarge => first | rfl | decide +kernel)
    (case ht_TooLarge => first | rfl | decide +kernel)
    (case ce_TooLargex => k_is)
    (case no_TooLarge_limit => k_is)
    (case ga_TooLarge => k_is)
    (case gg_TooLarge => k_is)
    (case hd_TooLarge => k_is)
    (case ic_TooLarge => k_is)
    (case cc_TooLargec => k_is)
    (case cn_TooLarge => k_is)
    (case ck_TooLarge => k_is)
    (case mo_TooLarge => k_is)
    (case sC_TooLarge => first | rfl | k_is)
    (case z_len => k_is)
    (case z_int => k_is)
    (case z_range => k_is)
    (case z_tuple => k_is)
    (case z_isinstance => k_is)
    (case z_dict => k_is)
    (case z_list => k_is)
    (case z_str => k_is)
    (case z_enumerate => k_is)
    (case z_max => k_is)
    (case z_all => k_is)
    (case z_super => k_is)
    (case d_matrix_clauses => k_is)

