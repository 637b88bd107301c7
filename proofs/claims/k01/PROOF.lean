import PyProof.Rows.All
import Wide.All
import OpenK.AllK
import Wide.FinOn
import HandS.ForMost
import HandS.Style
import HandS.TupAny
import HandS.TupMul
import HandS.Zip
import HandS.Wide
import HandS.WideBits
import HandS.IsInst
import HandS.GenYield
import PyProof.Draws
import HandS.SetBool
import HandS.TupSets
import KE.SortData
import KE.LtSeq
import HandS.GenList
import HandS.NoneIn
import HandS.SlotsOwn
import HandS.More
import KE.KCallOwn
import KE.KOpsOwn
import OpenK.KOps
import PyProof.InstEq
import PyProof.TupleOps
import HandS.Property
import HandS.Exc
import HandS.TryMany
import HandS.ExcInit
import HandS.ExcField
import HandS.ExcOwn
import HandS.WordsExc
import KE.KExcInit
import HandS.Lambda
import PyProof.ReprRoads
import HandS.EndOwn
import KE.KNest
import HandS.CallLocal
import PyProof.ExcClass
import PyProof.RulesRaise
import PyProof.FactsTree
import PyProof.InstStoreFacts
import HandS.ExcValue
import HandS.ExcIs
import HandS.DictComp
import HandS.List
import KE.IntBitsLaws
import KE.KExcLine
import PySem.Challenge.RW_roomlines_k01_errors_and_what_they_keep
/-! S1 -/
set_option Elab.async false
set_option linter.all false
set_option maxRecDepth 100000
set_option maxHeartbeats 2000000
namespace HT
open PySem PySem.Spec PyProof.Rows
section
variable {prog : Program} {w : World} {A : Around} {E : Value → Shared → Prop} {s : Shared}
theorem rev_pick (items : Array Value) : ((List.range items.size).filterMap fun (k : Nat) => items[(((items.size : Int) - 1) + (k : Int) * (-1)).toNat]?).toArray = items.toList.reverse.toArray := by
  have h := PySem.W.krv_pick items
  unfold slicePick at h
  rw [PySem.W.krv_bounds] at h
  rw [← h]
  show _ = ((sliceRange ((items.size : Int) - 1) (-1) (-1)).filterMap (items[·]?)).toArray
  rw [PySem.W.krv_sliceRange, List.filterMap_map]
  congr 1
  have e : ∀ l : List Nat, (∀ k ∈ l, k < items.size) → l.filterMap (fun (k : Nat) => items[(((items.size : Int) - 1) + (k : Int) * (-1)).toNat]?) = l.filterMap ((fun x => items[x]?) ∘ fun k => items.size - 1 - k) := by
    intro l
    induction l with
    | nil => intro _; rfl
    | cons a l ih =>
      intro hl
      have ha := hl a List.mem_cons_self
      have e1 : (((items.size : Int) - 1) + (a : Int) * (-1)).toNat = items.size - 1 - a := by omega
      have q := ih fun k hk => hl k (List.mem_cons_of_mem _ hk)
      rw [List.filterMap_cons, List.filterMap_cons, e1, q]
      rfl
  exact e _ fun k hk => List.mem_range.mp hk
theorem getItem_tuple_rev {t sl : Addr} {items : Array Value} {tk : Tok} {Q : Value → Shared → Prop} (ht : IsTup s.heap t items) (hs : s.heap.IsSliceOf sl .none .none (.int (-1) tk))
    (h : Q (.ref s.heap.objs.size) { s with heap := s.heap.push { cls := .type "tuple", data := .seq items.toList.reverse.toArray } })
    (hsz : items.size ≤ sizeLine) : wpAny (model prog w) A (getItem (.ref t) (.ref sl)) Q E s := by
  have htake : sizeOk (.seq items.toList.reverse.toArray) := by
    show items.toList.reverse.toArray.size ≤ sizeLine
    rw [List.size_toArray, List.length_reverse, Array.length_toList]
    exact hsz
  obtain ⟨os, hos, hcs, hds⟩ := id hs
  have hTs : s.TypeIs (.ref sl) "slice" := ⟨os, hos, hcs⟩
  unfold getItem
  try with_reducible refine wpAny_holding ?_
  first | refine wpAny_bind (wpAny_pure ?_) | skip
  refine wpAny_bind (wpAny_sequenceKey ht.typeIs (by decide) ?_)
  refine wpAny_bind (wpAny_callSpecial?_slot (name := Str.ofString "__getitem__") ht.typeIs PyProof.Rows.slot_tuple_getitem
    (wpAny_call_entry PyProof.Rows.slot_tuple_getitem ht.typeIs entry_tuple_getitem ?_ (args_tuple_getitem _ _)))
  show wpAny _ _ (Builtin.Tuple.tupleItemsOf (.ref t) >>= _) _ _ s
  refine wpAny_bind (tupleItemsOf_ ht ?_)
  refine wpAny_bind (wpAny_typeOf hTs ?_)
  rw [if_pos (by decide)]
  have sa : ∀ {A : Around} {E : Value → Shared → Prop} {Q : Int × Int × Nat → Shared → Prop}, Q (((items.size : Int) - 1), -1, items.size) s → wpAny (model prog w) A (Builtin.Slice.sliceApplied (.ref sl) (pure (items.size : Int))) Q E s := by
    intro A E Q h
    unfold Builtin.Slice.sliceApplied Builtin.Slice.sliceFields
    refine wpAny_bind (wpAny_bind (wpAny_field hos hds (x := .none) rfl (wpAny_bind (wpAny_field hos hds (x := .none) rfl (wpAny_bind (wpAny_field hos hds (x := .int (-1) tk) rfl (wpAny_pure ?_)))))))
    refine wpAny_bind (slicePart_int ?_)
    show wpAny _ _ (if ((-1 : Int) == 0) = true then _ else _) _ _ s
    rw [if_neg (by decide)]
    refine wpAny_bind (slicePart_none (wpAny_bind (slicePart_none (wpAny_bind (wpAny_pure ?_)))))
    show wpAny _ _ (pure (((items.size : Int) - 1), (-1 : Int), Builtin.Slice.slicePlaces ((items.size : Int) - 1) (-1) (-1))) _ _ s
    have e : Builtin.Slice.slicePlaces ((items.size : Int) - 1) (-1) (-1) = items.size := by
      unfold Builtin.Slice.slicePlaces
      have h1 : ¬ ((-1 : Int) > 0) := by decide
      simp only [h1, if_false]
      rw [show (- -1 : Int) = 1 by decide, Int.ediv_one]
      split <;> omega
    rw [e]
    exact wpAny_pure h
  refine wpAny_bind (sa ?_)
  have hno : ¬ ((((items.size : Int) - 1) == 0 && (-1 : Int) == 1 && items.size == items.size) = true) := by
    intro q
    rw [Bool.and_eq_true, Bool.and_eq_true] at q
    exact absurd (eq_of_beq q.1.2) (by decide)
  show wpAny _ _ (if (((items.size : Int) - 1) == 0 && (-1 : Int) == 1 && items.size == items.size) = true then _ else _) _ _ s
  rw [if_neg hno, rev_pick]
  first
    | exact wpAny_bind (m := Builtin.Tuple.tupleExact _) (wpAny_newObj_type (wpAny_pure ⟨_, rfl, wpAny_pure h⟩) htake)
    | exact wpAny_bind (m := Builtin.Tuple.tupleExact _) (wpAny_newObj_type (wpAny_bind (wpAny_pure (wpAny_pure ⟨_, rfl, wpAny_pure h⟩))) htake)
    | exact wpAny_bind (wpAny_bind (m := Builtin.Tuple.tupleExact _) (wpAny_newObj_type (wpAny_pure (wpAny_pure ⟨_, rfl, wpAny_pure h⟩)) htake))
    | exact wpAny_bind (wpAny_bind (m := Builtin.Tuple.tupleExact _) (wpAny_newObj_type (wpAny_pure ⟨_, rfl, wpAny_pure h⟩) htake))
end
end HT
namespace L2
open PySem PySem.Spec PyProof.Rows
section
variable {X : Cx}
/-- t[::-1] -/
def tRevT (K : PySem.W.Frag) (te : TE) : TE := fun σ H Q => te σ H fun x H1 => ∃ a xs, x = .ref a ∧ SqT K H1 a xs ∧ ∀ p, H1 p = none → Q (.ref p) (upd H1 p (.tup xs.reverse))
theorem pe_revT {e : Expr} {te : TE} {k : Nat} {p1 p2 p3 pos : Pos} (he : PE X e te) : PE X (.Subscript e (.Slice none none (some (.UnaryOp .USub (.Constant (.int 1) k p1) p2)) p3) pos) (tRevT X.K te) := by
  refine ⟨fun pins s σ H Q I h => ?_⟩
  refine Subscript_ (thn (he.run pins s σ H _ I h) fun v s1 ⟨x, H1, I1, r1, q1⟩ => ?_)
  obtain ⟨a, xs, ex, hx, q⟩ := q1
  subst ex
  cases r1
  have hst : PO X (some (.UnaryOp .USub (.Constant (.int 1) k p1) p2)) (tPart (tUn (rU fun i => .int (-i)) (tC (.int 1)))) := po_some (pe_un un_neg pe_int)
  refine wpAny_Slice (thn (po_none.run pins s1 σ H1 (fun o H2 => o = none ∧ H2 = H1) I1 ⟨rfl, rfl⟩) fun vl s2 ⟨l, H2, I2, pl, el, e2⟩ => ?_)
  subst el e2
  refine thn (po_none.run pins s2 σ H2 (fun o H3 => o = none ∧ H3 = H2) I2 ⟨rfl, rfl⟩) fun vu s3 ⟨u, H3, I3, pu, eu, e3⟩ => ?_
  subst eu e3
  refine thn (hst.run pins s3 σ H3 (fun o H4 => o = some (-1) ∧ H4 = H3) I3 ⟨1, rfl, -1, rfl, rfl, rfl⟩) fun vs s4 ⟨o, H4, I4, ps, eo, e4⟩ => ?_
  subst eo e4
  have I5 : Inv X pins σ H4 { s4 with heap := s4.heap.push { cls := .type "slice", data := .fields #[vl, vu, vs] } } := I4.kept (t' := s4.toks) fun b ob q => Heap.get?_push_of_some _ q
  obtain ⟨its, r, ht, hz⟩ := I5.tuple hx
  have hlen := r.length
  cases pl
  cases pu
  cases ps with
  | int _ tk =>
    show wpAny (model X.prog X.w) X.A (subscriptTail e (.Slice none none (some (.UnaryOp .USub (.Constant (.int 1) k p1) p2)) p3) (.ref a) (.ref s4.heap.objs.size)) (EP X pins σ Q) X.xe { s4 with heap := s4.heap.push { cls := .type "slice", data := .fields #[.none, .none, .int (-1) tk] } }
    refine tail_any (ops := [.ref a, .ref s4.heap.objs.size]) ht.typeIs (PyProof.Rows.slot_tuple_getitem.lookup) ?_ (by with_unfolding_all rfl)
    refine HT.getItem_tuple_rev ht (Heap.IsSliceOf.new _ .none .none (.int (-1) tk)) ?_ (by rw [List.size_toArray]; omega)
    refine ⟨.ref _, _, I5.laid (t' := s4.toks) (o := .tup xs.reverse) (fun b ob q => Heap.get?_push_of_some _ q) (Nat.le_refl _) ?_, rfl, q _ (I5.hok.fresh (Nat.le_refl _))⟩
    refine ⟨by rw [List.length_reverse]; exact hz, _, r.reverse, ?_⟩
    exact IsTup.new _ _
end
end L2
/-! S2 -/
set_option Elab.async false
set_option linter.all false
set_option maxRecDepth 100000
set_option maxHeartbeats 2000000
namespace HT
open PySem PySem.Spec PyProof.Rows
theorem meets_enumerate_newT (l : Addr) (items : Array Value) (n : Nat) (dct : Option Addr) (sl : Array (Option Value)) :
    Meets (Builtin.«enumerate.__new__» ⟨[.type "enumerate", .ref l], []⟩) (fun _ R s => s.heap.get? l = some { cls := .type "tuple", dict := dct, data := .seq items n, slots := sl } ∧
      R (.ok (.ret (.ref (s.heap.push { cls := .type "tuple_iterator", data := .fields #[.ref l, .int 0 0] }).objs.size)))
        { s with heap := (s.heap.push { cls := .type "tuple_iterator", data := .fields #[.ref l, .int 0 0] }).push { cls := .type "enumerate", data := .fields #[.none, .bool false, .ref s.heap.objs.size, rawInt 0, .none, .none] } }) :=
  .of_wp fun prog w A R s h => by
    obtain ⟨hp, g, d, tk, os⟩ := s; obtain ⟨hl, h⟩ := h
    have hsub := sub_enumerate
    have hL : Heap.IsTuple (Shared.heap ⟨hp, g, d, tk, os⟩) l items := ⟨_, hl, rfl, n, rfl⟩
    wp_walk using wpAny_loadPart' hl
    refine wpAny_stack_any fun st => wpAny_pure ?_
    split
    · rename_i c _ _ _ _ _
      cases (c == Value.type "enumerate")
      · wp_walk using wpAny_loadPart' hl, wpAny_pyIter_tuple hL
        exact ⟨_, rfl, h⟩
      · wp_walk using wpAny_loadPart' hl, wpAny_pyIter_tuple hL
        exact ⟨_, rfl, h⟩
    · wp_walk using wpAny_loadPart' hl, wpAny_pyIter_tuple hL
      exact ⟨_, rfl, h⟩
end HT
namespace HT
open PySem PySem.Spec PyProof.Rows
section
variable {prog : Program} {w : World} {A : Around} {E : Value → Shared → Prop} {s : Shared}
theorem call_enumerate_tup {l : Addr} {items : Array Value} {Q : Value → Shared → Prop} (hL : IsTup s.heap l items)
    (h : ∀ h', IsEnum h' (s.heap.objs.size + 1) s.heap.objs.size 0 .none → h'.IsTupleIter s.heap.objs.size l 0 → h'.objs.size = s.heap.objs.size + 2 →
      (∀ b o, s.heap.get? b = some o → h'.get? b = some o) → Q (.ref (s.heap.objs.size + 1)) { s with heap := h' }) :
    wpAny (model prog w) A (call (.type "enumerate") [.ref l]) Q E s := by
  obtain ⟨⟨c, dct, dt, sl⟩, hl, hc, n, hd⟩ := hL
  replace hc : c = .type "tuple" := hc
  replace hd : dt = .seq items n := hd
  subst hc hd
  refine callType_new F.called_enumerate (by decide) (F.typeCall_enumerate_1 _) (F.newCall_enumerate_1 _) (fun obj => F.args_object_init_2 obj _) F.entry_enumerate_new
    (meets_enumerate_newT l items n dct sl) ⟨hl, ?_⟩
  have hz : (s.heap.push { cls := .type "tuple_iterator", data := .fields #[.ref l, .int 0 0] }).objs.size = s.heap.objs.size + 1 := Heap.size_push ..
  show _ ∧ _
  rw [hz]
  have he : IsEnum ((s.heap.push { cls := .type "tuple_iterator", data := .fields #[.ref l, .int 0 0] }).push
      { cls := .type "enumerate", data := .fields #[.none, .bool false, .ref s.heap.objs.size, rawInt 0, .none, .none] }) (s.heap.objs.size + 1) s.heap.objs.size 0 .none := by
    have := Heap.get?_push_size (s.heap.push { cls := .type "tuple_iterator", data := .fields #[.ref l, .int 0 0] })
      (o := { cls := .type "enumerate", data := .fields #[.none, .bool false, .ref s.heap.objs.size, rawInt 0, .none, .none] }) rfl
    rw [hz] at this; exact this
  refine ⟨⟨_, he, rfl⟩, h _ he ⟨_, Heap.get?_push_of_some _ (Heap.get?_push_size _ rfl), rfl, rfl⟩ (by rw [Heap.size_push, hz]) fun b o x => Heap.get?_push_of_some _ (Heap.get?_push_of_some _ x)⟩
theorem nextOf_tup_item {it t : Addr} {i : Nat} {items : Array Value} {x : Value} {Q : Value → Shared → Prop} (hit : s.heap.IsTupleIter it t i) (ht : IsTup s.heap t items) (hx : items[i]? = some x)
    (hQ : ∀ h', h'.IsTupleIter it t (i + 1) → Heap.SameBut it s.heap h' → Q x { s with heap := h' }) :
    wpAny (model prog w) A (Builtin.SmallTypes.nextOf (.ref it)) Q E s := by
  obtain ⟨o, ho, hc, hd⟩ := id hit
  obtain ⟨ol, hol, _, nl, hdl⟩ := ht
  unfold Builtin.SmallTypes.nextOf
  refine wpAny_bind (wpAny_callSpecial?_slot (name := Str.ofString "__next__") hit.typeIs slot_tupleiter_next (wpAny_call_entry slot_tupleiter_next hit.typeIs entry_tupleiter_next ?_ (args_tupleiter_next _)))
  show wpAny _ _ (field (.ref it) 0 >>= _) _ _ s
  refine wpAny_bind (wpAny_field ho hd (x := .ref t) rfl ?_)
  show wpAny _ _ (if (Value.ref t == Value.none) = true then _ else _) _ _ s
  rw [if_neg (show ¬ ((Value.ref t == Value.none) = true) from Bool.false_ne_true)]
  show wpAny _ _ (field (.ref it) 1 >>= _) _ _ s
  refine wpAny_bind (wpAny_field ho hd (x := .int i 0) rfl ?_)
  show wpAny _ _ (seqItems? (.ref t) >>= _) _ _ s
  refine wpAny_bind (wpAny_seqItems hol hdl ?_)
  simp only [Int.toNat_natCast, hx]
  refine wpAny_bind (wpAny_setField ho hd (by simp) (wpAny_pure ⟨x, rfl, wpAny_pure (hQ _ ?_ (Heap.SameBut.update ..))⟩))
  exact ⟨_, Heap.get?_update_self _ ho (Obj.isFreed_of_fields (Obj.data_mapFields hd _)), (Obj.cls_mapFields ..).trans hc, by
    rw [Obj.data_mapFields hd]; simp [rawInt]⟩
theorem nextOf_tup_end {it t : Addr} {i : Nat} {items : Array Value} {Q : Value → Shared → Prop} (hh : A.handled = none) (hit : s.heap.IsTupleIter it t i) (ht : IsTup s.heap t items) (hx : items[i]? = none)
    (hE : ∀ h' e, Heap.ExtBut it s.heap h' → (∃ o, h'.get? e = some o ∧ o.cls = .type "StopIteration") → E (.ref e) { s with heap := h' }) :
    wpAny (model prog w) A (Builtin.SmallTypes.nextOf (.ref it)) Q E s := by
  obtain ⟨o, ho, hc, hd⟩ := id hit
  obtain ⟨ol, hol, _, nl, hdl⟩ := ht
  unfold Builtin.SmallTypes.nextOf
  refine wpAny_bind (wpAny_callSpecial?_slot (name := Str.ofString "__next__") hit.typeIs slot_tupleiter_next (wpAny_call_entry slot_tupleiter_next hit.typeIs entry_tupleiter_next ?_ (args_tupleiter_next _)))
  show wpAny _ _ (field (.ref it) 0 >>= _) _ _ s
  refine wpAny_bind (wpAny_field ho hd (x := .ref t) rfl ?_)
  show wpAny _ _ (if (Value.ref t == Value.none) = true then _ else _) _ _ s
  rw [if_neg (show ¬ ((Value.ref t == Value.none) = true) from Bool.false_ne_true)]
  show wpAny _ _ (field (.ref it) 1 >>= _) _ _ s
  refine wpAny_bind (wpAny_field ho hd (x := .int i 0) rfl ?_)
  show wpAny _ _ (seqItems? (.ref t) >>= _) _ _ s
  refine wpAny_bind (wpAny_seqItems hol hdl ?_)
  simp only [Int.toNat_natCast, hx]
  refine wpAny_bind (wpAny_rule (wpAny_bind (wpAny_setField ho hd (by simp) ?_)))
  show wpAny _ _ (newExc (.type "StopIteration") [] >>= _) _ _ _
  refine wpAny_bind ?_
  simp only [newExc, newTuple]
  refine wpAny_bind (wpAny_newObj_type ?_ (by size_fits))
  refine wpAny_bind (m := firstArgMember _ _) (wpAny_of_eq (a := Value.none) (by first | rfl | (simp only [firstArgMember]; rfl)) ?_)
  refine wpAny_newObj_type ?_ (by size_fits)
  simp only [raiseNew]
  refine wpAny_bind (wpAny_handled ?_)
  first | rw [show A.in1.handled = none from hh] | rw [hh]
  refine wpAny_bind (wpAny_pure (wpAny_throw ?_))
  exact hE _ _ (((Heap.SameBut.update ..).extBut.push _).push _) ⟨_, Heap.get?_push_size _ rfl, rfl⟩
end
theorem draws_tup {prog : Program} {w : World} {A : Around} (hh : A.handled = none) (it l : Addr) (hne : l ≠ it) (items : Array Value) :
    Draws prog w A it [it, l] items.size (fun i v => items[i]? = some v) (fun i h => h.IsTupleIter it l i ∧ IsTup h l items) where
  live := fun _ _ st => let ⟨o, ho, _⟩ := st.1; ⟨o, ho⟩
  frame := fun _ _ _ st hk => ⟨let ⟨o, ho, r⟩ := st.1; ⟨o, hk it (by simp) o ho, r⟩, let ⟨o, ho, r⟩ := st.2; ⟨o, hk l (by simp) o ho, r⟩⟩
  item := fun i s Q E hi st hQ => by
    refine nextOf_tup_item st.1 st.2 (x := items[i]) (by simp [hi]) fun h' hit' hs' => ?_
    exact hQ _ h' s.toks (by simp [hi]) ⟨hit', let ⟨o, ho, r⟩ := st.2; ⟨o, hs'.2 l hne ▸ ho, r⟩⟩ hs'
  done := fun s Q E st hE => nextOf_tup_end hh st.1 st.2 (by simp) hE
end HT
/-! S3 -/
set_option Elab.async false
set_option linter.all false
set_option maxRecDepth 100000
set_option maxHeartbeats 2000000
namespace L2
open PySem PySem.Spec PyProof.Rows
/-- the tuple at a as it stands at each turn, each item in a new pair -/
def IteT (K : PySem.W.Frag) (a : Addr) : It :=
  ⟨fun i H => ∃ (xs : List V) (x : V), SqT K H a xs ∧ xs[i]? = some x, fun i H v H' => ∃ T x, v = .ref T ∧ H T = none ∧ H' = upd H T (.tup [.int (i : Nat), x]) ∧ ∀ xs, SqT K H a xs → xs[i]? = some x, fun i H => ∃ xs : List V, SqT K H a xs ∧ xs.length ≤ i⟩
theorem turn_enumT {P : Program} {w : World} {K : PySem.W.Frag} {elts : List Expr} {kk : Nat} {tpos : Pos} (a e it : Addr) :
    Turn P w K (.Tuple elts kk tpos) (IteT K a) [e, it] e (fun i h => (∃ old, IsEnum h e it ((i : Nat) : Int) old) ∧ h.IsTupleIter it a i ∧ e ≠ it) where
  mem := by simp
  obj := fun i h st b hb => by
    obtain ⟨⟨old, he⟩, ⟨o, ho, hc, hd⟩, _⟩ := st
    have e' : b = e ∨ b = it := by simpa using hb
    rcases e' with z | z
    · rw [z]; exact ⟨_, he, fun v q => nomatch q⟩
    · rw [z]; exact ⟨o, ho, fun v q => by rw [hd] at q; cases q⟩
  keep := fun i h h' st k => let ⟨⟨old, he⟩, ⟨o, ho, r⟩, hne⟩ := st; ⟨⟨old, k e (by simp) _ he⟩, ⟨o, k it (by simp) o ho, r⟩, hne⟩
  item := by
    intro X hP hw hK hc i pins s σ H E I hf st hg
    subst hP hw hK
    obtain ⟨⟨old, he⟩, hit, hne⟩ := st
    obtain ⟨xs, x, hq, hx⟩ := hg
    obtain ⟨its, rv, p, hz⟩ := I.tuple hq
    obtain ⟨u, hu, ru⟩ := rv.get hx
    have hel : e < s.heap.objs.size := Heap.lt_size he
    have hil : it < s.heap.objs.size := by obtain ⟨_, q, _⟩ := hit; exact Heap.lt_size q
    have hae : a ≠ it := fun z => by
      obtain ⟨o, ho, c, _⟩ := hit
      obtain ⟨o', ho', c', _⟩ := p
      rw [z, ho] at ho'
      cases ho'
      rw [c] at c'
      exact absurd (Value.type.inj c') (by decide)
    have haE : e ∉ [it, a] := fun z => by
      have z' : e = it ∨ e = a := by simpa using z
      rcases z' with z | z
      · exact hne z
      · obtain ⟨o', ho', c', _⟩ := p
        have he' : s.heap.get? e = some _ := he
        rw [z, ho'] at he'
        have c2 := Option.some.inj he'
        rw [c2] at c'
        exact absurd (Value.type.inj c') (by decide)
    have hil2 : i < its.toArray.size := by
      rw [List.size_toArray]
      exact (List.getElem?_eq_some_iff.mp hu).1
    have D := HT.draws_tup (prog := X.prog) (w := X.w) (A := X.A.in1) (I.ok.hd hc) it a hae its.toArray
    refine wpAny_pyNext_enum_itemD D he ⟨hit, p⟩ hil2 hne haE fun y h' tk hy ho hit' hT hsz hk => ?_
    have ey : y = u := by
      have hy' : its.toArray[i]? = some y := hy
      rw [List.getElem?_toArray, hu] at hy'
      exact (Option.some.inj hy').symm
    subst ey
    have ho' : IsEnumOut h' e it ((i : Int) + 1) y s.heap.objs.size := ho
    refine ⟨_, rfl, wpAny_letOwnedTupleGo_enum (s := { s with heap := h', toks := tk + 1 }) ho' fun h'' he' sb => ?_⟩
    have hT2 : h''.get? s.heap.objs.size = some { cls := .type "tuple", data := .seq #[.int i tk, y] } := (sb.2 _ (Nat.ne_of_gt hel)).trans hT
    have new : ObjOk X.prog X.w (upd H s.heap.objs.size (.tup [.int (i : Nat), x])) h'' s.heap.objs.size (.tup [.int (i : Nat), x]) :=
      ⟨by show 2 ≤ sizeLine; decide, [.int i tk, y], .cons ⟨_, rfl⟩ (.cons ru .nil), ⟨_, hT2, rfl, _, rfl⟩⟩
    have I1 : Inv X pins σ (upd H s.heap.objs.size (.tup [.int (i : Nat), x])) { s with heap := h'', toks := tk + 1 } :=
      I.turnedNew (ch := [e, it]) (fun b ob hb q => (sb.2 b (fun z => hb (by simp [z]))).trans (hk b ob (fun z => hb (by simp [z])) (fun z => hb (by simp [z])) q)) hf (Nat.le_refl _) new
    refine ⟨.ref s.heap.objs.size, _, I1, rfl, ⟨_, x, rfl, I.hok.fresh (Nat.le_refl _), rfl, fun ys hy => by rw [I.tuple_inj hy hq]; exact hx⟩, ⟨⟨y, ?_⟩, ?_, hne⟩, fun b hb => ?_⟩
    · have e1 : ((i + 1 : Nat) : Int) = (i : Int) + 1 := by omega
      rw [e1]; exact he'
    · obtain ⟨o, ho2, r⟩ := hit'.1
      exact ⟨o, (sb.2 it (Ne.symm hne)).trans ho2, r⟩
    · have hb' : b < s.heap.objs.size := by
        have e' : b = e ∨ b = it := by simpa using hb
        rcases e' with z | z
        · rw [z]; exact hel
        · rw [z]; exact hil
      rw [upd_ne (Nat.ne_of_lt hb')]
      exact (hf b hb).1
  done := by
    intro X hP hw hK hc i pins s σ H E I hf st hg
    subst hP hw hK
    obtain ⟨⟨old, he⟩, hit, hne⟩ := st
    obtain ⟨xs, hq, hx⟩ := hg
    obtain ⟨its, rv, p, hz⟩ := I.tuple hq
    obtain ⟨f0, f1, f2, f3, f4, f5⟩ := hf it (by simp)
    have hl := rv.length
    have hT : s.TypeIs (.ref e) "enumerate" := ⟨_, he, rfl⟩
    unfold pyNext
    refine wpAny_bind (wpAny_attempt (wpAny_callSpecial?_slot (name := Str.ofString "__next__") hT F.slot_enumerate_next
      (wpAny_call_entry F.slot_enumerate_next hT F.entry_enumerate_next ?_ (F.args_enumerate_next_1 _))))
    show wpAny _ _ (field (.ref e) 2 >>= _) _ _ _
    refine wpAny_bind (wpAny_field he rfl (x := .ref it) rfl ?_)
    have hno : its.toArray[i]? = none := by rw [List.getElem?_toArray]; exact List.getElem?_eq_none (by omega)
    refine wpAny_bind (HT.nextOf_tup_end (I.ok.hd hc) hit p hno fun h' x he' hx' => ?_)
    obtain ⟨o, ho, hc⟩ := hx'
    refine wpAny_bind (wpAny_isInstance (T := "StopIteration") (b := true) ⟨o, ho, hc⟩ isSubtype_stop ?_)
    exact wpAny_pure ⟨rfl, I.turned (t' := s.toks) (fun b o hb q => he' b o hb q) f0 f1 f3 f4 f5⟩
  self := fun A i s Q E st h => let ⟨⟨_, he⟩, _⟩ := st; wpAny_pyIter_enum he h
def iEnumT (K : PySem.W.Frag) (ta : TA) : TI := fun σ H R => ta σ H fun vs H1 => ∃ a xs, vs = [.ref a] ∧ SqT K H1 a xs ∧ R (IteT K a) H1
theorem pi_enumT {X : Cx} {e : Expr} {ta : TA} {p pos tpos : Pos} {elts : List Expr} {kk : Nat} (hg : Gl X "enumerate") (hm : X.mg "enumerate" = none) (ha : PA X [e] ta) (hs : starEach [e] X.env = [(false, eval e X.env)] := by rfl) :
    PI X (.Tuple elts kk tpos) (.Call (.Name "enumerate" p) [e] [] pos) (iEnumT X.K ta) := by
  refine ⟨fun pins s σ H R I h => ?_⟩
  refine Call_ (ld_blt I hg hm boot_enumerate (PyProof.Rows.callWith_type1 (thn (ha.run pos pins s σ H _ I h) fun us s1 ⟨vs, H1, I1, r1, q1⟩ => ?_) hs rfl))
  obtain ⟨a, xs, ex, hq, q⟩ := q1
  subst ex
  cases r1 with
  | cons r rr =>
    cases rr
    cases r
    obtain ⟨its, rv, p', hz⟩ := I1.tuple hq
    refine HT.call_enumerate_tup p' fun h' he hit hsz hk => wpAny_pyIter_enum he ?_
    have I2 : Inv X pins σ H1 { s1 with heap := h' } := I1.kept (t' := s1.toks) hk
    refine ⟨s1.heap.objs.size + 1, [s1.heap.objs.size + 1, s1.heap.objs.size], _, _, H1, rfl, I2, turn_enumT a (s1.heap.objs.size + 1) s1.heap.objs.size, ⟨⟨.none, he⟩, hit, Nat.succ_ne_self _⟩, fun b hb => ?_, q⟩
    have e' : b = s1.heap.objs.size + 1 ∨ b = s1.heap.objs.size := by simpa using hb
    have hle : s1.heap.objs.size ≤ b := by
      rcases e' with z | z
      · rw [z]; exact Nat.le_add_right _ _
      · rw [z]; exact Nat.le_refl _
    exact I1.fpOk hle (I1.hok.fresh hle)
end L2
/-! S4 -/
set_option Elab.async false
set_option linter.all false
set_option maxRecDepth 100000
set_option maxHeartbeats 2000000
namespace RL
open PySem PySem.Spec PyProof.Rows L2
theorem same_upd {H : Hp} {p : Addr} (h : H p = none) (o : HO) : Same H (upd H p o) := fun b u q => by rw [upd_ne (ne_of_none q h)]; exact q
theorem Same.sqt {K : PySem.W.Frag} {H H' : Hp} {a : Addr} {xs : List V} (e : Same H H') (h : SqT K H a xs) : SqT K H' a xs := by
  rcases h with (h | ⟨o, h⟩) | h
  · exact .inl (.inl (e _ _ h))
  · exact .inl (.inr ⟨o, e _ _ h⟩)
  · exact .inr h
/-- a tuple of xs is handed on, all that was tracked stands -/
def NewT (K : PySem.W.Frag) (H : Hp) (Q : VK) (xs : List V) : Prop := ∀ H' p, Same H H' → SqT K H' p xs → Q (.ref p) H'
theorem NewT.al {K : PySem.W.Frag} {H : Hp} {Q : VK} {xs : List V} (h : NewT K H Q xs) : ∀ p, H p = none → Q (.ref p) (upd H p (.tup xs)) := fun p hp => h _ p (same_upd hp _) (SqT.of upd_same)
theorem NewT.here {K : PySem.W.Frag} {H : Hp} {Q : VK} {xs : List V} (h : NewT K H Q xs) {a : Addr} (ha : SqT K H a xs) : Q (.ref a) H := h H a (Same.refl H) ha
/-- a new list -/
def NewL (H : Hp) (Q : VK) (xs : List V) : Prop := ∀ H' p, Same H H' → H p = none → H' p = some (.lst xs) → Q (.ref p) H'
theorem NewL.al {H : Hp} {Q : VK} {xs : List V} (h : NewL H Q xs) : ∀ p, H p = none → Q (.ref p) (upd H p (.lst xs)) := fun p hp => h _ p (same_upd hp _) hp upd_same

section
variable {X : Cx}
theorem pe_weak {e : Expr} {t t' : TE} (h : PE X e t) (k : ∀ σ H Q, t' σ H Q → t σ H Q) : PE X e t' := ⟨fun pins s σ H Q I q => h.run pins s σ H Q I (k σ H Q q)⟩
theorem opr_weak {f : Value → Value → Sem Value} {r r' : R2} (h : OpR X f r) (k : ∀ x y H Q, r' x y H Q → r x y H Q) : OpR X f r' := fun pins s σ H x y v u Q I rx ry q => h pins s σ H x y v u Q I rx ry (k x y H Q q)
theorem callr_weak {f : Value} {r r' : List V → Hp → VK → Prop} (h : CallR X f r) (k : ∀ xs H Q, r' xs H Q → r xs H Q) : CallR X f r' := fun pins s σ H vs us Q I r q => h pins s σ H vs us Q I r (k _ _ _ q)
theorem slr_weak {r r' : V → Option Int → Option Int → Hp → VK → Prop} (h : SlR X r) (k : ∀ x lo hi H Q, r' x lo hi H Q → r x lo hi H Q) : SlR X r' := fun pins s σ H x v vl vu lo hi sl Q I rx hs pl pu q => h pins s σ H x v vl vu lo hi sl Q I rx hs pl pu (k _ _ _ _ _ q)
/-- a reading whose wish may be weakened -/
def upE (te : TE) : TE := fun σ H Q => ∃ Q0 : VK, te σ H Q0 ∧ ∀ x H1, Q0 x H1 → Q x H1
theorem pe_up {e : Expr} {te : TE} (he : PE X e te) : PE X e (upE te) := ⟨fun pins s σ H Q I q => by
    obtain ⟨Q0, h0, h1⟩ := q
    exact thn (he.run pins s σ H Q0 I h0) fun v s1 ⟨x, H1, I1, r1, q1⟩ => ⟨x, H1, I1, r1, h1 _ _ q1⟩⟩
def upA (t : TA) : TA := fun σ H Q => ∃ Q0 : List V → Hp → Prop, t σ H Q0 ∧ ∀ x H1, Q0 x H1 → Q x H1
theorem pa_up {es : List Expr} {t : TA} (h : PA X es t) : PA X es (upA t) := ⟨fun pos pins s σ H Q I q => by
    obtain ⟨Q0, h0, h1⟩ := q
    exact thn (h.run pos pins s σ H Q0 I h0) fun v s1 ⟨x, H1, I1, r1, q1⟩ => ⟨x, H1, I1, r1, h1 _ _ q1⟩⟩
/-- t + u -/
def rCatS (K : PySem.W.Frag) : R2 := fun x y H Q => ∃ a b xs ys, x = .ref a ∧ y = .ref b ∧ SqT K H a xs ∧ SqT K H b ys ∧ xs.length + ys.length ≤ sizeLine ∧ NewT K H Q (xs ++ ys)
theorem op_catS : OpR X (binaryOp .Add) (rCatS X.K) := opr_weak op_catA fun x y H Q h => by
  obtain ⟨a, b, xs, ys, ex, ey, hx, hy, hz, q⟩ := h
  refine ⟨a, b, xs, ys, ex, ey, hx, hy, hz, fun e => ?_, fun _ e => ?_, fun _ _ => q.al⟩
  · subst e
    exact q.here hy
  · subst e
    rw [List.append_nil] at q
    exact q.here hx
/-- t[i:j] -/
def rSlU (K : PySem.W.Frag) : V → Option Int → Option Int → Hp → VK → Prop := fun x lo hi H Q => ∃ a xs, x = .ref a ∧ SqT K H a xs ∧ NewT K H Q (cutV xs lo hi)
theorem cut_whole {xs : List V} {lo hi : Option Int} (h : HT.sIx xs.length 0 lo = 0 ∧ HT.sIx xs.length xs.length hi = xs.length) : cutV xs lo hi = xs := by
  unfold cutV
  rw [h.1, h.2]
  simp
theorem sl_tupU : SlR X (rSlU X.K) := slr_weak sl_tupA fun x lo hi H Q h => by
  obtain ⟨a, xs, ex, hx, q⟩ := h
  refine ⟨a, xs, ex, hx, fun e => ?_, fun _ => q.al⟩
  rw [cut_whole e] at q
  exact q.here hx
/-- t[::-1] -/
def tRevS (K : PySem.W.Frag) (te : TE) : TE := fun σ H Q => te σ H fun x H1 => ∃ a xs, x = .ref a ∧ SqT K H1 a xs ∧ NewT K H1 Q xs.reverse
theorem pe_revS {e : Expr} {te : TE} {k : Nat} {p1 p2 p3 pos : Pos} (he : PE X e te) : PE X (.Subscript e (.Slice none none (some (.UnaryOp .USub (.Constant (.int 1) k p1) p2)) p3) pos) (tRevS X.K te) :=
  pe_weak (pe_revT (pe_up he)) fun σ H Q q => ⟨_, q, fun x H1 ⟨a, xs, ex, hx, n⟩ => ⟨a, xs, ex, hx, n.al⟩⟩
/-- (a, b, ..), [a, b, ..] -/
def tTupS (K : PySem.W.Frag) (t : TA) : TE := fun σ H Q => t σ H fun xs H1 => xs.length ≤ sizeLine ∧ NewT K H1 Q xs
theorem pe_tupS {es : List Expr} {t : TA} {x1} {pos : Pos} (h : PA X es t) : PE X (.Tuple es x1 pos) (tTupS X.K t) :=
  pe_weak (pe_tup (pa_up h)) fun σ H Q q => ⟨_, q, fun x H1 ⟨z, n⟩ => ⟨z, n.al⟩⟩
def tLstS (t : TA) : TE := fun σ H Q => t σ H fun xs H1 => xs.length ≤ sizeLine ∧ NewL H1 Q xs
theorem pe_lstS {es : List Expr} {t : TA} {pos : Pos} (h : PA X es t) : PE X (.List es pos) (tLstS t) :=
  pe_weak (pe_lst (pa_up h)) fun σ H Q q => ⟨_, q, fun x H1 ⟨z, n⟩ => ⟨z, n.al⟩⟩
/-- xs + ys, xs * k of lists -/
def rCatL : R2 := fun x y H Q => ∃ l b xs zs, x = .ref l ∧ y = .ref b ∧ H l = some (.lst xs) ∧ H b = some (.lst zs) ∧ xs.length + zs.length ≤ sizeLine ∧ NewL H Q (xs ++ zs)
theorem op_catL : OpR X (binaryOp .Add) rCatL := opr_weak op_cat fun x y H Q ⟨l, b, xs, zs, h1, h2, h3, h4, h5, q⟩ => ⟨l, b, xs, zs, h1, h2, h3, h4, h5, q.al⟩
def rRepL : R2 := fun x y H Q => ∃ l k xs, x = .ref l ∧ y = .int k ∧ H l = some (.lst xs) ∧ -(2 ^ 63) ≤ k ∧ k < 2 ^ 63 ∧ xs.length * k.toNat ≤ sizeLine ∧ NewL H Q (List.replicate k.toNat xs).flatten
theorem op_repL : OpR X (binaryOp .Mult) rRepL := opr_weak op_rep fun x y H Q ⟨l, k, xs, h1, h2, h3, h4, h5, h6, q⟩ => ⟨l, k, xs, h1, h2, h3, h4, h5, h6, q.al⟩
/-- xs[i:j] of lists -/
def rSlV (K : PySem.W.Frag) : V → Option Int → Option Int → Hp → VK → Prop := fun x lo hi H Q => ∃ a xs, x = .ref a ∧ SqL K H a xs ∧ NewL H Q (cutV xs lo hi)
theorem sl_lstU : SlR X (rSlV X.K) := slr_weak sl_list fun x lo hi H Q ⟨a, xs, ex, hx, q⟩ => ⟨a, xs, ex, hx, q.al⟩
/-- tuple(xs), list(xs) -/
def rTupOf (K : PySem.W.Frag) : List V → Hp → VK → Prop := fun vs H Q => ∃ p ys, vs = [.ref p] ∧ (SqL K H p ys ∨ SqT K H p ys) ∧ NewT K H Q ys
theorem call_tupS : CallR X (.type "tuple") (rTupOf X.K) := callr_weak call_tuple_of fun vs H Q ⟨p, ys, e, h, q⟩ => ⟨p, ys, e, h.elim (fun h => .inl ⟨h, q.al⟩) (fun h => .inr ⟨h, q.here h⟩)⟩
def rLstOf (K : PySem.W.Frag) : List V → Hp → VK → Prop := fun vs H Q => ∃ p ys, vs = [.ref p] ∧ (SqL K H p ys ∨ SqT K H p ys) ∧ NewL H Q ys
theorem call_lstS : CallR X (.type "list") (rLstOf X.K) := callr_weak call_list_of fun vs H Q ⟨p, ys, e, h, q⟩ => ⟨p, ys, e, h, q.al⟩
def rDivmod (K : PySem.W.Frag) : List V → Hp → VK → Prop := fun vs H Q => ∃ i j, vs = [.int i, .int j] ∧ CDivP i j ∧ NewT K H Q [.int (i / j), .int (i % j)]
theorem call_divmodS : CallR X (.builtin "divmod") (rDivmod X.K) := callr_weak call_divmodW fun vs H Q ⟨i, j, e, c, q⟩ => ⟨i, j, e, c, q.al⟩
end
end RL
/-! S5 -/
set_option Elab.async false
set_option linter.all false
set_option maxRecDepth 100000
set_option maxHeartbeats 2000000
namespace RL
open PySem PySem.Spec PyProof.Rows L2
theorem tuple_mul0 (l : Addr) (items : Array Value) (n : Nat) (dd : Option Addr) (sl : Array (Option Value)) (x : Int) (u : Tok) (c0 : (decide (x < -(2 ^ 63)) || decide (x ≥ 2 ^ 63)) = false) (c1 : (items.isEmpty || x == 1) = false) (c2 : (decide (x ≤ 0) || items.isEmpty) = true) :
    Meets (Builtin.«tuple.__mul__» ⟨[.ref l, .int x u], []⟩) (fun _ R s => s.heap.get? l = some { cls := .type "tuple", dict := dd, data := .seq items n, slots := sl } ∧
      R (.ok (.ret (Value.ref s.heap.objs.size))) { s with heap := s.heap.push { cls := Value.type "tuple", data := Data.seq #[] }, toks := s.toks }) :=
  .of_wp fun prog w A R s h => by
    obtain ⟨hp, g, d, tk, os⟩ := s
    obtain ⟨hl, h⟩ := h
    have f1 := AutoSeq1.idx_int
    wp_walk using wpAny_loadPart' hl
    repeat (first
      | (refine wpAny_ite_false (decide_eq_false (by rw [c0]; exact Bool.false_ne_true)) ?_; wp_walk using wpAny_loadPart' hl)
      | (refine wpAny_ite_false (decide_eq_false (by rw [c1]; exact Bool.false_ne_true)) ?_; wp_walk using wpAny_loadPart' hl)
      | (refine wpAny_ite_true (decide_eq_true c2) ?_; wp_walk using wpAny_loadPart' hl))
    exact ⟨_, rfl, h⟩
theorem tuple_mul1 (l : Addr) (items : Array Value) (n : Nat) (dd : Option Addr) (sl : Array (Option Value)) (x : Int) (u : Tok) (c0 : (decide (x < -(2 ^ 63)) || decide (x ≥ 2 ^ 63)) = false) (c1 : (items.isEmpty || x == 1) = true) :
    Meets (Builtin.«tuple.__mul__» ⟨[.ref l, .int x u], []⟩) (fun _ R s => s.heap.get? l = some { cls := .type "tuple", dict := dd, data := .seq items n, slots := sl } ∧
      R (.ok (.ret (Value.ref l))) s) :=
  .of_wp fun prog w A R s h => by
    obtain ⟨hp, g, d, tk, os⟩ := s
    obtain ⟨hl, h⟩ := h
    have f1 := AutoSeq1.idx_int
    wp_walk using wpAny_loadPart' hl
    repeat (first
      | (refine wpAny_ite_false (decide_eq_false (by rw [c0]; exact Bool.false_ne_true)) ?_; wp_walk using wpAny_loadPart' hl)
      | (refine wpAny_ite_true (decide_eq_true c1) ?_; wp_walk using wpAny_loadPart' hl))
    exact ⟨_, rfl, h⟩
/-- t * k, k any number to 1000 -/
def rRepS (K : PySem.W.Frag) : R2 := fun x y H Q => ∃ l k xs, x = .ref l ∧ y = .int k ∧ SqT K H l xs ∧ -(2 ^ 62) ≤ k ∧ k ≤ 1000 ∧ xs.length ≤ 1000 ∧ NewT K H Q (List.replicate k.toNat xs).flatten
section
variable {X : Cx}
theorem op_repS : OpR X (binaryOp .Mult) (rRepS X.K) := by
  intro pins s σ H x y v u Q I rx ry h
  obtain ⟨l, k, xs, rfl, rfl, hT, h1, h2, hz, q⟩ := h
  by_cases hbig : xs ≠ [] ∧ 2 ≤ k
  · exact op_repT pins s σ H _ _ v u Q I rx ry ⟨l, k, xs, rfl, rfl, hT, hbig.1, hbig.2, h2, hz, q.al⟩
  cases rx
  obtain ⟨t, rfl⟩ := ry
  obtain ⟨its, r, ht⟩ := I.tuple hT
  obtain ⟨⟨⟨cls, dd, data, sl⟩, ho, hc, n, hd⟩, hs⟩ := id ht
  simp only at hc hd
  subst hc hd
  have hle : its.length = xs.length := r.length.symm
  have c0 : (decide (k < -(2 ^ 63)) || decide (k ≥ 2 ^ 63)) = false := by
    rw [decide_eq_false (by omega), decide_eq_false (by omega)] <;> rfl
  by_cases hone : (its.toArray.isEmpty || k == 1) = true
  · refine wpAny_binaryOp_repeat_ref (T := "tuple") (U := "int") (by decide) ⟨_, ho, rfl⟩ (fun s' => typeIs_int s' k t) noFill_tuple_mul F.fills_int_mul F.slot_int_rmul repeat_tuple F.slot_int_index.lookup
      (call_meets F.slot_int_rmul (typeIs_int s k t) F.entry_int_rmul (F.args_int_rmul_2 _ _) (int_rmul_tuple k t l its.toArray n dd sl)
        ⟨ho, rfl, ⟨_, ho, rfl⟩, call_meets F.slot_tuple_mul ⟨_, ho, rfl⟩ F.entry_tuple_mul (F.args_tuple_mul_2 _ _) (tuple_mul1 l its.toArray n dd sl k t c0 hone) ⟨ho, ?_⟩⟩)
    refine ⟨.ref l, H, I, rfl, ?_⟩
    have e : (List.replicate k.toNat xs).flatten = xs := by
      rw [Bool.or_eq_true] at hone
      rcases hone with z | z
      · have e0 : its = [] := by
          cases its with
          | nil => rfl
          | cons a b => cases z
        have e1 : xs = [] := by
          rw [e0] at hle
          exact List.eq_nil_of_length_eq_zero hle.symm
        rw [e1]
        simp
      · have e0 : k = 1 := eq_of_beq z
        rw [e0]
        simp
    rw [e] at q
    exact q.here hT
  · have hone : (its.toArray.isEmpty || k == 1) = false := Bool.eq_false_iff.mpr hone
    have hk : k ≤ 0 := by
      rw [Bool.or_eq_false_iff] at hone
      have n1 : xs ≠ [] := fun z => by
        rw [z] at hle
        have e0 : its = [] := List.eq_nil_of_length_eq_zero hle
        rw [e0] at hone
        exact absurd hone.1 (by decide)
      have n2 : k ≠ 1 := beq_eq_false_iff_ne.mp hone.2
      have n3 : ¬ 2 ≤ k := fun z => hbig ⟨n1, z⟩
      omega
    have c2 : (decide (k ≤ 0) || its.toArray.isEmpty) = true := by rw [decide_eq_true hk, Bool.true_or]
    refine wpAny_binaryOp_repeat_ref (T := "tuple") (U := "int") (by decide) ⟨_, ho, rfl⟩ (fun s' => typeIs_int s' k t) noFill_tuple_mul F.fills_int_mul F.slot_int_rmul repeat_tuple F.slot_int_index.lookup
      (call_meets F.slot_int_rmul (typeIs_int s k t) F.entry_int_rmul (F.args_int_rmul_2 _ _) (int_rmul_tuple k t l its.toArray n dd sl)
        ⟨ho, rfl, ⟨_, ho, rfl⟩, call_meets F.slot_tuple_mul ⟨_, ho, rfl⟩ F.entry_tuple_mul (F.args_tuple_mul_2 _ _) (tuple_mul0 l its.toArray n dd sl k t c0 hone c2) ⟨ho, ?_⟩⟩)
    have e : k.toNat = 0 := by omega
    rw [e] at q
    refine ⟨.ref s.heap.objs.size, _, I.laid (t' := s.toks) (o := .tup []) (fun b ob q => Heap.get?_push_of_some _ q) (Nat.le_refl _) ?_, rfl, NewT.al (xs := []) q _ (I.hok.fresh (Nat.le_refl _))⟩
    exact ⟨Nat.zero_le _, [], .nil, IsTup.new _ _⟩
end
end RL
/-! S6 -/
set_option Elab.async false
set_option linter.all false
set_option maxRecDepth 100000
set_option maxHeartbeats 4000000
namespace RL
open PySem PySem.Spec PyProof.Rows L2 PpSet
/-- a set of tuples of ints stands at D, its members' tuples are known -/
def SetTs (K : PySem.W.Frag) (P : Program) (w : World) (H : Hp) (D : Addr) (L : List (Addr × List Int)) : Prop := H D = some (SetTO P w D L) ∧ ∀ p ∈ L, SqT K H p.1 (p.2.map V.int)
section
variable {X : Cx}
theorem addT_ok {pins : List (Addr × Obj)} {σ : L2.St} {H : Hp} {s : Shared} {E : Value → Shared → Prop} {D x : Addr} {L : List (Addr × List Int)} {k : List Int} {Q : Value → Shared → Prop} (hu : X.A.units + 3 < cLine) (I : Inv X pins σ H s)
    (hD : SetTs X.K X.prog X.w H D L) (hx : SqT X.K H x (k.map V.int)) (few : L.length + 1 < 64)
    (h : ∀ s' L', Inv X pins σ (upd H D (SetTO X.prog X.w D L')) s' → (k ∈ L.map (·.2) → L' = L) → (k ∉ L.map (·.2) → L'.Perm ((x, k) :: L)) → Q .none s') :
    wpAny (model X.prog X.w) X.A (call (.builtin "set.add") [.ref D, .ref x]) Q E s := by
  have R0 : SetT0 X.prog X.w s.heap D L := (I.hok D _ hD.1).1
  obtain ⟨es, ep, t, R⟩ := R0.full fun p hp => I.isT (hD.2 p hp)
  have ix := I.isT hx
  obtain ⟨o, ho, hex, hd⟩ := R.ob
  refine wpAny_call_entry F.slot_set_add ⟨o, ho, hex.1⟩ F.entry_set_add ?_ (F.args_set_add_2 _ _)
  unfold Builtin.«set.add» Builtin.Frozenset.oneOther
  simp only [List.isEmpty_nil, bind_assoc]
  unfold Builtin.Frozenset.addrOf setAdd
  refine wpAny_bind (wpAny_pure ?_)
  try dsimp only
  refine wpAny_bind (wpAny_pure ?_)
  try dsimp only
  refine wpAny_bind (wpAny_holding (wpAny_bind (wpAny_pyHash_tuple (by show X.A.units + 1 < cLine; omega) ix ?_)))
  refine add_at (s := { s with toks := s.toks + (k.length + 1) }) R ix (by show X.A.units + 1 < cLine; omega) few fun b h' L' es' ep' t' sb R' c1 c2 => ?_
  have he : ∃ u, h'.get? D = some u := by
    obtain ⟨o', ho', _⟩ := R'.ob
    exact ⟨o', ho'⟩
  exact wpAny_pure ⟨_, rfl, h _ L' (I.write (e := D) (t' := s.toks + (k.length + 1)) (by rw [hD.1]; trivial) (.inl rfl) (fun b u hb hu => (sb.2 b hb).trans hu) he (setTO_new R'.t0)) c1 c2⟩
/-- {elt for target in iter if ..}, elt a tuple of ints: D the new set -/
def tScT (K : PySem.W.Frag) (P : Program) (w : World) (wi : TI) (g : TG) (tt : TT) (te : TE) (vs : List Nat) : TE := fun σ H Q => wi σ H fun J H1 => ∀ D, H1 D = none → ∃ W : Nat → Nat → Hp → Prop, (∃ m, W 0 m (upd H1 D (SetTO P w D []))) ∧ ∀ i m H, W i m H →
  (J.stop i H ∧ Q (.ref D) H) ∨ (J.go i H ∧ ∃ Nx : Hp → Prop, (∀ H', Nx H' → ∃ m', m' < m ∧ W (i + 1) m' H') ∧ ∀ x H', J.yld i H x H' → g x (wipe σ vs) H' fun σ2 H2 => wipe σ2 vs = wipe σ vs ∧ tt σ2 H2 fun b H3 =>
    if b = true then te σ2 H3 fun y H4 => ∃ (a : Addr) (k : List Int) (L : List (Addr × List Int)), y = .ref a ∧ SetTs K P w H4 D L ∧ SqT K H4 a (k.map V.int) ∧ L.length + 1 < 64 ∧
      ∀ L', (k ∈ L.map (·.2) → L' = L) → (k ∉ L.map (·.2) → L'.Perm ((a, k) :: L)) → Nx (upd H4 D (SetTO P w D L')) else Nx H3)
theorem pe_scT {elt tg iter : Expr} {ifs : List Expr} {scope : Scope} {own : List (PySem.Str × Nat)} {pos : Pos} {wi : TI} {g : TG} {tt : TT} {te : TE} (hc : X.calm = true) (hu : X.A.units + 3 < cLine) (hN : X.N.Nodup) (hi : PI X tg iter wi) (ok : BlkOk X.N X.env.scope scope own)
    (hg : ∀ (s : Shared) (H : Hp) (C : Addr) (cl : List (PySem.Str × Addr)) (fp : List Addr), PG (X.blk s H scope (compEnvC scope cl C X.env) fp) tg g) (ht : ∀ (s : Shared) (H : Hp) (C : Addr) (cl : List (PySem.Str × Addr)) (fp : List Addr), PTs (X.blk s H scope (compEnvC scope cl C X.env) fp) ifs tt)
    (he : ∀ (s : Shared) (H : Hp) (C : Addr) (cl : List (PySem.Str × Addr)) (fp : List Addr), PE (X.blk s H scope (compEnvC scope cl C X.env) fp) elt te) (hs : ∀ x, foldedSetIterable iter X.env x = pure x := by intro _; rfl) :
    PE X (.SetComp elt [⟨tg, iter, ifs, 0⟩] scope pos) (tScT X.K X.prog X.w wi g tt te (own.map (·.2))) := by
  refine ⟨fun pins s σ H Q I h => ?_⟩
  rw [eval_SetComp]
  have caught : ∀ y ∈ scope.names, y.2 = .free → ∃ c, X.env.cells.lookup y.1 = some c := fun y hy e => (ok.free y hy e).elim (fun k => I.ok.has _ (.inl k)) (fun k => I.ok.has _ (.inr k))
  refine wpAny_comprehension_free (use := none) rfl hs (closure_ok caught) ok.kind (fun y hy e => by rw [ok.uniq y hy, e]) (thn (hi.run pins s σ H _ I h) fun _ s1 q1 => thn q1 fun _ s2 q2 => ?_)
  obtain ⟨it, fp, tn, J, H2, rfl, I2, T, st2, f2, q⟩ := q2
  refine newSet_ok (newEnv_comp ?_)
  obtain ⟨D, hD⟩ : ∃ D, s2.heap.objs.size = D := ⟨_, rfl⟩
  obtain ⟨W, ⟨m0, w0⟩, turn⟩ := q D (I2.hok.fresh (Nat.le_of_eq hD))
  obtain ⟨o0, ho0⟩ : ∃ o0 : Obj, o0 = { cls := .type "set", dict := none, data := .set #[] 0 (.fresh 0 0 (!X.w.params.followText "set-order")) } := ⟨_, rfl⟩
  rw [hD, ← ho0]
  obtain ⟨s3, hs3⟩ : ∃ s3 : Shared, s3 = { s2 with heap := s2.heap.push o0 } := ⟨_, rfl⟩
  obtain ⟨H3, hH3⟩ : ∃ H3 : Hp, H3 = upd H2 D (SetTO X.prog X.w D []) := ⟨_, rfl⟩
  rw [← hH3] at w0
  have I3 : Inv X pins σ H3 s3 := by
    rw [hH3, hs3]
    refine I2.laid (t' := s2.toks) (fun b o e => Heap.get?_push_of_some _ e) (Nat.le_of_eq hD) (setTO_new (SetTR.t0 (setTR_fresh ?_)))
    rw [← hD, ho0]
    exact Heap.get?_push_size _ rfl
  have h3 : s3.heap = s2.heap.push o0 := by rw [hs3]
  have low : ∀ b ∈ fp, b < s2.heap.objs.size := fun b hb => let ⟨o, e, _⟩ := T.obj _ _ st2 b hb; Heap.lt_size e
  have f3 : ∀ b ∈ fp, FpOk X pins H3 b ∧ b < s3.heap.objs.size := fun b hb => by
    refine ⟨⟨?_, (f2 b hb).2⟩, by rw [h3, Heap.size_push]; exact Nat.lt_succ_of_lt (low b hb)⟩
    rw [hH3, upd_ne (fun z => Nat.lt_irrefl _ (Nat.lt_of_lt_of_eq (low b hb) (hD.trans z.symm)))]
    exact (f2 b hb).1
  have st3 : tn 0 s3.heap := T.keep _ _ _ st2 fun b _ o e => by rw [h3]; exact Heap.get?_push_of_some _ e
  have I4 := block_start I3 ok hN f3
  obtain ⟨ce, hce⟩ : ∃ ce, ce = compEnvC scope (cellsFrom (s3.heap.objs.size + 1) scope.names (cloFrom X.env.cells scope.names [])) s3.heap.objs.size X.env := ⟨_, rfl⟩
  rw [← hce] at I4
  have pg : PG (X.blk s3 H3 scope ce fp) tg g := by rw [hce]; exact hg _ _ _ _ _
  have pt : PTs (X.blk s3 H3 scope ce fp) ifs tt := by rw [hce]; exact ht _ _ _ _ _
  have pe : PE (X.blk s3 H3 scope ce fp) elt te := by rw [hce]; exact he _ _ _ _ _
  have cL : ce.locals = s3.heap.objs.size := by rw [hce] <;> rfl
  obtain ⟨s4, hs4⟩ : ∃ s4 : Shared, s4 = { s3 with heap := pushCells (s3.heap.push { cls := .type "dict", data := .dict #[] }) scope.names } := ⟨_, rfl⟩
  rw [← hs4] at I4
  have goal_eq : codeAny (model X.prog X.w) X.A (.compStart (.SetComp elt [⟨tg, iter, ifs, 0⟩] scope pos) 0 (.ref it) (.ref D) ce) (compPost (model X.prog X.w) X.A X.xe none (EP X pins σ Q) (.ref D) s3.heap.objs.size) s4 := ?_
  · rw [hce, hs4, hs3] at goal_eq
    exact goal_eq
  have st4 : tn 0 s4.heap := T.keep _ _ _ st3 fun b _ o e => by rw [hs4]; exact pushCells_keeps _ _ _ _ (Heap.get?_push_of_some _ e)
  have foot : ∀ {σ' : L2.St} {H' : Hp} {s' : Shared}, Inv (X.blk s3 H3 scope ce fp) [] σ' H' s' → (∀ b ∈ fp, H' b = none) → ∀ b ∈ fp, FpOk (X.blk s3 H3 scope ce fp) [] H' b := fun {σ' H' s'} I' hn b hb =>
    ⟨hn b hb, (I'.ok.exf b hb).1, I'.ok.exfs b hb, .inl hb, fun x c e => (I'.ok.exf b hb).2 x c e, fun p hp => absurd (show p ∈ ([] : List (Addr × Obj)) ++ [] from hp) (by simp)⟩
  have loop : codeAny (model X.prog X.w) X.A (.compLoop (.SetComp elt [⟨tg, iter, ifs, 0⟩] scope pos) 0 (.ref it) (.ref D) ce) (compPost (model X.prog X.w) X.A X.xe none (EP X pins σ Q) (.ref D) s3.heap.objs.size) s4 := by
    refine compLoopS_any (fun n s' => ∃ i H', Inv (X.blk s3 H3 scope ce fp) [] (wipe σ (own.map (·.2))) H' s' ∧ tn i s'.heap ∧ (∀ b ∈ fp, H' b = none) ∧ W i n H') (fun n s5 j5 => ?_) m0 ⟨0, H3, I4, st4, fun b hb => (f3 b hb).1.1, w0⟩
    obtain ⟨i, H5, I5, st5, n5, w5⟩ := j5
    rcases turn i n H5 w5 with ⟨stop, qq⟩ | ⟨go, Nx, hNx, step⟩
    · refine thnF (T.done (X.blk s3 H3 scope ce fp) rfl rfl rfl hc i [] s5 _ H5 (fun _ _ => False) I5 (foot I5 n5) st5 stop) fun r s6 ⟨hr, I6⟩ => ?_
      subst hr
      have I7 : Inv X pins σ H5 s6 := I3.call' (ch := fp) I6.os I6.base I6.hok I6.bare fun b hb => ⟨(f3 b hb).1.2.2.2.1, (f3 b hb).1.2.1, (f3 b hb).1.2.2.2.2.1, (f3 b hb).1.2.2.2.2.2⟩
      have nC : H5 s3.heap.objs.size = none := cL ▸ I6.free
      obtain ⟨m, hn, _⟩ := I6.loc
      have hn : s6.heap.Ns s3.heap.objs.size m := cL ▸ hn
      refine ⟨m, hn, fun h'' sb => ?_⟩
      obtain ⟨a0, a1, a2, a3, a4, a5⟩ := I3.fpOk (Nat.le_refl _) nC
      exact ⟨.ref D, H5, I7.turned (t' := s6.toks) (fun b o hb e => (sb.2 b hb).trans e) a0 a1 a3 a4 a5, rfl, qq⟩
    · refine thnF (T.item (X.blk s3 H3 scope ce fp) rfl rfl rfl hc i [] s5 _ H5 (fun _ _ => False) I5 (foot I5 n5) st5 go) fun r s6 ⟨u, hr, h6⟩ => ?_
      subst hr
      refine thnF h6 fun _ s7 ⟨x, H7, I7, r7, y7, st7, n7⟩ => ?_
      refine thnF (pg.run _ s7 _ H7 x u _ (I7.pinned (foot I7 n7) (T.obj _ _ st7)) r7 (step x H7 y7)) fun _ s8 ⟨σ8, H8, I8, hw8, q8⟩ => ?_
      refine thnF (pt.run _ s8 σ8 H8 _ I8 q8) fun b s9 ⟨H9, I9, q9⟩ => ?_
      have fin : ∀ {s' : Shared} {H' : Hp}, Inv (X.blk s3 H3 scope ce fp) ([] ++ pinsAt fp s7.heap) σ8 H' s' → Nx H' → ∃ m, m < n ∧ ∃ i H', Inv (X.blk s3 H3 scope ce fp) [] (wipe σ (own.map (·.2))) H' s' ∧ tn i s'.heap ∧ (∀ b ∈ fp, H' b = none) ∧ W i m H' := fun {s' H'} I' nx => by
        obtain ⟨m', hm, w'⟩ := hNx H' nx
        have pin' : ∀ b ∈ fp, ∀ o, s7.heap.get? b = some o → s'.heap.get? b = some o ∧ H' b = none := fun b hb o e =>
          let z := I'.pin (b, o) (List.mem_append_right _ (List.mem_append_right _ (mem_pinsAt hb e)))
          ⟨z.1, z.2.1⟩
        refine ⟨m', hm, i + 1, H', (I'.unpinned (pins := [])).weak (by rw [← hw8, wipe_length]) (fun j v e => (wipe_some (by rw [hw8]; exact e)).1), T.keep _ _ _ st7 fun b hb o e => (pin' b hb o e).1, fun b hb => ?_, w'⟩
        obtain ⟨o, e, _⟩ := T.obj _ _ st7 b hb
        exact (pin' b hb o e).2
      cases b with
      | false =>
        simp only [Bool.false_eq_true, if_false] at q9 ⊢
        exact fin I9 q9
      | true =>
        simp only [if_true] at q9 ⊢
        refine thnF (pe.run _ s9 σ8 H9 _ I9 q9) fun z s10 ⟨yv, H10, I10, r10, a, k, L, ey, hD10, hk10, few, nx⟩ => ?_
        subst ey
        cases (show z = Value.ref a from r10)
        exact addT_ok (X := X.blk s3 H3 scope ce fp) hu I10 hD10 hk10 few fun s11 L' I11 c1 c2 => fin I11 (nx L' c1 c2)
  exact codeAny_compStart_set loop (T.self X.A 0 _ _ _ st4 loop)
end
end RL
/-! S7 -/
set_option Elab.async false
set_option linter.all false
set_option maxRecDepth 100000
set_option maxHeartbeats 4000000
namespace RS
open PySem PySem.Spec PyProof.Rows PySem.W PySem.SeqAt
section
variable {prog : Program} {w : World} {A : Around} {E : Value → Shared → Prop} {s : Shared}
/-- the call of tuple's own __lt__, as sorting makes it -/
theorem call_tuple_lt {Q : Value → Shared → Prop} {l b : Addr} {items items2 : Array Value} {e r : Nat → Bool} (hl : s.heap.IsTuple l items) (hb : s.heap.IsTuple b items2)
    (he : ∀ j (h1 : j < items.size) (h2 : j < items2.size), EqAt A.in1 s items[j] items2[j] (e j)) (hr : ∀ j (h1 : j < items.size) (h2 : j < items2.size), e j = false → RcLt A.in1 s items[j] items2[j] (r j))
    (h : Q (.bool (firstLt e r (decide (items.size < items2.size)) (List.range (min items.size items2.size)))) s) : wpAny (model prog w) A (call (.builtin "tuple.__lt__") [.ref l, .ref b]) Q E s := by
  obtain ⟨⟨cls, dd, data, sl⟩, ho, hc, n, hd⟩ := id hl
  obtain ⟨⟨cls2, dd2, data2, sl2⟩, ho2, hc2, n2, hd2⟩ := id hb
  simp only at hc hd hc2 hd2
  subst hc hd hc2 hd2
  exact call_meets F.slot_tuple_lt ⟨_, ho, rfl⟩ F.entry_tuple_lt (F.args_tuple_lt_2 _ _) (tuple_ltAt l b items items2 n n2 dd dd2 sl sl2 e r) ⟨ho, ho2, he, hr, h⟩
theorem oneLt_tups {f : Bool} {xs ys : List PyData} {a b : Value} {as bs : List Addr} {Q : Bool → Shared → Prop} (ra : Reads s.heap a (.tuple xs) as) (rb : Reads s.heap b (.tuple ys) bs) (h : alike (.tuple xs) (.tuple ys) = true)
    (hu : A.units + min (PyData.tuple xs).depth (PyData.tuple ys).depth < cLine) (hq : Q (dataLt (.tuple xs) (.tuple ys)) s) : wpAny (model prog w) A (oneLt' f a b) Q E s := by
  cases f with
  | false => exact oneLt_alike (fun z => nomatch z) ra rb h (fun z => nomatch z) hu hq
  | true =>
    have hal : alikeAll xs ys = true := by simpa [alike] using h
    cases ra with
    | @tuple l o vs n _ as₁ h1 h2 h3 h4 =>
      cases rb with
      | @tuple l' o' vs' n' _ bs₁ k1 k2 k3 k4 =>
        have n1 : vs.size = xs.length := by simpa using ReadsAll.length _ _ _ h4
        have n2 : vs'.size = ys.length := by simpa using ReadsAll.length _ _ _ k4
        rw [dataLt_tuple, ← firstLt_toks xs ys hal, ← n1, ← n2] at hq
        rw [oneLt'_eq]
        simp only [if_true]
        refine wpAny_bind (wpAny_cRoomFor (room_here hu) ?_)
        refine wpAny_bind (wpAny_callSpecialIfBound?_slot (T := "tuple") ⟨_, h1, h2⟩ F.slot_tuple_lt (call_tuple_lt (e := pairEq xs ys) (r := fun j => dataLt (xs.getD j .none) (ys.getD j .none)) ⟨_, h1, h2, _, h3⟩ ⟨_, k1, k2, _, k3⟩ (fun j j1 j2 => ?_) (fun j j1 j2 hj => ?_) (wpAny_truthy_bool hq)))
        · have := eqAt_alikeAll xs ys A.in1 s vs.toList vs'.toList _ _ h4 k4 hal (room_in hu) j (by simpa using j1) (by simpa using j2)
          simpa using this
        · have := rcLt_alikeAll xs ys A.in1 s vs.toList vs'.toList _ _ h4 k4 hal (room_in hu) j (by simpa using j1) (by simpa using j2) hj
          simpa using this
theorem each_right {α β : Type} {R : α → β → Prop} : ∀ {as : List α} {bs : List β}, EachIs R as bs → ∀ b ∈ bs, ∃ a ∈ as, R a b
  | _, _, .nil, b, hb => by cases hb
  | _, _, .cons r t, b, hb => by
    rcases List.mem_cons.mp hb with z | z
    · subst z; exact ⟨_, List.mem_cons_self, r⟩
    · obtain ⟨a, ha, q⟩ := each_right t b z
      exact ⟨a, List.mem_cons_of_mem _ ha, q⟩
theorem firsts_any : ∀ (vs : List Value) (f : Value → Option Value) {Q : List (Option Value) → Shared → Prop}, (∀ v ∈ vs, ∃ a o xs n, v = .ref a ∧ s.heap.get? a = some o ∧ o.cls = .type "tuple" ∧ o.data = .seq xs n ∧ xs[0]? = f v) →
    Q (vs.map f) s → wpAny (model prog w) A (vs.mapM firstOfTuple') Q E s
  | [], f, Q, _, h => by rw [List.mapM_nil]; exact wpAny_pure h
  | v :: vs, f, Q, t, h => by
    obtain ⟨a, o, xs, n, rfl, ho, hc, hd, hf⟩ := t v List.mem_cons_self
    rw [List.mapM_cons]
    refine wpAny_bind ?_
    rw [kas_first_eq]
    refine wpAny_bind (Looks.here (show Looks _ s.heap (typeOf (.ref a)) o.cls from (Looks.ld ho).andThen .now) ?_)
    rw [hc, if_neg (by first | decide | simp)]
    refine wpAny_bind (listItems_at ho hd (wpAny_pure ?_))
    rw [hf]
    exact wpAny_bind (firsts_any vs f (Q := fun bs s' => wpAny (model prog w) A (pure (f (.ref a) :: bs)) Q E s') (fun v hv => t v (List.mem_cons_of_mem _ hv)) (wpAny_pure h))
/-- tuples that read as alike data, some of them perhaps empty, can be sorted -/
theorem sortsAt_tups {vs : List Value} {ds : List PyData} (e : EachIs (fun v d => ∃ as, Reads s.heap v d as) vs ds) (hal : AllAlike ds) (ht : ∀ d ∈ ds, ∃ xs, d = .tuple xs) (hu : ∀ d, d ∈ ds → A.units + d.depth < cLine) : SortsAt prog w A s (dataKind s.heap ds) vs := by
  by_cases hne : ∀ d ∈ ds, ∃ x r, d = .tuple (x :: r)
  · exact SortsAt.data e hal (.inl hne) hu
  have room : ∀ {d d' : PyData}, d ∈ ds → A.units + min d.depth d'.depth < cLine := fun {d d'} hd => Nat.lt_of_le_of_lt (Nat.add_le_add_left (Nat.min_le_left _ _) _) (hu d hd)
  have lt : ∀ (kd : SortKind), (∃ f, ∀ x y, keyLt' kd x y = oneLt' f x y) → H.LtAt prog w A s (dataKind s.heap ds) kd := fun kd ⟨f, hf⟩ => by
    intro E x y a b Q ha hb hq
    obtain ⟨d, as, hd, ra, rfl⟩ := dataKind_inv ha
    obtain ⟨d', as', hd', rb, rfl⟩ := dataKind_inv hb
    rw [hf]
    obtain ⟨xs, rfl⟩ := ht d hd
    obtain ⟨ys, rfl⟩ := ht d' hd'
    exact oneLt_tups ra rb (hal _ hd _ hd') (room hd) hq
  have first : ∃ f : Value → Option Value, ∀ v ∈ vs, ∃ a o xs n, v = .ref a ∧ s.heap.get? a = some o ∧ o.cls = .type "tuple" ∧ o.data = .seq xs n ∧ xs[0]? = f v := by
    refine ⟨fun v => match v with | .ref a => (match s.heap.get? a with | some o => (match o.data with | .seq xs _ => xs[0]? | _ => none) | none => none) | _ => none, fun v hv => ?_⟩
    obtain ⟨d, hd, as, r⟩ := e.left v hv
    obtain ⟨xs, rfl⟩ := ht d hd
    cases r with
    | @tuple l o ws n _ _ h1 h2 h3 h4 => exact ⟨l, o, ws, n, rfl, h1, h2, h3, by simp only [h1, h3]⟩
  obtain ⟨f, hf⟩ := first
  -- not all have a first item
  have hno : ((vs.map f).toArray.all fun x => x.isSome) = false := by
    cases hc : ((vs.map f).toArray.all fun x => x.isSome) with
    | false => rfl
    | true =>
      refine absurd (fun d hd => ?_) hne
      obtain ⟨v, hv, as, r⟩ := each_right e d hd
      obtain ⟨a, o, ws, n, ev, ho, _, hdt, hw⟩ := hf v hv
      obtain ⟨xs, rfl⟩ := ht d hd
      cases r with
      | @tuple l o' ws' n' _ _ h1 h2 h3 h4 =>
        cases ev
        rw [h1] at ho
        cases ho
        rw [h3] at hdt
        cases hdt
        have hs : (f (.ref a)).isSome = true := by
          simp only [List.all_toArray, List.all_map, List.all_eq_true, Function.comp] at hc
          exact hc _ hv
        rw [← hw] at hs
        have n1 : ws.size = xs.length := by simpa using ReadsAll.length _ _ _ h4
        cases xs with
        | cons x r => exact ⟨x, r, rfl⟩
        | nil =>
          have z : ws.size = 0 := n1
          rw [Array.getElem?_eq_none (by omega)] at hs
          exact absurd hs (by decide)
  refine ⟨fun v hv => ?_, ?_⟩
  · obtain ⟨d, hd, as, r⟩ := e.left v hv
    exact ⟨_, dataKind_some hal hd r⟩
  · have hT : ∀ v ∈ vs, Looks (model prog w) s.heap (typeOf v) (Value.type "tuple") := fun v hv => by
      obtain ⟨a, o, ws, n, ev, ho, hc, _, _⟩ := hf v hv
      subst ev
      rw [← hc]
      exact (Looks.ld ho).andThen .now
    by_cases h1 : ((vs.map f).toArray[0]?.bind id).isSome = true
    · refine ⟨general', lt _ ⟨false, fun _ _ => rfl⟩, fun h2 E Q hq => ?_⟩
      rw [kat_kind_eq, List.mapM_toArray, map_eq_pure_bind]
      refine wpAny_bind (wpAny_bind (firsts_any vs f hf (wpAny_pure ?_)))
      rw [if_neg (by rw [hno]; decide), if_pos h1]
      exact wpAny_pure hq
    · refine ⟨oneType', lt _ ⟨true, fun _ _ => keyLt'_oneType _ _⟩, fun h2 E Q hq => ?_⟩
      rw [kat_kind_eq, List.mapM_toArray, map_eq_pure_bind]
      refine wpAny_bind (wpAny_bind (firsts_any vs f hf (wpAny_pure ?_)))
      rw [if_neg (by rw [hno]; decide), if_neg h1, oneTypeOnly'_eq, List.mapM_toArray, map_eq_pure_bind]
      refine wpAny_bind (wpAny_bind (wpAny_bind (kas_mapM (r := Value.type "tuple") _ (fun v hv Q' hq => (hT v hv).here hq) (wpAny_pure ?_))))
      have hall : ((List.map (fun _ => Value.type "tuple") vs).toArray.all fun x => x == Value.type "tuple") = true := by
        simp only [List.all_toArray, List.all_map, List.all_eq_true]
        intro _ _
        exact beq_self_eq_true _
      have h0 : (List.map (fun _ => Value.type "tuple") vs).toArray[0]? = some (Value.type "tuple") := by
        match vs, h2 with
        | v :: _, _ => simp
      rw [h0]
      simp only [hall, if_true]
      exact wpAny_pure (wpAny_pure hq)
end
end RS
/-! S8 -/
set_option Elab.async false
set_option linter.all false
set_option maxRecDepth 100000
set_option maxHeartbeats 4000000
namespace RS
open PySem PySem.Spec PyProof.Rows PySem.W PySem.SeqAt
section
variable {prog : Program} {w : World} {A : Around} {E : Value → Shared → Prop} {s : Shared} {β : Type} {R : Value → β → Prop} {enc : β → PyData} {vs : List Value} {bs : List β}
/-- what may be sorted: as the library says, or tuples of which some may be empty -/
def SortableT (ds : List PyData) : Prop := Sortable ds ∨ ∀ d ∈ ds, ∃ xs, d = .tuple xs
theorem sortsAt_any {ds : List PyData} (e : EachIs (fun v d => ∃ as, Reads s.heap v d as) vs ds) (hal : AllAlike ds) (hk : SortableT ds) (hu : ∀ d, d ∈ ds → A.units + d.depth < cLine) : SortsAt prog w A s (dataKind s.heap ds) vs :=
  hk.elim (fun h => SortsAt.data e hal h hu) fun h => sortsAt_tups e hal h hu
theorem sorted_any {l : Addr} {Q : Value → Shared → Prop} (hl : s.heap.IsList l vs.toArray) (e : EachIs R vs bs) (er : EachIs (fun v b => ∃ as, Reads s.heap v (enc b) as) vs bs) (hal : AllAlike (bs.map enc)) (hk : SortableT (bs.map enc)) (hL : bs.length ≤ sizeLine)
    (hu : ∀ b, b ∈ bs → A.units + 2 + (enc b).depth < cLine) (h : ∀ out, out.length = bs.length → EachIs R out (bs.mergeSort (dataLe false enc)) → Q (.ref (s.heap.objs.size + 1)) { s with heap := sortedAll s.heap vs (List.toArray out) }) :
    wpAny (model prog w) A (call (.builtin "sorted") [.ref l]) Q E s := by
  have er' : EachIs (fun v b => ∃ as, Reads (sortingHeap (copyHeap s.heap vs) (s.heap.objs.size + 1) vs) v (enc b) as) vs bs := er.mono fun _ _ ⟨as, r⟩ => ⟨as, PyProof.Rows.Reads.keeps (fun _ _ => sorting_copy_old) r⟩
  refine sorted_vals hl (sortsAt_any (s := { s with heap := sortingHeap (copyHeap s.heap vs) (s.heap.objs.size + 1) vs }) (each_map (R := fun v d => ∃ as, Reads (sortingHeap (copyHeap s.heap vs) (s.heap.objs.size + 1) vs) v d as) enc er') hal hk (bound_map hu)) (by rw [e.length]; exact hL) ?_
  exact h _ (by rw [sortVals_length false rfl]; exact e.length) (sortVals_data false e er' hal)
end
end RS
namespace RL
open PySem PySem.Spec PyProof.Rows L2 PpSet
open PySem.W (AllAlike EachIs dataLe)
/-- values, each beside the datum that it reads as -/
abbrev VD := V × PyData
section
variable {X : Cx}
theorem each_of_vals : ∀ {zs : List VD} {us : List Value}, Vals (zs.map (·.1)) us → EachIs (fun v (z : VD) => RelV z.1 v) us zs
  | [], _, .nil => .nil
  | z :: zs, _, .cons r t => .cons r (each_of_vals t)
theorem vals_of_each : ∀ {zs : List VD} {us : List Value}, EachIs (fun v (z : VD) => RelV z.1 v) us zs → Vals (zs.map (·.1)) us
  | _, _, .nil => .nil
  | _, _, .cons r t => .cons r (vals_of_each t)
theorem each_reads {pins : List (Addr × Obj)} {σ : L2.St} {H : Hp} {s : Shared} (I : Inv X pins σ H s) : ∀ {zs : List VD} {us : List Value}, (∀ z ∈ zs, Dp X.K H z.1 z.2) → EachIs (fun v (z : VD) => RelV z.1 v) us zs → EachIs (fun v (z : VD) => ∃ as, Reads s.heap v z.2 as) us zs
  | _, _, _, .nil => .nil
  | _, _, h, .cons r t => .cons (Dp.reads I _ _ _ (h _ List.mem_cons_self) r) (each_reads I (fun z hz => h z (List.mem_cons_of_mem _ hz)) t)
/-- sorted(xs), xs a list of alike data -/
def rSortedD (K : PySem.W.Frag) : List V → Hp → VK → Prop := fun vs H Q => ∃ (a : Addr) (zs : List VD), vs = [V.ref a] ∧ SqL K H a (zs.map (·.1)) ∧ (∀ z ∈ zs, Dp K H z.1 z.2) ∧ AllAlike (zs.map (·.2)) ∧ RS.SortableT (zs.map (·.2)) ∧ (∀ z ∈ zs, z.2.depth ≤ 40) ∧
  NewL H Q ((zs.mergeSort (dataLe false (·.2))).map (·.1))
theorem cr_sortedD (hu : X.A.units + 64 < cLine) : CallR X (.builtin "sorted") (rSortedD X.K) := by
  intro pins s σ H vs us Q I r h
  obtain ⟨a, zs, rfl, hs, hx, hal, hk, hd, q⟩ := h
  obtain ⟨its, rv, hl, hz⟩ := I.list hs
  rw [Vals.ref1 r]
  have e := each_of_vals rv
  have hlen : zs.length ≤ sizeLine := by rw [List.length_map] at hz; exact hz
  refine RS.sorted_any (enc := fun z : VD => z.2) hl.isList e (each_reads I hx e) hal hk hlen (fun z hz => ?_) fun out h1 h2 => ?_
  · have := hd z hz
    omega
  · have fresh : H (s.heap.objs.size + 1) = none := I.hok.fresh (Nat.le_succ _)
    obtain ⟨n, hn⟩ := sortedAll_at s.heap its out.toArray
    refine ⟨.ref (s.heap.objs.size + 1), _, I.laid (t' := s.toks) (o := .lst ((zs.mergeSort (dataLe false (·.2))).map (·.1))) (fun b o q => sortedAll_old q) (Nat.le_succ _) ⟨?_, out, n, vals_of_each h2, hn⟩, rfl, NewL.al q _ fresh⟩
    rw [List.length_map, List.length_mergeSort]
    exact hlen
/-- the datum of a row of ints -/
abbrev dTup (k : List Int) : PyData := .tuple (k.map .int)
theorem depth_tup (k : List Int) : (dTup k).depth ≤ 1 := by
  show PyData.depth (.tuple (k.map .int)) ≤ 1
  simp only [PyData.depth, PySem.W.depth_ints]
  omega
theorem alike_tup (k l : List Int) : PySem.W.alike (dTup k) (dTup l) = true := by
  show PySem.W.alike (.tuple (k.map .int)) (.tuple (l.map .int)) = true
  simp only [PySem.W.alike]
  exact PySem.W.alike_ints k l
end
end RL
/-! S9 -/
set_option Elab.async false
set_option linter.all false
set_option maxRecDepth 100000
set_option maxHeartbeats 4000000
namespace RL
open PySem PySem.Spec PyProof.Rows L2 PpSet
open PySem.W (AllAlike EachIs dataLe)
section
variable {P : Program} {w : World} {A : Around} {E : Value → Shared → Prop} {s : Shared}
theorem reads_isT {h : Heap} {k : List Int} {a : Addr} (x : TS.TupInts h (.ref a) k) : ∃ as, Reads h (.ref a) (dTup k) as := by
  obtain ⟨b, xs, e, ⟨o, ho, hc, n, hd⟩, hi⟩ := x
  cases e
  have all : ∀ {us : List Value} {ns : List Int}, IntsAre us ns → ∃ as, ReadsAll h us (ns.map .int) as := by
    intro us ns q
    induction q with
    | nil => exact ⟨_, .nil⟩
    | cons n t _ ih =>
      obtain ⟨as, r⟩ := ih
      exact ⟨_, .cons (Reads.int n t) r⟩
  obtain ⟨as, r⟩ := all hi
  exact ⟨_, Reads.tuple ho hc hd r⟩
theorem sorted_setU {a : Addr} {L : List (Addr × List Int)} {es : Array (Int × Value)} {ep : Nat} {t : SetTable} {Q : Value → Shared → Prop} (R : SetTR P w s.heap a L es ep t) (hh : A.handled = none) (hu : A.units + 8 < cLine)
    (hQ : ∀ s' p (out : List Value) (c : Nat) (L1 : List (Addr × List Int)), (∀ b o, s.heap.get? b = some o → s'.heap.get? b = some o) → s'.gens = s.gens → s'.os = s.os → s.heap.objs.size ≤ p →
      s'.heap.get? p = some (seqObj "list" out.toArray c) → L1.Perm L → out = (L1.mergeSort (dataLe false fun q => dTup q.2)).map (fun q => Value.ref q.1) → Q (.ref p) s') :
    wpAny (model P w) A (call (.builtin "sorted") [.ref a]) Q E s := by
  obtain ⟨o, ho, hex, hd⟩ := R.ob
  have hsz := R.size
  have hfew := R.few
  refine Calls.call_function_entry kind_sorted plain_sorted entry_sorted (args_sorted1 _) ?_
  unfold Builtin.«sorted»
  refine wpAny_bind (m := checkCount "sorted" 1 1 _) (wpAny_pure ?_)
  refine wpAny_bind (collect_set (A := A.in1) hh ⟨o, ho, hex.1, hd⟩ R.fits (by unfold scanBound; omega) R.tab.ris R.led fun s1 vs k1 hz g1 o1 pm => ?_)
  have hes : es.toList.map (·.2) = L.map fun q => Value.ref q.1 := by
    rw [R.rows]
    unfold rowsOf
    rw [List.map_map] <;> rfl
  rw [hes] at pm
  -- some arrangement of the rows
  have arr : ∀ (vs : List Value) (L : List (Addr × List Int)), vs.Perm (L.map fun q => Value.ref q.1) → ∃ L1 : List (Addr × List Int), L1.Perm L ∧ vs = L1.map fun q => Value.ref q.1 := by
    intro vs
    induction vs with
    | nil =>
      intro L p
      have e : L = [] := by
        have q := p.length_eq
        rw [List.length_map] at q
        exact List.eq_nil_of_length_eq_zero q.symm
      exact ⟨[], by rw [e], rfl⟩
    | cons v vs ih =>
      intro L p
      obtain ⟨q, hq, e⟩ := List.mem_map.mp (p.mem_iff.mp (List.mem_cons_self))
      obtain ⟨l1, l2, rfl⟩ := List.append_of_mem hq
      have p2 : vs.Perm ((l1 ++ l2).map fun q => Value.ref q.1) := by
        have z : (v :: vs).Perm (v :: ((l1 ++ l2).map fun q => Value.ref q.1)) := by
          refine p.trans ?_
          rw [← e, List.map_append, List.map_append, List.map_cons]
          exact List.perm_middle
        exact z.cons_inv
      obtain ⟨L1, pL, e1⟩ := ih _ p2
      exact ⟨q :: L1, (pL.cons q).trans List.perm_middle.symm, by rw [List.map_cons, e, e1]⟩
  obtain ⟨L1, pL, rfl⟩ := arr vs L pm
  have hlen : (L1.map fun q => Value.ref q.1).length ≤ sizeLine := by rw [List.length_map, pL.length_eq, sizeLine_eq]; omega
  refine wpAny_bind (wpAny_newList ?_ (by exact hlen))
  have hoL : (s1.heap.push (seqObj "list" (L1.map fun q => Value.ref q.1).toArray 0)).get? s1.heap.objs.size = some (seqObj "list" (L1.map fun q => Value.ref q.1).toArray 0) := Heap.get?_push_size _ rfl
  generalize hh1 : s1.heap.push (seqObj "list" (L1.map fun q => Value.ref q.1).toArray 0) = h1 at hoL ⊢
  have old1 : ∀ b o, s.heap.get? b = some o → h1.get? b = some o := fun b o e => by rw [← hh1]; exact Heap.get?_push_of_some _ (k1 b o e)
  have ne : ∀ b o, s.heap.get? b = some o → b ≠ s1.heap.objs.size := fun b o e => Nat.ne_of_lt (Heap.lt_size (k1 b o e))
  have rd : ∀ q ∈ L1, ∃ as, Reads (PySem.W.sortingHeap h1 s1.heap.objs.size (L1.map fun q => Value.ref q.1)) (.ref q.1) (dTup q.2) as := fun q hq => by
    have x : IsT P w s.heap q.2 q.1 := R.tup q (pL.mem_iff.mp hq)
    exact reads_isT (tupInts_of (P := P) (w := w) (isT_keep x fun b o e => PySem.W.sortingHeap_old (ne b o e) (old1 b o e)))
  have eR : ∀ l : List (Addr × List Int), EachIs (fun v (q : Addr × List Int) => v = Value.ref q.1) (l.map fun q => Value.ref q.1) l := by
    intro l
    induction l with
    | nil => exact .nil
    | cons q l ih => exact .cons rfl ih
  have er : ∀ l : List (Addr × List Int), (∀ q ∈ l, q ∈ L1) → EachIs (fun v (q : Addr × List Int) => ∃ as, Reads (PySem.W.sortingHeap h1 s1.heap.objs.size (L1.map fun q => Value.ref q.1)) v (dTup q.2) as) (l.map fun q => Value.ref q.1) l := by
    intro l
    induction l with
    | nil => intro _; exact .nil
    | cons q l ih => intro h; exact .cons (rd q (h q List.mem_cons_self)) (ih fun r hr => h r (List.mem_cons_of_mem _ hr))
  have er1 := er L1 fun _ h => h
  have hal : AllAlike (L1.map fun q => dTup q.2) := PySem.W.AllAlike.of fun b b' => alike_tup _ _
  have hS := RS.sortsAt_any (prog := P) (w := w) (A := A.in1.in1) (s := { s1 with heap := PySem.W.sortingHeap h1 s1.heap.objs.size (L1.map fun q => Value.ref q.1) }) (PySem.W.each_map (R := fun v d => ∃ as, Reads (PySem.W.sortingHeap h1 s1.heap.objs.size (L1.map fun q => Value.ref q.1)) v d as) (fun q : Addr × List Int => dTup q.2) er1) hal (.inr fun d hd => by
      obtain ⟨q, _, e⟩ := List.mem_map.mp hd
      exact ⟨_, e.symm⟩) (fun d hd => by
      obtain ⟨q, _, e⟩ := List.mem_map.mp hd
      have := depth_tup q.2
      rw [← e]
      show A.units + 1 + 1 + (dTup q.2).depth < cLine
      omega)
  have outs := PySem.W.sortVals_data (R := fun v (q : Addr × List Int) => v = Value.ref q.1) (enc := fun q : Addr × List Int => dTup q.2) false (eR L1) er1 hal
  have outE : ∀ (vs : List Value) (l : List (Addr × List Int)), EachIs (fun v (q : Addr × List Int) => v = Value.ref q.1) vs l → vs = l.map fun q => Value.ref q.1 := by
    intro vs l e
    induction e with
    | nil => rfl
    | cons r _ ih => rw [List.map_cons, r, ih]
  have outs' := outE _ _ outs
  refine wpAny_bind (wpAny_holding (wpAny_call_entry slot_list_sort ⟨_, hoL, rfl⟩ entry_list_sort ?_ (args_list_sort _)))
  refine PySem.W.list_sort_vals (s := { s1 with heap := h1 }) hoL hS hlen ⟨_, rfl, wpAny_pure ⟨_, rfl, ?_⟩⟩
  obtain ⟨c, hc⟩ := sortedHeap_at (vs := L1.map fun q => Value.ref q.1) (out := (PySem.W.sortVals (PySem.W.dataKind (PySem.W.sortingHeap h1 s1.heap.objs.size (L1.map fun q => Value.ref q.1)) (L1.map fun q => dTup q.2)) false (L1.map fun q => Value.ref q.1) (L1.map fun q => Value.ref q.1)).toArray) hoL
  refine hQ _ s1.heap.objs.size _ c L1 (fun b u e => ?_) g1 o1 hz hc pL outs'
  show (sortedHeap h1 s1.heap.objs.size _ _).get? b = some u
  rw [sortedHeap_old (ne b u e) (Heap.lt_size (old1 b u e))]
  exact old1 b u e
end
end RL
/-! S10 -/
set_option Elab.async false
set_option linter.all false
set_option maxRecDepth 100000
set_option maxHeartbeats 4000000
namespace RL
open PySem PySem.Spec PyProof.Rows L2 PpSet
open PySem.W (AllAlike EachIs dataLe)
section
variable {X : Cx}
/-- sorted(a set of tuples of ints) -/
def rSortedU (K : PySem.W.Frag) (P : Program) (w : World) : List V → Hp → VK → Prop := fun vs H Q => ∃ (a : Addr) (L : List (Addr × List Int)), vs = [V.ref a] ∧ SetTs K P w H a L ∧
  ∀ L1 : List (Addr × List Int), L1.Perm L → (L1.map (·.2)).Nodup → NewL H Q ((L1.mergeSort (dataLe false fun q => dTup q.2)).map fun q => V.ref q.1)
theorem cr_sortedU (hc : X.calm = true) (hu : X.A.units + 8 < cLine) : CallR X (.builtin "sorted") (rSortedU X.K X.prog X.w) := by
  intro pins s σ H vs us Q I r h
  obtain ⟨a, L, rfl, ⟨ha, hk⟩, q⟩ := h
  have R0 : SetT0 X.prog X.w s.heap a L := (I.hok a _ ha).1
  obtain ⟨es, ep, t, R⟩ := R0.full fun p hp => I.isT (hk p hp)
  rw [Vals.ref1 r]
  refine sorted_setU R (I.ok.hd hc) hu fun s' p out c L1 k g o hp hg pm hout => ?_
  have hnd : (L1.map (·.2)).Nodup := (pm.map (·.2)).nodup_iff.mpr R.nd
  have hlen : ((L1.mergeSort (dataLe false fun q => dTup q.2)).map fun q => V.ref q.1).length ≤ sizeLine := by
    have := R.few
    rw [List.length_map, List.length_mergeSort, pm.length_eq, sizeLine_eq]
    omega
  have hn : H p = none := I.hok.fresh hp
  have hv : Vals ((L1.mergeSort (dataLe false fun q => dTup q.2)).map fun q => V.ref q.1) out := by rw [hout]; exact vals_of_refs _
  have J : Inv X pins σ (upd H p (.lst ((L1.mergeSort (dataLe false fun q => dTup q.2)).map fun q => V.ref q.1))) { s with heap := s'.heap, gens := s'.gens, drawn := s'.drawn, toks := s'.toks } :=
    I.call (ch := []) (Un.laid k hp hn) (I.hok.laid k hp ⟨hlen, out, c, hv, hg⟩) (by rw [g]; exact I.bare) (fun _ z => nomatch z)
  have e : s' = { s with heap := s'.heap, gens := s'.gens, drawn := s'.drawn, toks := s'.toks } := by
    cases s'
    cases s
    cases o
    rfl
  rw [e]
  exact ⟨.ref p, _, J, rfl, NewL.al (q L1 pm hnd) p hn⟩
/-- a comprehension over a tuple, its members tuples of ints -/
theorem sc_tupT {K : PySem.W.Frag} {P : Program} {w : World} {a : Addr} {xs : List V} {g : TG} {tt : TT} {te : TE} {vs : List Nat} {σ : L2.St} {H1 : Hp} {D : Addr} {Qd : Hp → Prop} (Pv : Nat → Hp → Prop) (h0 : Pv 0 (upd H1 D (SetTO P w D []))) (hl : ∀ i H, i ≤ xs.length → Pv i H → SqT K H a xs)
    (hs : ∀ i x H, xs[i]? = some x → Pv i H → g x (wipe σ vs) H fun σ2 H2 => wipe σ2 vs = wipe σ vs ∧ tt σ2 H2 fun b H3 =>
      if b = true then te σ2 H3 fun y H4 => ∃ (c : Addr) (k : List Int) (L : List (Addr × List Int)), y = .ref c ∧ SetTs K P w H4 D L ∧ SqT K H4 c (k.map V.int) ∧ L.length + 1 < 64 ∧
        ∀ L', (k ∈ L.map (·.2) → L' = L) → (k ∉ L.map (·.2) → L'.Perm ((c, k) :: L)) → Pv (i + 1) (upd H4 D (SetTO P w D L')) else Pv (i + 1) H3) (hd : ∀ H, Pv xs.length H → Qd H) :
    ∃ W : Nat → Nat → Hp → Prop, (∃ m, W 0 m (upd H1 D (SetTO P w D []))) ∧ ∀ i m H, W i m H →
      ((Itt K a).stop i H ∧ Qd H) ∨ ((Itt K a).go i H ∧ ∃ Nx : Hp → Prop, (∀ H', Nx H' → ∃ m', m' < m ∧ W (i + 1) m' H') ∧ ∀ x H', (Itt K a).yld i H x H' → g x (wipe σ vs) H' fun σ2 H2 => wipe σ2 vs = wipe σ vs ∧ tt σ2 H2 fun b H3 =>
        if b = true then te σ2 H3 fun y H4 => ∃ (c : Addr) (k : List Int) (L : List (Addr × List Int)), y = .ref c ∧ SetTs K P w H4 D L ∧ SqT K H4 c (k.map V.int) ∧ L.length + 1 < 64 ∧
          ∀ L', (k ∈ L.map (·.2) → L' = L) → (k ∉ L.map (·.2) → L'.Perm ((c, k) :: L)) → Nx (upd H4 D (SetTO P w D L')) else Nx H3) := by
  refine ⟨fun i m H => m = xs.length - i ∧ i ≤ xs.length ∧ Pv i H, ⟨xs.length, by simp, Nat.zero_le _, h0⟩, fun i m H ⟨em, hi, p⟩ => ?_⟩
  subst em
  have q := hl i H hi p
  rcases Nat.lt_or_ge i xs.length with hlt | hge
  · refine .inr ⟨⟨xs, xs[i], q, by simp [hlt]⟩, Pv (i + 1), fun H' p' => ⟨xs.length - (i + 1), by omega, rfl, hlt, p'⟩, fun x H' y => ?_⟩
    obtain ⟨e, y⟩ := y
    subst e
    exact hs i x _ (y xs q) p
  · have e : i = xs.length := Nat.le_antisymm hi hge
    subst e
    exact .inl ⟨⟨xs, q, Nat.le_refl _⟩, hd H p⟩
end
end RL
/-! S11 -/
set_option Elab.async false
set_option linter.all false
set_option maxRecDepth 100000
set_option maxHeartbeats 2000000
namespace RL
open PySem PySem.Spec PyProof.Rows L2 PpSet
section
variable {X : Cx}
theorem call_repr_bl : CallR X (.builtin "repr") (fun xs H Q => ∃ b, xs = [.bl b] ∧ Q (.str (if b then "True" else "False")) H) := by
  intro pins s σ H xs us Q I r h
  obtain ⟨b, rfl, q⟩ := h
  obtain ⟨u, rfl, e⟩ := vals1 r
  cases (show u = Value.bool b from e)
  exact PySem.P.repr_of_bool ⟨.str _, H, I.tok _, ⟨_, rfl⟩, q⟩
/-- list(g) -/
def tListGS (tg : TGen) : TE := fun σ H Q => tg σ H fun out H2 => NewL H2 Q out
def upG (tg : TGen) : TGen := fun σ H Q => ∃ Q0 : List V → Hp → Prop, tg σ H Q0 ∧ ∀ x H1, Q0 x H1 → Q x H1
end
/-! ### values by what they are -/
/-- a row of ints stands at v -/
def IsW (K : PySem.W.Frag) (H : Hp) (v : V) (k : List Int) : Prop := ∃ a, v = .ref a ∧ SqT K H a (k.map V.int)
theorem IsW.same {K : PySem.W.Frag} {H H' : Hp} {v : V} {k : List Int} (e : Same H H') (h : IsW K H v k) : IsW K H' v k := let ⟨a, q, s⟩ := h; ⟨a, q, Same.sqt e s⟩
theorem IsW.dp {K : PySem.W.Frag} {H : Hp} {v : V} {k : List Int} (h : IsW K H v k) : Dp K H v (dTup k) := by
  obtain ⟨a, rfl, s⟩ := h
  refine .tup s ?_
  clear s
  induction k with
  | nil => exact .nil
  | cons n k ih => exact .cons (.int n) ih
theorem lay_ints (k : List Int) : PyData.canLayAll0 (k.map PyData.int) = true := by
  induction k with
  | nil => simp [PyData.canLayAll0]
  | cons n k ih => simp [PyData.canLayAll0, PyData.canLay0, ih]
theorem shaped_tup (k : List Int) : SeqAt.shaped (dTup k) = true := by
  have d := depth_tup k
  unfold SeqAt.shaped
  rw [Bool.and_eq_true]
  exact ⟨by simp only [PyData.canLay0, lay_ints], decide_eq_true (by omega)⟩
theorem eqv_tup (k l : List Int) : PyData.eqv (dTup k) (dTup l) = decide (k = l) := by
  have h : ∀ k l : List Int, PyData.eqvAll (k.map PyData.int) (l.map PyData.int) = decide (k = l) := by
    intro k
    induction k with
    | nil => intro l; cases l <;> simp [PyData.eqvAll]
    | cons n k ih =>
      intro l
      cases l with
      | nil => simp [PyData.eqvAll]
      | cons m l =>
        simp only [List.map_cons, PyData.eqvAll, PyData.eqv, ih, List.cons.injEq, Bool.decide_and]
        congr 1
  simp only [PyData.eqv, h]
theorem cut_map (k : List Int) (lo hi : Option Int) : cutV (k.map V.int) lo hi = ((k.drop (HT.sIx k.length 0 lo)).take (HT.sIx k.length k.length hi - HT.sIx k.length 0 lo)).map V.int := by
  unfold cutV
  rw [List.length_map, List.map_take, List.map_drop]
/-- k[i:] -/
theorem cut_from (k : List Int) {i : Int} (h0 : 0 ≤ i) : cutV (k.map V.int) (some i) none = (k.drop i.toNat).map V.int := by
  rw [cut_map]
  have e1 : HT.sIx k.length 0 (some i) = min i.toNat k.length := by
    show (if i < 0 then (i + (k.length : Int)).toNat else min i.toNat k.length) = _
    rw [if_neg (by omega)]
  have e2 : HT.sIx k.length k.length none = k.length := rfl
  rw [e1, e2]
  congr 1
  by_cases h : i.toNat ≤ k.length
  · rw [Nat.min_eq_left h]
    exact List.take_of_length_le (by rw [List.length_drop]; exact Nat.le_refl _)
  · rw [Nat.min_eq_right (by omega), List.drop_length, List.drop_eq_nil_of_le (by omega)]
    simp
/-- k[:i] -/
theorem cut_to (k : List Int) {i : Int} (h0 : 0 ≤ i) : cutV (k.map V.int) none (some i) = (k.take i.toNat).map V.int := by
  rw [cut_map]
  have e1 : HT.sIx k.length k.length (some i) = min i.toNat k.length := by
    show (if i < 0 then (i + (k.length : Int)).toNat else min i.toNat k.length) = _
    rw [if_neg (by omega)]
  have e2 : HT.sIx k.length 0 none = 0 := rfl
  rw [e1, e2, Nat.sub_zero, List.drop_zero]
  congr 1
  by_cases h : i.toNat ≤ k.length
  · rw [Nat.min_eq_left h]
  · rw [Nat.min_eq_right (by omega), List.take_length, List.take_of_length_le (by omega)]
theorem at_int {k : List Int} {i : Int} {x : Int} (h0 : 0 ≤ i) (h : k[i.toNat]? = some x) : atI (k.map V.int) i = some (.int x) := by
  have e : i = ((i.toNat : Nat) : Int) := by omega
  rw [e]
  exact atI_nat (by rw [List.getElem?_map, h] <;> rfl)
theorem at_v {k : List V} {i : Int} {x : V} (h0 : 0 ≤ i) (h : k[i.toNat]? = some x) : atI k i = some x := by
  have e : i = ((i.toNat : Nat) : Int) := by omega
  rw [e]
  exact atI_nat h
theorem rep_int (k : List Int) (n : Nat) : (List.replicate n (k.map V.int)).flatten = ((List.replicate n k).flatten).map V.int := by
  induction n with
  | zero => rfl
  | succ n ih => rw [List.replicate_succ, List.replicate_succ, List.flatten_cons, List.flatten_cons, ih, List.map_append]
theorem size200 {n : Nat} (h : n ≤ 100000) : n ≤ sizeLine := by rw [sizeLine_eq]; omega
/-- a number, a truth value, or something that is no int at all -/
def NumV (K : PySem.W.Frag) (H : Hp) (v : V) : Prop := (∃ i, v = .int i) ∨ (∃ b, v = .bl b) ∨ ((∀ i, v ≠ .int i) ∧ (∀ b, v ≠ .bl b) ∧ ∃ t, TyX K H v t ∧ PySem.W.kitOne K t (.type "int") = some false)
/-- is_number's answer -/
def numB (v : V) (lo hi : Int) : Bool := match v with
  | .int i => decide (lo ≤ i) && decide (i ≤ hi)
  | _ => false
theorem clsv (n : String) : ClsV (.ty n) (.type n) := by first | exact .ty n | exact rfl | constructor
end RL
/-! S12 -/
set_option Elab.async false
set_option linter.all false
set_option maxRecDepth 100000
set_option maxHeartbeats 2000000
namespace RL
open PySem PySem.Spec PyProof.Rows L2 PpSet
theorem same_mut {H H' : Hp} {D : Addr} {o : HO} (h : H D = none) (s : Same H H') : Same H (upd H' D o) := fun b u q => by rw [upd_ne (ne_of_none q h)]; exact s b u q
theorem ifT {c : Bool} {A B : Prop} (hc : c = true) (h : A) : if c = true then A else B := by
  rw [if_pos hc]
  exact h
theorem ifF {c : Bool} {A B : Prop} (hc : c = false) (h : B) : if c = true then A else B := by
  rw [hc, if_neg Bool.false_ne_true]
  exact h
theorem take_more {α : Type} : ∀ {l : List α} {i : Nat} {x : α}, l[i]? = some x → l.take (i + 1) = l.take i ++ [x]
  | [], i, x, h => by simp at h
  | a :: l, 0, x, h => by
    cases Option.some.inj h
    rfl
  | a :: l, i + 1, x, h => by
    have ih := take_more (l := l) (i := i) (x := x) h
    show a :: l.take (i + 1) = a :: l.take i ++ [x]
    rw [ih]
    rfl
theorem wipe_one (σ : L2.St) (i : Nat) (v : Option V) : wipe ((wipe σ [i]).set i v) [i] = wipe σ [i] := by
  show (((σ.set i none).set i v).set i none) = σ.set i none
  rw [List.set_set, List.set_set]
section
variable {K : PySem.W.Frag} {a : Addr} {xs : List V} {te : TE} {σ : L2.St} {H1 : Hp} {i : Nat}
/-- [e for x in t]: e says f x of x, and leaves what is tracked -/
theorem lc_tupF {Qd : Addr → Hp → Prop} (f : V → V) (hx : SqT K H1 a xs) (hz : xs.length < sizeLine) (el : ∀ x ∈ xs, ∀ (H : Hp) (Q : VK), Same H1 H → (∀ H', Same H H' → Q (f x) H') → te ((wipe σ [i]).set i (some x)) H Q) (fin : ∀ H' p, Same H1 H' → H1 p = none → H' p = some (.lst (xs.map f)) → Qd p H') :
    ∀ D, H1 D = none → ∃ W : Nat → Nat → Hp → Prop, (∃ m, W 0 m (upd H1 D (.lst []))) ∧ ∀ j m H, W j m H →
      ((Itt K a).stop j H ∧ Qd D H) ∨ ((Itt K a).go j H ∧ ∃ Nx : Hp → Prop, (∀ H', Nx H' → ∃ m', m' < m ∧ W (j + 1) m' H') ∧ ∀ x H', (Itt K a).yld j H x H' → gName i x (wipe σ [i]) H' fun σ2 H2 => wipe σ2 [i] = wipe σ [i] ∧ tYes σ2 H2 fun b H3 =>
        if b = true then te σ2 H3 fun y H4 => ∃ acc, H4 D = some (.lst acc) ∧ acc.length < sizeLine ∧ Nx (upd H4 D (.lst (acc ++ [y]))) else Nx H3) := by
  intro D hD
  refine lc_tup (xs := xs) (Qd := fun H => Qd D H) (fun j H => Same H1 H ∧ H D = some (.lst ((xs.take j).map f))) ⟨same_upd hD _, upd_same⟩ (fun j H _ p => Same.sqt p.1 hx) (fun j x H hj p => ?_) fun H p => ?_
  · refine ⟨wipe_one _ _ _, ?_⟩
    dsimp only [tYes]
    rw [if_pos rfl]
    refine el x (List.mem_of_getElem? hj) H _ p.1 fun H' s => ⟨_, s _ _ p.2, ?_, same_mut hD (Same.trans p.1 s), ?_⟩
    · rw [List.length_map, List.length_take]
      omega
    · rw [upd_same, take_more hj, List.map_append] <;> rfl
  · rw [List.take_length] at p
    exact fin H D p.1 hD p.2
/-- [e for x in l] -/
theorem lc_lstF {Qd : Addr → Hp → Prop} (f : V → V) (hx : SqL K H1 a xs) (hz : xs.length < sizeLine) (el : ∀ x ∈ xs, ∀ (H : Hp) (Q : VK), Same H1 H → (∀ H', Same H H' → Q (f x) H') → te ((wipe σ [i]).set i (some x)) H Q) (fin : ∀ H' p, Same H1 H' → H1 p = none → H' p = some (.lst (xs.map f)) → Qd p H') :
    ∀ D, H1 D = none → ∃ W : Nat → Nat → Hp → Prop, (∃ m, W 0 m (upd H1 D (.lst []))) ∧ ∀ j m H, W j m H →
      ((Itl K a).stop j H ∧ Qd D H) ∨ ((Itl K a).go j H ∧ ∃ Nx : Hp → Prop, (∀ H', Nx H' → ∃ m', m' < m ∧ W (j + 1) m' H') ∧ ∀ x H', (Itl K a).yld j H x H' → gName i x (wipe σ [i]) H' fun σ2 H2 => wipe σ2 [i] = wipe σ [i] ∧ tYes σ2 H2 fun b H3 =>
        if b = true then te σ2 H3 fun y H4 => ∃ acc, H4 D = some (.lst acc) ∧ acc.length < sizeLine ∧ Nx (upd H4 D (.lst (acc ++ [y]))) else Nx H3) := by
  intro D hD
  refine lc_list (xs := xs) (Qd := fun H => Qd D H) (fun j H => Same H1 H ∧ H D = some (.lst ((xs.take j).map f))) ⟨same_upd hD _, upd_same⟩ (fun j H _ p => p.1.seq hx) (fun j x H hj p => ?_) fun H p => ?_
  · refine ⟨wipe_one _ _ _, ?_⟩
    dsimp only [tYes]
    rw [if_pos rfl]
    refine el x (List.mem_of_getElem? hj) H _ p.1 fun H' s => ⟨_, s _ _ p.2, ?_, same_mut hD (Same.trans p.1 s), ?_⟩
    · rw [List.length_map, List.length_take]
      omega
    · rw [upd_same, take_more hj, List.map_append] <;> rfl
  · rw [List.take_length] at p
    exact fin H D p.1 hD p.2
theorem range_more (f : Nat → V) (n : Nat) : (List.range (n + 1)).map f = (List.range n).map f ++ [f n] := by rw [List.range_succ, List.map_append] <;> rfl
/-- [e for x in range(lo, lo + n)] -/
theorem lc_rngF {Qd : Addr → Hp → Prop} {lo : Int} {n : Nat} (f : Nat → V) (hz : n < sizeLine) (el : ∀ j, j < n → ∀ (H : Hp) (Q : VK), Same H1 H → (∀ H', Same H H' → Q (f j) H') → te ((wipe σ [i]).set i (some (.int (lo + j)))) H Q) (fin : ∀ H' p, Same H1 H' → H1 p = none → H' p = some (.lst ((List.range n).map f)) → Qd p H') :
    ∀ D, H1 D = none → ∃ W : Nat → Nat → Hp → Prop, (∃ m, W 0 m (upd H1 D (.lst []))) ∧ ∀ j m H, W j m H →
      ((Itr lo n).stop j H ∧ Qd D H) ∨ ((Itr lo n).go j H ∧ ∃ Nx : Hp → Prop, (∀ H', Nx H' → ∃ m', m' < m ∧ W (j + 1) m' H') ∧ ∀ x H', (Itr lo n).yld j H x H' → gName i x (wipe σ [i]) H' fun σ2 H2 => wipe σ2 [i] = wipe σ [i] ∧ tYes σ2 H2 fun b H3 =>
        if b = true then te σ2 H3 fun y H4 => ∃ acc, H4 D = some (.lst acc) ∧ acc.length < sizeLine ∧ Nx (upd H4 D (.lst (acc ++ [y]))) else Nx H3) := by
  intro D hD
  refine lc_range (Qd := fun H => Qd D H) (fun j H => j ≤ n ∧ Same H1 H ∧ H D = some (.lst ((List.range j).map f))) ⟨Nat.zero_le _, same_upd hD _, upd_same⟩ (fun j H hj p => ?_) fun H p => ?_
  · refine ⟨wipe_one _ _ _, ?_⟩
    dsimp only [tYes]
    rw [if_pos rfl]
    refine el j hj H _ p.2.1 fun H' s => ⟨_, s _ _ p.2.2, ?_, hj, same_mut hD (Same.trans p.2.1 s), ?_⟩
    · rw [List.length_map, List.length_range]
      omega
    · rw [upd_same, range_more]
  · exact fin H D p.2.1 hD p.2.2
/-- [x for x in l if t]: t says p x of x, and leaves what is tracked -/
theorem lc_lstP {Qd : Addr → Hp → Prop} {tt : TT} (f : V → V) (p : V → Bool) (hx : SqL K H1 a xs) (hz : xs.length < sizeLine) (tel : ∀ x ∈ xs, ∀ (H : Hp) (Q : Bool → Hp → Prop), Same H1 H → (∀ H', Same H H' → Q (p x) H') → tt ((wipe σ [i]).set i (some x)) H Q)
    (el : ∀ x ∈ xs, p x = true → ∀ (H : Hp) (Q : VK), Same H1 H → (∀ H', Same H H' → Q (f x) H') → te ((wipe σ [i]).set i (some x)) H Q) (fin : ∀ H' D, Same H1 H' → H1 D = none → H' D = some (.lst ((xs.filter p).map f)) → Qd D H') :
    ∀ D, H1 D = none → ∃ W : Nat → Nat → Hp → Prop, (∃ m, W 0 m (upd H1 D (.lst []))) ∧ ∀ j m H, W j m H →
      ((Itl K a).stop j H ∧ Qd D H) ∨ ((Itl K a).go j H ∧ ∃ Nx : Hp → Prop, (∀ H', Nx H' → ∃ m', m' < m ∧ W (j + 1) m' H') ∧ ∀ x H', (Itl K a).yld j H x H' → gName i x (wipe σ [i]) H' fun σ2 H2 => wipe σ2 [i] = wipe σ [i] ∧ tt σ2 H2 fun b H3 =>
        if b = true then te σ2 H3 fun y H4 => ∃ acc, H4 D = some (.lst acc) ∧ acc.length < sizeLine ∧ Nx (upd H4 D (.lst (acc ++ [y]))) else Nx H3) := by
  intro D hD
  refine lc_list (xs := xs) (Qd := fun H => Qd D H) (fun j H => Same H1 H ∧ H D = some (.lst (((xs.take j).filter p).map f))) ⟨same_upd hD _, upd_same⟩ (fun j H _ p => p.1.seq hx) (fun j x H hj q => ?_) fun H q => ?_
  · refine ⟨wipe_one _ _ _, ?_⟩
    have hm := List.mem_of_getElem? hj
    refine tel x hm H _ q.1 fun H' s => ?_
    cases hp : p x with
    | true =>
      rw [if_pos rfl]
      refine el x hm hp H' _ (Same.trans q.1 s) fun H2 s2 => ⟨_, s2 _ _ (s _ _ q.2), ?_, same_mut hD (Same.trans q.1 (Same.trans s s2)), ?_⟩
      · have l1 := List.length_filter_le p (xs.take j)
        rw [List.length_map]
        rw [List.length_take] at l1
        omega
      · rw [upd_same, take_more hj, List.filter_append, List.map_append]
        simp [hp]
    | false =>
      rw [if_neg Bool.false_ne_true]
      refine ⟨Same.trans q.1 s, ?_⟩
      rw [take_more hj, List.filter_append]
      simp [hp]
      exact s _ _ q.2
  · rw [List.take_length] at q
    exact fin H D q.1 hD q.2
end
end RL
/-! S13 -/
set_option Elab.async false
set_option linter.all false
set_option maxRecDepth 100000
set_option maxHeartbeats 2000000
namespace RL
open PySem PySem.Spec PyProof.Rows L2 PpSet
/-- place by place -/
inductive Each {α β : Type} (R : α → β → Prop) : List α → List β → Prop
  | nil : Each R [] []
  | cons {a : α} {b : β} {as : List α} {bs : List β} : R a b → Each R as bs → Each R (a :: as) (b :: bs)
theorem Each.snoc {α β : Type} {R : α → β → Prop} {a : α} {b : β} (h : R a b) : ∀ {as : List α} {bs : List β}, Each R as bs → Each R (as ++ [a]) (bs ++ [b])
  | _, _, .nil => .cons h .nil
  | _, _, .cons q t => .cons q (Each.snoc h t)
theorem Each.imp {α β : Type} {R S : α → β → Prop} (f : ∀ a b, R a b → S a b) : ∀ {as : List α} {bs : List β}, Each R as bs → Each S as bs
  | _, _, .nil => .nil
  | _, _, .cons q t => .cons (f _ _ q) (Each.imp f t)
theorem Each.length {α β : Type} {R : α → β → Prop} : ∀ {as : List α} {bs : List β}, Each R as bs → as.length = bs.length
  | _, _, .nil => rfl
  | _, _, .cons _ t => congrArg (· + 1) (Each.length t)
/-- the tuples stand, and what is locked -/
def Stay (H H' : Hp) : Prop := (∀ b xs, H b = some (.tup xs) → H' b = some (.tup xs)) ∧ ∀ b o u, H b = some (.frz o u) → H' b = some (.frz o u)
theorem Stay.refl (H : Hp) : Stay H H := ⟨fun _ _ h => h, fun _ _ _ h => h⟩
theorem Stay.trans {H H1 H2 : Hp} (a : Stay H H1) (b : Stay H1 H2) : Stay H H2 := ⟨fun c x h => b.1 c x (a.1 c x h), fun c o u h => b.2 c o u (a.2 c o u h)⟩
theorem stay_of {H H' : Hp} (s : Same H H') : Stay H H' := ⟨fun b _ h => s b _ h, fun b _ _ h => s b _ h⟩
theorem stay_upd {H : Hp} {D : Addr} {o o' : HO} (hD : H D = some o) (n1 : ∀ ys, o ≠ .tup ys) (n2 : ∀ ob u, o ≠ .frz ob u) : Stay H (upd H D o') :=
  ⟨fun b xs h => by rw [upd_ne (fun z => by rw [z, hD] at h; exact n1 _ (Option.some.inj h))]; exact h, fun b ob u h => by rw [upd_ne (fun z => by rw [z, hD] at h; exact n2 _ _ (Option.some.inj h))]; exact h⟩
theorem stay_lst {H : Hp} {D : Addr} {xs : List V} {o' : HO} (hD : H D = some (.lst xs)) : Stay H (upd H D o') := stay_upd hD (fun _ z => nomatch z) (fun _ _ z => nomatch z)
theorem stay_set {P : Program} {w : World} {H : Hp} {D : Addr} {L : List (Addr × List Int)} {o' : HO} (hD : H D = some (SetTO P w D L)) : Stay H (upd H D o') := stay_upd hD (fun _ z => by unfold SetTO at z; cases z) (fun _ _ z => by unfold SetTO at z; cases z)
theorem Stay.sqt {K : PySem.W.Frag} {H H' : Hp} {a : Addr} {xs : List V} (e : Stay H H') (h : SqT K H a xs) : SqT K H' a xs := by
  rcases h with (h | ⟨o, h⟩) | h
  · exact .inl (.inl (e.1 _ _ h))
  · exact .inl (.inr ⟨o, e.2 _ _ _ h⟩)
  · exact .inr h
theorem IsW.stay {K : PySem.W.Frag} {H H' : Hp} {v : V} {k : List Int} (e : Stay H H') (h : IsW K H v k) : IsW K H' v k := let ⟨a, q, s⟩ := h; ⟨a, q, e.sqt s⟩
section
variable {K : PySem.W.Frag} {a : Addr} {xs : List V} {te : TE} {σ : L2.St} {H1 : Hp} {i : Nat}
/-- one turn of a comprehension that makes something new -/
theorem turn_new {R : Hp → V → V → Prop} (mono : ∀ H H' x y, Stay H H' → R H x y → R H' x y) {H H' : Hp} {D : Addr} {zs ys : List V} {x y : V} (hD : H1 D = none) (s : Same H1 H) (s2 : Same H H') (hys : H D = some (.lst ys)) (e : Each (R H) zs ys) (r : R H' x y) :
    H' D = some (.lst ys) ∧ Same H1 (upd H' D (.lst (ys ++ [y]))) ∧ ∃ ys', upd H' D (.lst (ys ++ [y])) D = some (.lst ys') ∧ Each (R (upd H' D (.lst (ys ++ [y])))) (zs ++ [x]) ys' := by
  have h := s2 _ _ hys
  have st := stay_lst (o' := .lst (ys ++ [y])) h
  exact ⟨h, same_mut hD (Same.trans s s2), _, upd_same, Each.snoc (mono _ _ _ _ st r) (e.imp fun a b q => mono _ _ _ _ (Stay.trans (stay_of s2) st) q)⟩
/-- [e for x in l], e makes something new -/
theorem lc_lstR {Qd : Addr → Hp → Prop} (R : Hp → V → V → Prop) (mono : ∀ H H' x y, Stay H H' → R H x y → R H' x y) (hx : SqL K H1 a xs) (hz : xs.length < sizeLine) (el : ∀ x ∈ xs, ∀ (H : Hp) (Q : VK), Same H1 H → (∀ H' y, Same H H' → R H' x y → Q y H') → te ((wipe σ [i]).set i (some x)) H Q)
    (fin : ∀ H' p ys, Same H1 H' → H1 p = none → H' p = some (.lst ys) → Each (R H') xs ys → Qd p H') :
    ∀ D, H1 D = none → ∃ W : Nat → Nat → Hp → Prop, (∃ m, W 0 m (upd H1 D (.lst []))) ∧ ∀ j m H, W j m H →
      ((Itl K a).stop j H ∧ Qd D H) ∨ ((Itl K a).go j H ∧ ∃ Nx : Hp → Prop, (∀ H', Nx H' → ∃ m', m' < m ∧ W (j + 1) m' H') ∧ ∀ x H', (Itl K a).yld j H x H' → gName i x (wipe σ [i]) H' fun σ2 H2 => wipe σ2 [i] = wipe σ [i] ∧ tYes σ2 H2 fun b H3 =>
        if b = true then te σ2 H3 fun y H4 => ∃ acc, H4 D = some (.lst acc) ∧ acc.length < sizeLine ∧ Nx (upd H4 D (.lst (acc ++ [y]))) else Nx H3) := by
  intro D hD
  refine lc_list (xs := xs) (Qd := fun H => Qd D H) (fun j H => Same H1 H ∧ ∃ ys, H D = some (.lst ys) ∧ Each (R H) (xs.take j) ys) ⟨same_upd hD _, [], upd_same, .nil⟩ (fun j H _ p => p.1.seq hx) (fun j x H hj p => ?_) fun H p => ?_
  · obtain ⟨s, ys, hys, e⟩ := p
    refine ⟨wipe_one _ _ _, ?_⟩
    dsimp only [tYes]
    rw [if_pos rfl]
    refine el x (List.mem_of_getElem? hj) H _ s fun H' y s2 r => ?_
    obtain ⟨h1, h2, h3⟩ := turn_new mono hD s s2 hys e r
    refine ⟨ys, h1, ?_, h2, by rw [take_more hj]; exact h3⟩
    have := e.length
    rw [List.length_take] at this
    omega
  · obtain ⟨s, ys, hys, e⟩ := p
    rw [List.take_length] at e
    exact fin H D ys s hD hys e
/-- [e for x in range(lo, lo + n)], e makes something new -/
theorem lc_rngR {Qd : Addr → Hp → Prop} {lo : Int} {n : Nat} (R : Hp → V → V → Prop) (mono : ∀ H H' x y, Stay H H' → R H x y → R H' x y) (hz : n < sizeLine) (el : ∀ j, j < n → ∀ (H : Hp) (Q : VK), Same H1 H → (∀ H' y, Same H H' → R H' (.int (lo + j)) y → Q y H') → te ((wipe σ [i]).set i (some (.int (lo + j)))) H Q)
    (fin : ∀ H' p ys, Same H1 H' → H1 p = none → H' p = some (.lst ys) → Each (R H') ((List.range n).map fun j => V.int (lo + (j : Nat))) ys → Qd p H') :
    ∀ D, H1 D = none → ∃ W : Nat → Nat → Hp → Prop, (∃ m, W 0 m (upd H1 D (.lst []))) ∧ ∀ j m H, W j m H →
      ((Itr lo n).stop j H ∧ Qd D H) ∨ ((Itr lo n).go j H ∧ ∃ Nx : Hp → Prop, (∀ H', Nx H' → ∃ m', m' < m ∧ W (j + 1) m' H') ∧ ∀ x H', (Itr lo n).yld j H x H' → gName i x (wipe σ [i]) H' fun σ2 H2 => wipe σ2 [i] = wipe σ [i] ∧ tYes σ2 H2 fun b H3 =>
        if b = true then te σ2 H3 fun y H4 => ∃ acc, H4 D = some (.lst acc) ∧ acc.length < sizeLine ∧ Nx (upd H4 D (.lst (acc ++ [y]))) else Nx H3) := by
  intro D hD
  refine lc_range (Qd := fun H => Qd D H) (fun j H => j ≤ n ∧ Same H1 H ∧ ∃ ys, H D = some (.lst ys) ∧ Each (R H) ((List.range j).map fun j => V.int (lo + (j : Nat))) ys) ⟨Nat.zero_le _, same_upd hD _, [], upd_same, .nil⟩ (fun j H hj p => ?_) fun H p => ?_
  · obtain ⟨_, s, ys, hys, e⟩ := p
    refine ⟨wipe_one _ _ _, ?_⟩
    dsimp only [tYes]
    rw [if_pos rfl]
    refine el j hj H _ s fun H' y s2 r => ?_
    obtain ⟨h1, h2, h3⟩ := turn_new mono hD s s2 hys e r
    refine ⟨ys, h1, ?_, hj, h2, by rw [range_more (fun j => V.int (lo + (j : Nat)))]; exact h3⟩
    have := e.length
    rw [List.length_map, List.length_range] at this
    omega
  · obtain ⟨_, s, ys, hys, e⟩ := p
    exact fin H D ys s hD hys e
end
end RL
/-! S15 -/
set_option Elab.async false
set_option linter.all false
set_option maxRecDepth 100000
set_option maxHeartbeats 2000000
namespace RL
open PySem PySem.Spec PyProof.Rows L2 PpSet
section
variable {K : PySem.W.Frag} {a : Addr} {xs : List V} {te : TE} {σ : L2.St} {H1 : Hp} {i : Nat}
theorem turn_newA {α : Type} {R : Hp → α → V → Prop} (mono : ∀ H H' x y, Stay H H' → R H x y → R H' x y) {H H' : Hp} {D : Addr} {zs : List α} {ys : List V} {x : α} {y : V} (hD : H1 D = none) (s : Same H1 H) (s2 : Same H H') (hys : H D = some (.lst ys)) (e : Each (R H) zs ys) (r : R H' x y) :
    H' D = some (.lst ys) ∧ Same H1 (upd H' D (.lst (ys ++ [y]))) ∧ ∃ ys', upd H' D (.lst (ys ++ [y])) D = some (.lst ys') ∧ Each (R (upd H' D (.lst (ys ++ [y])))) (zs ++ [x]) ys' := by
  have h := s2 _ _ hys
  have st := stay_lst (o' := .lst (ys ++ [y])) h
  exact ⟨h, same_mut hD (Same.trans s s2), _, upd_same, Each.snoc (mono _ _ _ _ st r) (e.imp fun a b q => mono _ _ _ _ (Stay.trans (stay_of s2) st) q)⟩
/-- [e for x in l], e makes something new; l's items are named by other things -/
theorem lc_lstA {α : Type} {Qd : Addr → Hp → Prop} {zs : List α} (f : α → V) (R : Hp → α → V → Prop) (mono : ∀ H H' x y, Stay H H' → R H x y → R H' x y) (hx : SqL K H1 a (zs.map f)) (hz : zs.length < sizeLine) (el : ∀ z ∈ zs, ∀ (H : Hp) (Q : VK), Same H1 H → (∀ H' y, Same H H' → R H' z y → Q y H') → te ((wipe σ [i]).set i (some (f z))) H Q)
    (fin : ∀ H' p ys, Same H1 H' → H1 p = none → H' p = some (.lst ys) → Each (R H') zs ys → Qd p H') :
    ∀ D, H1 D = none → ∃ W : Nat → Nat → Hp → Prop, (∃ m, W 0 m (upd H1 D (.lst []))) ∧ ∀ j m H, W j m H →
      ((Itl K a).stop j H ∧ Qd D H) ∨ ((Itl K a).go j H ∧ ∃ Nx : Hp → Prop, (∀ H', Nx H' → ∃ m', m' < m ∧ W (j + 1) m' H') ∧ ∀ x H', (Itl K a).yld j H x H' → gName i x (wipe σ [i]) H' fun σ2 H2 => wipe σ2 [i] = wipe σ [i] ∧ tYes σ2 H2 fun b H3 =>
        if b = true then te σ2 H3 fun y H4 => ∃ acc, H4 D = some (.lst acc) ∧ acc.length < sizeLine ∧ Nx (upd H4 D (.lst (acc ++ [y]))) else Nx H3) := by
  intro D hD
  refine lc_list (xs := zs.map f) (Qd := fun H => Qd D H) (fun j H => Same H1 H ∧ ∃ ys, H D = some (.lst ys) ∧ Each (R H) (zs.take j) ys) ⟨same_upd hD _, [], upd_same, .nil⟩ (fun j H _ p => p.1.seq hx) (fun j x H hj p => ?_) fun H p => ?_
  · obtain ⟨s, ys, hys, e⟩ := p
    rw [List.getElem?_map] at hj
    obtain ⟨z, hz', rfl⟩ := Option.map_eq_some_iff.mp hj
    refine ⟨wipe_one _ _ _, ?_⟩
    dsimp only [tYes]
    rw [if_pos rfl]
    refine el z (List.mem_of_getElem? hz') H _ s fun H' y s2 r => ?_
    obtain ⟨h1, h2, h3⟩ := turn_newA mono hD s s2 hys e r
    refine ⟨ys, h1, ?_, h2, by rw [take_more hz']; exact h3⟩
    have := e.length
    rw [List.length_take] at this
    omega
  · obtain ⟨s, ys, hys, e⟩ := p
    rw [List.length_map, List.take_length] at e
    exact fin H D ys s hD hys e
/-- as lc_rngR, the indices by their number -/
theorem lc_rngA {Qd : Addr → Hp → Prop} {lo : Int} {n : Nat} (R : Hp → Nat → V → Prop) (mono : ∀ H H' x y, Stay H H' → R H x y → R H' x y) (hz : n < sizeLine) (el : ∀ j, j < n → ∀ (H : Hp) (Q : VK), Same H1 H → (∀ H' y, Same H H' → R H' j y → Q y H') → te ((wipe σ [i]).set i (some (.int (lo + j)))) H Q)
    (fin : ∀ H' p ys, Same H1 H' → H1 p = none → H' p = some (.lst ys) → Each (R H') (List.range n) ys → Qd p H') :
    ∀ D, H1 D = none → ∃ W : Nat → Nat → Hp → Prop, (∃ m, W 0 m (upd H1 D (.lst []))) ∧ ∀ j m H, W j m H →
      ((Itr lo n).stop j H ∧ Qd D H) ∨ ((Itr lo n).go j H ∧ ∃ Nx : Hp → Prop, (∀ H', Nx H' → ∃ m', m' < m ∧ W (j + 1) m' H') ∧ ∀ x H', (Itr lo n).yld j H x H' → gName i x (wipe σ [i]) H' fun σ2 H2 => wipe σ2 [i] = wipe σ [i] ∧ tYes σ2 H2 fun b H3 =>
        if b = true then te σ2 H3 fun y H4 => ∃ acc, H4 D = some (.lst acc) ∧ acc.length < sizeLine ∧ Nx (upd H4 D (.lst (acc ++ [y]))) else Nx H3) := by
  intro D hD
  refine lc_range (Qd := fun H => Qd D H) (fun j H => j ≤ n ∧ Same H1 H ∧ ∃ ys, H D = some (.lst ys) ∧ Each (R H) (List.range j) ys) ⟨Nat.zero_le _, same_upd hD _, [], upd_same, .nil⟩ (fun j H hj p => ?_) fun H p => ?_
  · obtain ⟨_, s, ys, hys, e⟩ := p
    refine ⟨wipe_one _ _ _, ?_⟩
    dsimp only [tYes]
    rw [if_pos rfl]
    refine el j hj H _ s fun H' y s2 r => ?_
    obtain ⟨h1, h2, h3⟩ := turn_newA mono hD s s2 hys e r
    refine ⟨ys, h1, ?_, hj, h2, by rw [List.range_succ]; exact h3⟩
    have := e.length
    rw [List.length_range] at this
    omega
  · obtain ⟨_, s, ys, hys, e⟩ := p
    exact fin H D ys s hD hys e
end
end RL
/-! S14 -/
set_option Elab.async false
set_option linter.all false
set_option maxRecDepth 100000
namespace RL
open PySem PySem.Spec PyProof.Rows L2
variable {X : Cx}
theorem op_catK {K : PySem.W.Frag} (hK : X.K = K) : OpR X (binaryOp .Add) (rCatS K) := hK ▸ op_catS
theorem pe_revK {K : PySem.W.Frag} (hK : X.K = K) {e : Expr} {te : TE} {k : Nat} {p1 p2 p3 pos : Pos} (he : PE X e te) : PE X (.Subscript e (.Slice none none (some (.UnaryOp .USub (.Constant (.int 1) k p1) p2)) p3) pos) (tRevS K te) := hK ▸ pe_revS he
theorem pe_tupK {K : PySem.W.Frag} (hK : X.K = K) {es : List Expr} {t : TA} {x1} {pos : Pos} (h : PA X es t) : PE X (.Tuple es x1 pos) (tTupS K t) := hK ▸ pe_tupS h
theorem pg_tupK {K : PySem.W.Frag} (hK : X.K = K) {es : List Expr} {k : Nat} {t : TGs} {n : Nat} {pos : Pos} (hc : X.calm = true) (h : PGs X es t)
    (hn : (assignEach es X.env).length = n := by rfl) (hst : (assignEach es X.env).findIdx? (·.1) = none := by rfl) : PG X (.Tuple es k pos) (gTup K n t) := hK ▸ pg_tup hc h hn hst
theorem call_isiK {K : PySem.W.Frag} (hK : X.K = K) : CallR X (.builtin "isinstance") (rIsi K) := hK ▸ call_isi
theorem tt_mid {tt : TT} {σ : L2.St} {H : Hp} {k : Bool → Hp → Prop} (Pr : Bool → Prop) (h : ∀ b, Pr b → k b H) (f : ∀ k' : Bool → Hp → Prop, (∀ b, Pr b → k' b H) → tt σ H k') : tt σ H k := f k h
theorem passE0 {X : Cx} : Passes (CX X.prog X.w) X E0 := fun _ _ _ _ _ _ _ ⟨_, _, _, _, _, _, _, _, _, _, _, _, z⟩ => z.elim
theorem noStopE0 {K : PySem.W.Frag} : NoStop K E0 := fun _ _ _ h => h.elim
end RL
/-! S24 -/
set_option Elab.async false
set_option linter.all false
set_option maxRecDepth 100000
set_option maxHeartbeats 2000000
/-! a for of a generator's body -/
namespace RL
open PySem PySem.Spec PyProof.Rows L2 GenW
section
variable {M : Model} {A : Around} {R : GenEnd} {Y : Protocol} {n : Nat} {s₀ : Shared} {c : Code} {fs : List Frame} {s : Shared} {env : Env}
  {K : Flow → Sem PySem.Fin} {J : Value → Sem PySem.Fin} {gd : Bool → Bool} {lv : List Value → List Value}
theorem seg_For {target iter : Expr} {body orelse : List Stmt} {pos : Pos}
    (h : wpAny M (A.over c fs) (eval iter env) (fun x s₁ => wpAny M (A.over c fs) (pyIter x) (fun it s₂ =>
      ∀ p, Seg M A R Y n s₀ (.forLoop target it body orelse env) (M.den (.forLoop target it body orelse env))
        (.ret (fun r => ((match r with | .ok f => (.pure f : Sem Flow) | .error e => .raise e).onRaise (cameBack env)).wrap K J gd lv) none (gd false) (lv []) c p [] :: fs) s₂)
      (fun x s' => Seg M A R Y n s₀ c (J x) fs s') s₁) (fun x s' => Seg M A R Y n s₀ c (J x) fs s') s)
    (hs : ∀ x, foldedSetIterable iter env x = pure x) :
    Seg M A R Y n s₀ c ((exec (.For target iter body orelse pos) env).wrap K J gd lv) fs s := by
  rw [exec_For]
  refine seg_bind_wrap (wpAny_standAt (seg_bind_wrap (wpAny_mono h (fun x s1 h1 => ?_) fun _ _ z => z)))
  refine seg_bind_wrap (wpAny_of_eq (hs x) (seg_bind_wrap (wpAny_standAt (seg_bind_wrap (wpAny_holding (wpAny_mono h1 (fun it s2 h2 => ?_) fun _ _ z => z))))))
  exact seg_call h2
end
section
variable {prog : Program} {w : World} {A : Around} {R : GenEnd} {Y : Protocol} {n : Nat} {s₀ : Shared} {fs : List Frame} {s : Shared} {env : Env}
theorem seg_block_nil (h : Seg (model prog w) A R Y n s₀ (.block [] env) (.pure (.done .next)) fs s) : Seg (model prog w) A R Y n s₀ (.block [] env) ((model prog w).den (.block [] env)) fs s := h
theorem seg_forLoop {target : Expr} {it : Value} {body : List Stmt}
    (h : wpAny (model prog w) (A.over (.forLoop target it body [] env) fs) (pyNext it) (fun r s1 => match r with
        | none => Seg (model prog w) A R Y n s₀ (.forLoop target it body [] env) (.pure (.again (.block [] env))) fs s1
        | some v => wpAny (model prog w) (A.over (.forLoop target it body [] env) fs) (letOwnedTupleGo target it v) (fun _ s1' =>
            wpAny (model prog w) (A.over (.forLoop target it body [] env) fs) (assign target env v) (fun _ s2 =>
              Seg (model prog w) A R Y n s₀ (.forLoop target it body [] env) ((execs body env).wrap (fun f => match f with
                | .next | .cont => .pure (.again (.forLoop target it body [] env))
                | .brk => .pure (.done .next)
                | .ret v => .pure (.done (.ret v))) (fun e => (do noteFrame e env; theTreesLotGoes e : Sem Unit).wrap (fun _ => .raise e) .raise id id) id id) fs s2)
              (fun x s' => Seg (model prog w) A R Y n s₀ (.forLoop target it body [] env) ((do noteFrame x env; theTreesLotGoes x : Sem Unit).wrap (fun _ => .raise x) .raise id id) fs s') s1')
            (fun x s' => Seg (model prog w) A R Y n s₀ (.forLoop target it body [] env) ((do noteFrame x env; theTreesLotGoes x : Sem Unit).wrap (fun _ => .raise x) .raise id id) fs s') s1)
      (fun x s' => Seg (model prog w) A R Y n s₀ (.forLoop target it body [] env) ((do noteFrame x env; theTreesLotGoes x : Sem Unit).wrap (fun _ => .raise x) .raise id id) fs s') s) :
    Seg (model prog w) A R Y n s₀ (.forLoop target it body [] env) ((model prog w).den (.forLoop target it body [] env)) fs s := by
  show Seg _ A R Y n s₀ _ ((forTurn target it body [] env).onRaise (fun x => do noteFrame x env; theTreesLotGoes x)) fs s
  have e : ((forTurn target it body [] env).onRaise (fun x => do noteFrame x env; theTreesLotGoes x)) = (forTurn target it body [] env).wrap .pure (fun e => (do noteFrame e env; theTreesLotGoes e : Sem Unit).wrap (fun _ => .raise e) .raise id id) id id := by
    rw [Sem.onRaise_eq_wrap]
    exact Sem.wrap_congr _ _ _ (fun f => rfl) (fun e => Sem.bind_eq_wrap _ _)
  rw [e]
  unfold forTurn
  refine seg_bind_wrap (wpAny_standAt (seg_bind_wrap (wpAny_onRaise (wpAny_mono h (fun r s1 h1 => ?_) fun _ _ z => wpAny_standAt z))))
  cases r with
  | none => exact h1
  | some v =>
    refine seg_bind_wrap (wpAny_mono h1 (fun _ s2 h2 => seg_bind_wrap (wpAny_mono h2 (fun _ s3 h3 => ?_) fun _ _ z => z)) fun _ _ z => z)
    rw [Sem.bind_eq_wrap', Sem.wrap_wrap]
    refine Eq.mpr (congrArg (fun t => Seg (model prog w) A R Y n s₀ (.forLoop target it body [] env) t fs s3) (Sem.wrap_congr (execs body env) _ _ (K' := fun f => match f with
            | .next | .cont => .pure (.again (.forLoop target it body [] env))
            | .brk => .pure (.done .next)
            | .ret v => .pure (.done (.ret v))) (H' := (fun e => (do noteFrame e env; theTreesLotGoes e : Sem Unit).wrap (fun _ => .raise e) .raise id id))
        (fun f => by cases f <;> rfl) (fun e => rfl))) h3
end
/-- as tFor, by what is out so far -/
def tGFor (wi : TI) (g : TG) (tb : TGn) : TGn := fun D ys σ H => wi σ H fun J H1 => ∃ W : Nat → Nat → List V → L2.St → Hp → Prop, (∃ m, W 0 m ys σ H1) ∧ ∀ i m ys σ H, W i m ys σ H →
  (J.stop i H ∧ D.nx ys σ H) ∨ (J.go i H ∧ ∃ N : List V → L2.St → Hp → Prop, (∀ ys' σ' H', N ys' σ' H' → ∃ m', m' < m ∧ W (i + 1) m' ys' σ' H') ∧ ∀ x H', J.yld i H x H' → g x σ H' fun σ2 H2 => tb { D with nx := N, ct := N, bk := D.nx } ys σ2 H2)
section
variable {X : Cx}
theorem gs_for {tg iter : Expr} {body : List Stmt} {pos : Pos} {wi : TI} {g : TG} {tb : TGn} (hp : PassesOwn (model X.prog X.w) X.A X.env X.xe) (hc : X.calm = true) (hi : PI X tg iter wi) (hg : PG X tg g) (hb : GSs X body tb)
    (hs : ∀ x, foldedSetIterable iter X.env x = pure x := by intro _; rfl) : GS X (.For tg iter body [] pos) (tGFor wi g tb) := by
  refine ⟨fun A S ip R n ys s₀ c fs K J gd lv s σ H D gc hn k hI ht => ?_⟩
  obtain ⟨acc, cc, r, I⟩ := hI
  refine seg_For ?_ hs
  rw [gc.over]
  refine wpAny_mono (hi.run _ s σ H _ I ht) (fun v s1 h1 => wpAny_mono h1 (fun itv s2 h2 => ?_) fun x s' hx => k.exc n s₀ x s' hx) fun x s' hx => k.exc n s₀ x s' hx
  obtain ⟨it, fp, tn, Jt, H2, e, I2, T, st2, f2, W, ⟨m0, w0⟩, turn⟩ := h2
  subst e
  intro p
  have gl := fun (kk : Result → Sem PySem.Fin) => gc_loop (k := kk) (c' := .forLoop tg (.ref it) body [] X.env) (l := lv []) (kp := []) (p := p) gc rfl rfl
  -- what stays true of the iterator's objects through the loop
  have nS : ∀ b ∈ fp, S ≠ b := fun b hb => (f2 b hb).2.2.2.2.2 (S, lstObj acc cc) (List.mem_append_right _ List.mem_cons_self)
  have stat : ∀ {H' : Hp} {acc' : Array Value} {cc' : Nat}, (∀ b ∈ fp, H' b = none) → ∀ b ∈ fp, FpOk X ((S, lstObj acc' cc') :: ip) H' b := fun hn b hb => by
    obtain ⟨_, q2, q3, q4, q5, q6⟩ := f2 b hb
    refine ⟨hn b hb, q2, q3, q4, q5, fun p hp => ?_⟩
    rcases List.mem_append.mp hp with hp | hp
    · exact q6 p (List.mem_append_left _ hp)
    · rcases List.mem_cons.mp hp with hp | hp
      · rw [hp]; exact nS b hb
      · exact q6 p (List.mem_append_right _ (List.mem_cons_of_mem _ hp))
  have loop : ∀ (m i n : Nat) (ys : List V) (s₀ s : Shared) (σ : L2.St) (H : Hp), n + ys.length = sizeLine → W i m ys σ H → GI X S ip ys σ H s → tn i s.heap → (∀ b ∈ fp, H b = none) →
      Seg (model X.prog X.w) A R (GY X S) n s₀ (.forLoop tg (.ref it) body [] X.env) ((model X.prog X.w).den (.forLoop tg (.ref it) body [] X.env))
        (.ret (fun r => ((match r with | .ok f => (.pure f : Sem Flow) | .error e => .raise e).onRaise (cameBack X.env)).wrap K J gd lv) none (gd false) (lv []) c p [] :: fs) s := by
    intro m
    induction m using Nat.strongRecOn with
    | ind m ih =>
      intro i n ys s₀ s σ H hn w hI st fr
      have ee : ∀ (n : Nat) (s₀ : Shared) (x : Value) (s' : Shared), X.xe x s' → Seg (model X.prog X.w) A R (GY X S) n s₀ (.forLoop tg (.ref it) body [] X.env)
          ((do noteFrame x X.env; theTreesLotGoes x : Sem Unit).wrap (fun _ => .raise x) .raise id id)
          (.ret (fun r => ((match r with | .ok f => (.pure f : Sem Flow) | .error e => .raise e).onRaise (cameBack X.env)).wrap K J gd lv) none (gd false) (lv []) c p [] :: fs) s' := fun n s₀ x s' hx => by
        refine seg_wrap ?_
        rw [(gl _).over]
        refine wpAny_bind (wpAny_mono (hp x s' hx) (fun _ s'' hcb => wpAny_theTreesLotGoes ?_) fun y s'' hcb => ?_)
        · exact seg_leaf (.error x) (seg_cameBack gc k hcb)
        · exact seg_leaf (.error y) (seg_cameBack gc k hcb)
      refine seg_forLoop ?_
      rw [(gl _).over]
      obtain ⟨acc, cc, r, I⟩ := hI
      rcases turn i m ys σ H w with ⟨stop, qn⟩ | ⟨go, N, hN, step⟩
      · refine wpAny_mono (T.done X rfl rfl rfl hc i _ s σ H X.xe I (stat fr) st stop) (fun rr s4 h4 => ?_) fun x s' hx => ee n s₀ x s' hx
        obtain ⟨rfl, I4⟩ := h4
        refine seg_again rfl (seg_block_nil ?_)
        exact seg_leaf (.ok .next) (k.ok n ys s₀ s4 .next hn ⟨σ, H, ⟨acc, cc, r, I4⟩, qn⟩)
      · refine wpAny_mono (T.item X rfl rfl rfl hc i _ s σ H X.xe I (stat fr) st go) (fun rr s4 h4 => ?_) fun x s' hx => ee n s₀ x s' hx
        obtain ⟨u, rfl, h4⟩ := h4
        refine wpAny_mono h4 (fun _ s5 h5 => ?_) fun x s' hx => ee n s₀ x s' hx
        obtain ⟨x, H5, I5, r5, y5, st5, fr5⟩ := h5
        have I5' : Inv X ((S, lstObj acc cc) :: (ip ++ pinsAt fp s5.heap)) σ H5 s5 := I5.pinned (stat fr5) (T.obj _ _ st5)
        refine wpAny_mono (hg.run _ s5 σ H5 x u _ I5' r5 (step x H5 y5)) (fun _ s6 h6 => ?_) fun x s' hx => ee n s₀ x s' hx
        obtain ⟨σ6, H6, I6, q6⟩ := h6
        have gl' : GC X S (ip ++ pinsAt fp s5.heap) A (.forLoop tg (.ref it) body [] X.env) (.ret (fun r => ((match r with | .ok f => (.pure f : Sem Flow) | .error e => .raise e).onRaise (cameBack X.env)).wrap K J gd lv) none (gd false) (lv []) c p [] :: fs) id :=
          { gl _ with ip := fun q hq => (List.mem_append.mp hq).elim (gc.ip q) fun z => Ne.symm (nS q.1 (of_pinsAt z).1) }
        have back : ∀ {ys' : List V} {σ7 : L2.St} {H7 : Hp} {s7 : Shared}, GI X S (ip ++ pinsAt fp s5.heap) ys' σ7 H7 s7 → GI X S ip ys' σ7 H7 s7 ∧ tn (i + 1) s7.heap ∧ ∀ b ∈ fp, H7 b = none := fun {ys' σ7 H7 s7} h7 => by
          obtain ⟨acc7, cc7, r7, I7⟩ := h7
          refine ⟨⟨acc7, cc7, r7, I7.pins_of fun q hq => I7.pin q (List.mem_append_right _ ?_)⟩, T.keep _ _ _ st5 fun b hb o e => (I7.pin (b, o) (List.mem_append_right _ (List.mem_cons_of_mem _ (List.mem_append_right _ (mem_pinsAt hb e))))).1, fun b hb => ?_⟩
          · rcases List.mem_cons.mp hq with z | z
            · rw [z]; exact List.mem_cons_self
            · exact List.mem_cons_of_mem _ (List.mem_append_left _ z)
          · obtain ⟨o, e, d⟩ := T.obj _ _ st5 b hb
            exact (I7.pin (b, o) (List.mem_append_right _ (List.mem_cons_of_mem _ (List.mem_append_right _ (mem_pinsAt hb e))))).2.1
        refine hb.run A S (ip ++ pinsAt fp s5.heap) R n ys s₀ _ _ _ _ id id s6 σ6 H6 { D with nx := N, ct := N, bk := D.nx } gl' hn ⟨fun n' ys' s₀' s7 f hn' hs7 => ?_, fun n' s₀' x s7 hx => ee n' s₀' x s7 hx⟩ ⟨acc, cc, r, I6⟩ q6
        cases f with
        | next =>
          obtain ⟨σ7, H7, I7, n7⟩ := hs7
          obtain ⟨m', hm, w7⟩ := hN ys' σ7 H7 n7
          obtain ⟨b1, b2, b3⟩ := back I7
          exact seg_again rfl (ih m' hm (i + 1) n' ys' s₀' s7 σ7 H7 hn' w7 b1 b2 b3)
        | cont =>
          obtain ⟨σ7, H7, I7, n7⟩ := hs7
          obtain ⟨m', hm, w7⟩ := hN ys' σ7 H7 n7
          obtain ⟨b1, b2, b3⟩ := back I7
          exact seg_again rfl (ih m' hm (i + 1) n' ys' s₀' s7 σ7 H7 hn' w7 b1 b2 b3)
        | brk =>
          obtain ⟨σ7, H7, I7, n7⟩ := hs7
          exact seg_leaf (.ok .next) (k.ok n' ys' s₀' s7 .next hn' ⟨σ7, H7, (back I7).1, n7⟩)
        | ret v =>
          obtain ⟨x7, σ7, H7, I7, rv, n7⟩ := hs7
          exact seg_leaf (.ok (.ret v)) (k.ok n' ys' s₀' s7 (.ret v) hn' ⟨x7, σ7, H7, (back I7).1, rv, n7⟩)
  exact loop m0 0 n ys s₀ s2 σ H2 hn w0 ⟨acc, cc, r, I2⟩ st2 fun b hb => (f2 b hb).1
end
/-- over a range that is walked to its end -/
theorem gfor_range {lo : Int} {n : Nat} {g : TG} {tb : TGn} {D : GEnds} {ys : List V} {σ : L2.St} {H : Hp} (Pv : Nat → List V → L2.St → Hp → Prop) (h0 : Pv 0 ys σ H)
    (hs : ∀ i ys σ H, i < n → Pv i ys σ H → g (.int (lo + i)) σ H fun σ2 H2 => tb { D with nx := Pv (i + 1), ct := Pv (i + 1), bk := D.nx } ys σ2 H2) (hd : ∀ ys σ H, Pv n ys σ H → D.nx ys σ H) :
    ∃ W : Nat → Nat → List V → L2.St → Hp → Prop, (∃ m, W 0 m ys σ H) ∧ ∀ i m ys σ H, W i m ys σ H →
      ((Itr lo n).stop i H ∧ D.nx ys σ H) ∨ ((Itr lo n).go i H ∧ ∃ N : List V → L2.St → Hp → Prop, (∀ ys' σ' H', N ys' σ' H' → ∃ m', m' < m ∧ W (i + 1) m' ys' σ' H') ∧ ∀ x H', (Itr lo n).yld i H x H' → g x σ H' fun σ2 H2 => tb { D with nx := N, ct := N, bk := D.nx } ys σ2 H2) := by
  refine ⟨fun i m ys σ H => m = n - i ∧ i ≤ n ∧ Pv i ys σ H, ⟨n, by simp, Nat.zero_le _, h0⟩, ?_⟩
  rintro i m ys σ H ⟨rfl, hi, p⟩
  by_cases hlt : i < n
  · refine .inr ⟨hlt, Pv (i + 1), fun ys' σ' H' p' => ⟨n - (i + 1), by omega, rfl, hlt, p'⟩, fun x H' y => ?_⟩
    obtain ⟨e, y⟩ := y
    subst e y
    exact hs i ys σ _ hlt p
  · have e : i = n := by omega
    subst e
    exact .inl ⟨Nat.le_refl _, hd ys σ H p⟩
end RL
/-! S20 -/
set_option Elab.async false
set_option linter.all false
set_option maxRecDepth 100000
set_option maxHeartbeats 2000000
namespace RK
open PySem PySem.Spec PyProof.Rows PySem.SeqAt
section
variable {M : Model} {prog : Program} {w : World} {A : Around} {E : Value → Shared → Prop} {s : Shared} {K : PySem.W.Frag} {x C f : Addr} {ox : Obj} {od : Option Obj} {b tb : Value}
theorem ifBound_ne {args : List Value} {Q : Option Value → Shared → Prop} (X : K.In s.heap) (I : PySem.W.InstAt s.heap x ox C od) (hs : PySem.W.findIn K (.ref C) "__ne__" = some (some (.builtin "object.__ne__")))
    (h : wpAny M A (call (.builtin "object.__ne__") (.ref x :: args)) (fun v => Q (some v)) E s) : wpAny M A (callSpecialIfBound? (.ref x) "__ne__" args) Q E s := by
  simp only [callSpecialIfBound?, bindSpecialIfBound?]
  refine wpAny_holding (wpAny_bind (wpAny_bind (wpAny_bind (I.type.here ((PySem.W.looks_findIn X hs).here ?_)))))
  refine wpAny_bind (wpAny_askSetting (wpAny_ite ?_))
  have fin : wpAny M A (call (.builtin "object.__ne__") ([.ref x] ++ args) >>= fun v => pure (some v)) Q E s := wpAny_bind (wpAny_mono h (fun v s' h' => wpAny_pure h') fun _ _ h' => h')
  split
  · exact wpAny_bind (wpAny_of_eq (F.cmp_object.ne.bind _) (wpAny_pure (by exact fin)))
  · exact wpAny_tryCatch (wpAny_bind (wpAny_of_eq (F.cmp_object.ne.bind _) (wpAny_pure (by exact fin))))
theorem entry_ne {Q : Fin → Shared → Prop} (hu : A.units < cLine) (X : K.In s.heap) (I : PySem.W.InstAt s.heap x ox C od) (hs : PySem.W.findIn K (.ref C) "__eq__" = some (some (.ref f))) (hf : PySem.W.isFn K (.ref f) = true)
    (h : wpAny M A (call (.ref f) [.ref x, b]) (fun v s' => ∃ k, v = .bool k ∧ Q (.done (.ret (.bool (!k)))) s') E s) : wpAny M A (Builtin.«object.__ne__» ⟨[.ref x, b], []⟩) Q E s := by
  unfold Builtin.«object.__ne__»
  repeat (first
    | with_reducible refine wpAny_cRoomFor hu ?_
    | (refine wpAny_bind (m := callSpecialIfBound? (.ref x) (Str.ofString "__eq__") [b])
        (PySem.W.ifBound_K X I hs hf (wpAny_mono h (fun r s' hr => by
          obtain ⟨k, rfl, hq⟩ := hr
          repeat (first | exact hq | exact wpAny_pure hq | exact wpAny_truthy_bool hq | (refine wpAny_bind (m := truthy (.bool _)) (wpAny_truthy_bool ?_)) | wp_step)) fun _ _ e => e)))
    | wp_step)
theorem ne_own {Q : Value → Shared → Prop} (hu : A.units + 1 < cLine) (X : K.In s.heap) (I : PySem.W.InstAt s.heap x ox C od) (hm : PySem.W.mroIn K C (.type "object") = some true) (hb : PySem.W.Looks (model prog w) s.heap (typeOf b) tb) (hn : PySem.W.notFirst K C tb = true)
    (hs : PySem.W.findIn K (.ref C) "__eq__" = some (some (.ref f))) (hne : PySem.W.findIn K (.ref C) "__ne__" = some (some (.builtin "object.__ne__"))) (hf : PySem.W.isFn K (.ref f) = true)
    (h : wpAny (model prog w) A.in1 (call (.ref f) [.ref x, b]) (fun v s' => ∃ k, v = .bool k ∧ Q (.bool (!k)) s') E s) : wpAny (model prog w) A (richCompare .NotEq (.ref x) b) Q E s := by
  have one : wpAny (model prog w) A (tryCompare (.ref x) "__ne__" b) (fun r s' => ∃ v, r = some v ∧ Q v s') E s := by
    unfold tryCompare
    refine wpAny_bind (ifBound_ne X I hne (wpAny_call (codeAny_call_builtin F.cmp_object.ne.plain F.cmpEntry_ne (PySem.W.check_slot F.cmpKind_ne F.cmpSplit_ne (I.type.andThen (PySem.W.looks_mroIn X hm)) (F.cmpArgs_ne _ _) ?_))))
    refine entry_ne (A := A.in1) (by exact hu) X I hs hf (wpAny_mono h (fun v s' hv => ?_) fun _ _ e => e)
    obtain ⟨k, rfl, hq⟩ := hv
    first | exact ⟨k, rfl, wpAny_pure ⟨_, rfl, hq⟩⟩ | exact ⟨k, rfl, wpAny_pure (wpAny_pure ⟨_, rfl, hq⟩)⟩ | exact ⟨k, rfl, ⟨_, rfl, hq⟩⟩
  simp only [richCompare, cmpInfo_NotEq, oneThing_ref]
  refine wpAny_holding (wpAny_bind (wpAny_cRoomFor (Nat.lt_of_succ_lt hu) ?_))
  refine wpAny_bind (I.type.here (wpAny_bind (hb.here ?_)))
  split
  · rename_i q
    have e : PySem.W.subIn K tb (.ref C) = some false := by
      rcases Bool.or_eq_true_iff.mp hn with e | e
      · rw [beq_iff_eq.mp e] at q; simp at q
      · exact beq_iff_eq.mp e
    refine wpAny_bind ((PySem.W.looks_subIn X e).here ?_)
    simp only [Bool.false_eq_true, if_false]
    refine wpAny_bind (wpAny_mono one (fun r s' z => ?_) fun _ _ e => e)
    obtain ⟨v, rfl, hq⟩ := z
    exact wpAny_pure hq
  · refine wpAny_bind (wpAny_pure ?_)
    simp only [Bool.false_eq_true, if_false]
    refine wpAny_bind (wpAny_mono one (fun r s' z => ?_) fun _ _ e => e)
    obtain ⟨v, rfl, hq⟩ := z
    exact wpAny_pure hq
end
end RK
/-! S21 -/
set_option Elab.async false
set_option linter.all false
set_option maxRecDepth 100000
set_option maxHeartbeats 2000000
namespace RK
open PySem PySem.Spec PyProof.Rows PySem.SeqAt
section
variable {prog : Program} {w : World} {A : Around} {E : Value → Shared → Prop} {s : Shared} {K : PySem.W.Frag} {x C f : Addr} {ox : Obj} {od : Option Obj} {b tb : Value}
/-- x + t: the def of x, t a tuple -/
theorem add_tup {Q : Value → Shared → Prop} (X : K.In s.heap) (I : PySem.W.InstAt s.heap x ox C od) (hb : PySem.W.Looks (model prog w) s.heap (typeOf b) (.type "tuple")) (hc : PySem.W.selfFirst K C = true)
    (hs : PySem.W.findIn K (.ref C) "__add__" = some (some (.ref f))) (hf : PySem.W.isFn K (.ref f) = true) (h : wpAny (model prog w) A (call (.ref f) [.ref x, b]) (PySem.W.CmpBack Q) E s) : wpAny (model prog w) A (binaryOp .Add (.ref x) b) Q E s := by
  obtain ⟨cd, rest, hcd, hm⟩ := PySem.W.ksp_first hc
  have one := PySem.W.ksp_try (name := "__add__") X I hs hf h
  have L3 : PySem.W.Looks (model prog w) s.heap (fillsNumberSlot (.ref C) "add") true := PySem.W.fills_K X hcd hm hs
  have hne : (Value.ref C == Value.type "tuple") = false := Bool.eq_false_iff.mpr fun q => by cases beq_iff_eq.mp q
  unfold binaryOp
  refine wpAny_holding (wpAny_bind ?_)
  show wpAny _ _ (binaryOp1 "add" (.ref x) b) _ _ _
  unfold binaryOp1
  refine wpAny_bind (I.type.here (wpAny_bind (hb.here (wpAny_bind (L3.here ?_)))))
  simp only [hne, Bool.false_eq_true, if_false]
  refine wpAny_bind (wpAny_of_eq noFill_tuple_add ?_)
  simp only [Bool.and_false, Bool.false_eq_true, if_false, Bool.false_and]
  refine wpAny_bind (wpAny_pure ?_)
  simp only [Bool.false_eq_true, if_false, if_true]
  refine wpAny_bind (m := tryMethod (.ref x) _ b) (wpAny_mono one (fun r s' z => ?_) fun _ _ e => e)
  obtain ⟨v, rfl, hq⟩ := z
  exact wpAny_pure (wpAny_pure hq)
end
end RK
/-! S22 -/
set_option Elab.async false
set_option linter.all false
set_option maxRecDepth 100000
set_option maxHeartbeats 2000000
namespace RL
open PySem PySem.Spec PyProof.Rows L2
section
variable {X : Cx} {CX : CXT} {C g : Addr} {n : Nat} {sp : Sp} {E : XK} {fd : FuncData} {ps : List Str}
/-- a def that runs below the running body -/
theorem run_below {pins : List (Addr × Obj)} {σ : L2.St} {H : Hp} {s : Shared} {A : Around} {Q : VK} {us : List Value} {ws : List V} (F : FnOk X.prog X.w X.K X.mg X.base CX n g fd ps sp) (hr : Room n A) (e0 : Env0 X.prog X.w X.K X.mg X.base A X.stack s H) (hb : Binds X.K fd ps []) (hx : Passes CX X E)
    (I : Inv X pins σ H s) (r : Vals ws us) (h : sp ws H Q E) : wpAny (model X.prog X.w) A (call (.ref g) us) (EP X pins σ Q) X.xe s := by
  have hl : us.length = ps.length := by rw [← r.length]; exact F.len _ _ _ _ h
  have b := hb s us I.kIn (by rw [List.append_nil]; exact hl)
  rw [List.append_nil] at b
  refine wpAny_call (codeAny_mono (F.run A X.stack s H ⟨us, []⟩ us ws Q E hr e0 b r h) fun r s' hq => ?_)
  cases r with
  | error e => exact hx pins σ H s e s' I hq
  | ok fl =>
    cases fl with
    | ret u => exact I.after hq
    | next => exact False.elim hq
    | brk => exact False.elim hq
    | cont => exact False.elim hq
theorem ty_of {pins : List (Addr × Obj)} {σ : L2.St} {H : Hp} {s : Shared} {y : V} {u t : Value} (I : Inv X pins σ H s) (r : RelV y u) (ty : TyX X.K H y t) : PySem.W.Looks (model X.prog X.w) s.heap (typeOf u) t := by
  obtain ⟨P, k, hp, _⟩ := kit_of I r ty
  exact k.ty _ _ I.kIn hp
theorem ins_at {pins : List (Addr × Obj)} {σ : L2.St} {H : Hp} {s : Shared} {a dx : Addr} {fs : List (Str × V)} (I : Inv X pins σ H s) (h : H a = some (.ins C dx fs)) : ∃ ox od, PySem.W.InstAt s.heap a ox C od := by
  obtain ⟨mA, O, _, _, _, _⟩ := ins_get I.hok h
  obtain ⟨od, J, _⟩ := O.look
  exact ⟨_, _, J⟩
/-- x == y by the def of x's class -/
def rEqO (K : PySem.W.Frag) (C : Addr) (sp : Sp) (E : XK) : R2 := fun x y H Q => ∃ a dx fs t, x = .ref a ∧ H a = some (.ins C dx fs) ∧ TyX K H y t ∧ PySem.W.notFirst K C t = true ∧ sp [x, y] H Q E
theorem op_eqO (hs : PySem.W.findIn X.K (.ref C) "__eq__" = some (some (.ref g))) (hf : PySem.W.isFn X.K (.ref g) = true) (F : FnOk X.prog X.w X.K X.mg X.base CX n g fd ps sp) (hr : Room n X.A) (hb : Binds X.K fd ps []) (hx : Passes CX X E) : OpR X (compareOp .Eq) (rEqO X.K C sp E) := by
  intro pins s σ H x y v u Q I rx ry h
  obtain ⟨a, dx, fs, t, rfl, ha, ty, hn, q⟩ := h
  obtain ⟨ox, od, J⟩ := ins_at I ha
  cases (show v = Value.ref a from rx)
  obtain ⟨m, hF⟩ := I.fr
  show wpAny _ _ (richCompare .Eq (.ref a) u) _ _ _
  refine PySem.W.cmp_K (op := .Eq) (tb := t) hr.units0 hF I.ok.mod.kin J (ty_of I ry ty) hn hs hf ?_
  refine wpAny_mono (run_below F hr I.env0 hb hx I (.cons rx (.cons ry .nil)) q) (fun w s' z => ?_) fun _ _ x => x
  obtain ⟨z', H', I', rz, qz⟩ := z
  exact SlX.cmpback rz ⟨z', H', I', rz, qz⟩
/-- x != y: not what == says -/
def rNeO (K : PySem.W.Frag) (C : Addr) (sp : Sp) (E : XK) : R2 := fun x y H Q => ∃ a dx fs t, x = .ref a ∧ H a = some (.ins C dx fs) ∧ TyX K H y t ∧ PySem.W.notFirst K C t = true ∧ sp [x, y] H (fun z H' => ∃ k, z = .bl k ∧ Q (.bl (!k)) H') E
theorem op_neO (hm : PySem.W.mroIn X.K C (.type "object") = some true) (hs : PySem.W.findIn X.K (.ref C) "__eq__" = some (some (.ref g))) (hne : PySem.W.findIn X.K (.ref C) "__ne__" = some (some (.builtin "object.__ne__"))) (hf : PySem.W.isFn X.K (.ref g) = true)
    (F : FnOk X.prog X.w X.K X.mg X.base CX n g fd ps sp) (hr : Room (n + 1) X.A) (hb : Binds X.K fd ps []) (hx : Passes CX X E) : OpR X (compareOp .NotEq) (rNeO X.K C sp E) := by
  intro pins s σ H x y v u Q I rx ry h
  obtain ⟨a, dx, fs, t, rfl, ha, ty, hn, q⟩ := h
  obtain ⟨ox, od, J⟩ := ins_at I ha
  cases (show v = Value.ref a from rx)
  show wpAny _ _ (richCompare .NotEq (.ref a) u) _ _ _
  refine RK.ne_own (tb := t) (Nat.lt_of_le_of_lt (Nat.add_le_add_left (by decide : 1 ≤ 64) _) hr.units) I.kIn J hm (ty_of I ry ty) hn hs hne hf ?_
  refine wpAny_mono (run_below F hr.in1 I.env0.in1 hb hx I (.cons rx (.cons ry .nil)) q) (fun w s' z => ?_) fun _ _ x => x
  obtain ⟨z', H', I', rz, k, rfl, qz⟩ := z
  cases (show w = Value.bool k from rz)
  exact ⟨k, rfl, .bl (!k), H', I', rfl, qz⟩
/-- x + t, t a tuple, by the def of x's class -/
def rAddO (K : PySem.W.Frag) (C : Addr) (sp : Sp) (E : XK) : R2 := fun x y H Q => ∃ a dx fs, x = .ref a ∧ H a = some (.ins C dx fs) ∧ TyX K H y (.type "tuple") ∧ sp [x, y] H Q E
theorem op_addO (hc : PySem.W.selfFirst X.K C = true) (hs : PySem.W.findIn X.K (.ref C) "__add__" = some (some (.ref g))) (hf : PySem.W.isFn X.K (.ref g) = true) (F : FnOk X.prog X.w X.K X.mg X.base CX n g fd ps sp) (hr : Room n X.A) (hb : Binds X.K fd ps []) (hx : Passes CX X E) :
    OpR X (binaryOp .Add) (rAddO X.K C sp E) := by
  intro pins s σ H x y v u Q I rx ry h
  obtain ⟨a, dx, fs, rfl, ha, ty, q⟩ := h
  obtain ⟨ox, od, J⟩ := ins_at I ha
  cases (show v = Value.ref a from rx)
  refine RK.add_tup I.kIn J (ty_of I ry ty) hc hs hf ?_
  refine wpAny_mono (run_below F hr I.env0 hb hx I (.cons rx (.cons ry .nil)) q) (fun w s' z => ?_) fun _ _ x => x
  obtain ⟨z', H', I', rz, qz⟩ := z
  exact SlX.cmpback rz ⟨z', H', I', rz, qz⟩
/-- len(x) by the def of x's class -/
def rLenO (C : Addr) (sp : Sp) (E : XK) : List V → Hp → VK → Prop := fun xs H Q => ∃ a dx fs, xs = [V.ref a] ∧ H a = some (.ins C dx fs) ∧ sp [.ref a] H (fun z H' => ∃ i : Int, z = .int i ∧ 0 ≤ i ∧ i < 2 ^ 63 ∧ Q (.int i) H') E
theorem call_lenO (hs : PySem.W.findIn X.K (.ref C) "__len__" = some (some (.ref g))) (hf : PySem.W.isFn X.K (.ref g) = true) (F : FnOk X.prog X.w X.K X.mg X.base CX n g fd ps sp) (hr : Room (n + 1) X.A) (hb : Binds X.K fd ps []) (hx : Passes CX X E) : CallR X (.builtin "len") (rLenO C sp E) := by
  intro pins s σ H xs us Q I r h
  obtain ⟨a, dx, fs, rfl, ha, q⟩ := h
  obtain ⟨u, rfl, ru⟩ := r.one
  cases (show u = Value.ref a from ru)
  obtain ⟨ox, od, J⟩ := ins_at I ha
  obtain ⟨m, hF⟩ := I.fr
  refine PySem.W.len_K hF I.ok.mod.kin J hs hf ?_
  refine wpAny_mono (run_below (ws := [.ref a]) F hr.in1 I.env0.in1 hb hx I (.cons rfl .nil) q) (fun w s' z => ?_) fun _ _ x => x
  obtain ⟨z', H', I', rz, i, rfl, i0, i1, qz⟩ := z
  obtain ⟨t, e⟩ := (show ∃ t, w = Value.int i t from rz)
  cases e
  exact ⟨⟨i0, i1⟩, .int i, H', I'.tok _, ⟨_, rfl⟩, qz⟩
/-- str(x) by the def of x's class -/
def rStrO (C : Addr) (sp : Sp) (E : XK) : List V → Hp → VK → Prop := fun xs H Q => ∃ a dx fs, xs = [V.ref a] ∧ H a = some (.ins C dx fs) ∧ sp [.ref a] H (fun z H' => ∃ i : Str, z = .str i ∧ Q (.str i) H') E
theorem call_strO (hs : PySem.W.findIn X.K (.ref C) "__str__" = some (some (.ref g))) (hf : PySem.W.isFn X.K (.ref g) = true) (F : FnOk X.prog X.w X.K X.mg X.base CX n g fd ps sp) (hr : Room (n + 2) X.A) (hb : Binds X.K fd ps []) (hx : Passes CX X E) : CallR X (.type "str") (rStrO C sp E) := by
  intro pins s σ H xs us Q I r h
  obtain ⟨a, dx, fs, rfl, ha, q⟩ := h
  obtain ⟨u, rfl, ru⟩ := r.one
  cases (show u = Value.ref a from ru)
  obtain ⟨ox, od, J⟩ := ins_at I ha
  have hr2 : Room n X.A.in1.in1 := (show Room (n + 1) X.A.in1 from Room.in1 hr).in1
  refine PySem.W.kso_call hr2.units0 I.kIn J hs hf ?_
  refine wpAny_mono (run_below (ws := [.ref a]) F hr2 I.env0.in1.in1 hb hx I (.cons rfl .nil) q) (fun w s' z => ?_) fun _ _ x => x
  obtain ⟨z', H', I', rz, i, rfl, qz⟩ := z
  obtain ⟨t, e⟩ := (show ∃ t, w = Value.str i t from rz)
  cases e
  exact ⟨.str i, H', I', ⟨_, rfl⟩, qz⟩
end
end RL
/-! S25 -/
set_option Elab.async false
set_option linter.all false
set_option maxRecDepth 100000
set_option maxHeartbeats 2000000
namespace RL
open PySem PySem.Spec PyProof.Rows L2
/-! ### rules for two kinds of values in one place -/
section
variable {X : Cx}
theorem op_or {f : Value → Value → Sem Value} {r r' : R2} (h : OpR X f r) (h' : OpR X f r') : OpR X f (fun x y H Q => r x y H Q ∨ r' x y H Q) :=
  fun pins s σ H x y v u Q I rx ry q => q.elim (h pins s σ H x y v u Q I rx ry) (h' pins s σ H x y v u Q I rx ry)
theorem callr_or {f : Value} {r r' : List V → Hp → VK → Prop} (h : CallR X f r) (h' : CallR X f r') : CallR X f (fun xs H Q => r xs H Q ∨ r' xs H Q) :=
  fun pins s σ H vs us Q I r q => q.elim (h pins s σ H vs us Q I r) (h' pins s σ H vs us Q I r)
theorem pg_unlK {K : PySem.W.Frag} (hK : X.K = K) {es : List Expr} {k : Nat} {t : TGs} {n : Nat} {pos : Pos} (hc : X.calm = true) (h : PGs X es t)
    (hn : (assignEach es X.env).length = n := by rfl) (hst : (assignEach es X.env).findIdx? (·.1) = none := by rfl) : PG X (.Tuple es k pos) (gUnl K n t) := hK ▸ pg_unl hc h hn hst
/-- len() of a tuple, a list, or by the def of the class -/
def rLenE (K : PySem.W.Frag) (C : Addr) (sp : Sp) (E : XK) : List V → Hp → VK → Prop := fun xs H Q => (∃ a ys, xs = [V.ref a] ∧ (SqL K H a ys ∨ SqT K H a ys) ∧ Q (.int (ys.length : Nat)) H) ∨ rLenO C sp E xs H Q
theorem call_lenE {K : PySem.W.Frag} (hK : X.K = K) {CX : CXT} {C g : Addr} {n : Nat} {sp : Sp} {E : XK} {fd : FuncData} {ps : List Str} (hs : PySem.W.findIn X.K (.ref C) "__len__" = some (some (.ref g))) (hf : PySem.W.isFn X.K (.ref g) = true) (F : FnOk X.prog X.w X.K X.mg X.base CX n g fd ps sp) (hr : Room (n + 1) X.A) (hb : Binds X.K fd ps []) (hx : Passes CX X E) :
    CallR X (.builtin "len") (rLenE K C sp E) := hK ▸ callr_or call_len_seq (call_lenO hs hf F hr hb hx)
/-- t + u of tuples, or by the def of the class -/
def rAddE (K : PySem.W.Frag) (C : Addr) (sp : Sp) (E : XK) : R2 := fun x y H Q => rCatS K x y H Q ∨ rAddO K C sp E x y H Q
theorem op_addE {K : PySem.W.Frag} (hK : X.K = K) {CX : CXT} {C g : Addr} {n : Nat} {sp : Sp} {E : XK} {fd : FuncData} {ps : List Str} (hc : PySem.W.selfFirst X.K C = true) (hs : PySem.W.findIn X.K (.ref C) "__add__" = some (some (.ref g))) (hf : PySem.W.isFn X.K (.ref g) = true) (F : FnOk X.prog X.w X.K X.mg X.base CX n g fd ps sp) (hr : Room n X.A) (hb : Binds X.K fd ps []) (hx : Passes CX X E) :
    OpR X (binaryOp .Add) (rAddE K C sp E) := hK ▸ op_or op_catS (op_addO hc hs hf F hr hb hx)
theorem sl_tupK {K : PySem.W.Frag} (hK : X.K = K) : SlR X (rSlU K) := hK ▸ sl_tupU
theorem sl_lstK {K : PySem.W.Frag} (hK : X.K = K) : SlR X (rSlV K) := hK ▸ sl_lstU
end
end RL
/-! S31 -/
set_option Elab.async false
set_option linter.all false
set_option maxRecDepth 100000
/-! several except clauses, each with a name or without -/
namespace RL
open PySem PySem.Spec PyProof.Rows L2
abbrev TSX := Addr → Value → Option Addr → TS
/-- the ends behind a suite that has the name at slot i -/
def ends_as (i : Nat) (D : Ends) : Ends :=
  { nx := fun τ G => D.nx (τ.set i none) G, rt := D.rt,
    bk := fun τ G => D.bk (τ.set i none) G, ct := fun τ G => D.ct (τ.set i none) G }
/-- the wish of the clauses -/
def wClauses (K : PySem.W.Frag) (Wo : WX) (D : Ends) : List (Value × Option Nat × TSX) → WX
  | [] => Wo
  | (c, none, ts) :: r => fun cl d τ G => ∃ b, PySem.W.exmOne K cl c = some b ∧
      (b = true → ∀ a, G a = none → ts a cl d D τ G) ∧ (b = false → wClauses K Wo D r cl d τ G)
  | (c, some i, ts) :: r => fun cl d τ G => ∃ b, PySem.W.exmOne K cl c = some b ∧
      (b = true → ∀ a, G a = none → ts a cl d (ends_as i D) (τ.set i (some (.ref a))) G) ∧
      (b = false → wClauses K Wo D r cl d τ G)
/-- a suite's rule -/
def SuiteOk (X : Cx) (st : List Stmt) (ts : TSX) : Prop :=
  ∀ (a : Addr) (ob : Obj) (cl : Value) (d : Option Addr) (pn : List (Addr × Obj)),
    Zc cl d ob → (∃ fv, ob.data = .fields fv) → PSs (X.suite a ((a, ob) :: pn)) st (ts a cl d)
inductive Clauses (X : Cx) : List ExceptHandler → List (Value × Option Nat × TSX) → Prop
  | nil : Clauses X [] []
  | only {x : Str} {c : Value} {ts : TSX} {b₀ : Stmt} {rest : List Stmt} {np pq : Pos} {hs : List ExceptHandler} {l : List (Value × Option Nat × TSX)}
      (hc : Names X x c) (su : SuiteOk X (b₀ :: rest) ts) (r : Clauses X hs l) :
      Clauses X (.ExceptHandler (some (.Name x np)) none (b₀ :: rest) pq :: hs) ((c, none, ts) :: l)
  | named {x n : Str} {c : Value} {i : Nat} {ts : TSX} {b₀ : Stmt} {rest : List Stmt} {np pq : Pos} {hs : List ExceptHandler} {l : List (Value × Option Nat × TSX)}
      (hc : Names X x c) (hi : X.N[i]? = some n) (hk : X.env.kindOf n = some .local) (su : SuiteOk X (b₀ :: rest) ts) (r : Clauses X hs l) :
      Clauses X (.ExceptHandler (some (.Name x np)) (some n) (b₀ :: rest) pq :: hs) ((c, some i, ts) :: l)
section
variable {X : Cx} {body : List Stmt} {h₀ : ExceptHandler} {hs : List ExceptHandler} {l : List (Value × Option Nat × TSX)} {pos : Pos} {tb : WX → TS} {Wo : WX}
theorem ps_try_cl (stk : X.stack = X.env :: X.outer) (hf : X.env.frame = some X.env.locals) (hN : X.N.Nodup) (tk : Takes X Wo)
    (hb : ∀ (W : WX) (pn : List (Addr × Obj)) (xe : Value → Shared → Prop), Takes (X.tr pn xe) W →
      PassesOwn (model X.prog X.w) X.A X.env xe → PSs (X.tr pn xe) body (tb W))
    (hh : Clauses X (h₀ :: hs) l) : PS X (.Try body (h₀ :: hs) [] [] pos) (fun D σ H => tb (wClauses X.K Wo D l) D σ H) := by
  refine ⟨fun pins s σ H D I h => ?_⟩
  have ok := I.ok
  have frm : X.A.frames = some (X.env :: X.outer) := ok.frames.trans (congrArg some stk)
  refine wpAny_Try_except ?_
  refine wpAny_mono ((hb (wClauses X.K Wo D l) (X.pn ++ pins)
    (fun e z₁ => wpAny (model X.prog X.w) X.A (noteFrame e X.env) (fun _ z₂ =>
      wpAny (model X.prog X.w) X.A (setFlight e none) (fun _ z₃ =>
        wpAny (model X.prog X.w) X.A (handleBy e X.env (h₀ :: hs)) (SP X pins D) X.xe z₃) X.xe z₂) X.xe z₁)
    (fun u z caught => ?_) PassesOwn.looking).run [] s σ H D (I.toTry _) h) (fun fl z done => ?_) (fun _ _ he => he)
  · obtain ⟨a, B, zI, pins1, τ, G, cl, d, rfl, J0, nb, up, sky, na, os, ag, wi⟩ := caught
    have J : Inv X pins τ G zI := J0.ofTry ok
    have sky1 : Sky B (X.env :: X.outer) a (Zc cl d) X.env.locals z.heap := stk ▸ sky
    show wpAny (model X.prog X.w) X.A (noteFrame (.ref a) X.env) _ _ _
    refine Sky.land Zc.steady frm hf sky1 fun g3 fly up3 => ?_
    have J3 : Inv X pins τ G { z with heap := g3 } := J.landed nb fly.1 (up.trans up3) os ag
    obtain ⟨ob, fv, hob, hz, hdat⟩ := fly.there
    have off : a ∉ frs (X.env :: X.outer) := fun hm => by
      obtain ⟨_, o2, e2, hnf⟩ := fly.2.2.1.mem hm
      rw [hob] at e2
      cases e2
      exact hnf _ hdat
    have nL : a ≠ X.env.locals := fun e => off (List.mem_filterMap.mpr ⟨X.env, List.mem_cons_self, hf.trans (congrArg some e.symm)⟩)
    have nF : a ∉ X.fs := fun hm => by
      obtain ⟨e1, m1, q1⟩ := List.mem_filterMap.mp hm
      exact off (List.mem_filterMap.mpr ⟨e1, .tail _ m1, q1⟩)
    have S3 := J3.suite hob hdat na nL nF
    have LT : PySem.W.Looks (model X.prog X.w) g3 (typeOf (.ref a)) cl := fun A Q E s k q =>
      wpAny_typeOf_ref (k _ _ hob) (hz.1.symm ▸ q)
    have named : ∀ {x : Str} {c : Value} {np : Pos}, Names X x c → ∀ {Q : Value → Shared → Prop} {E : Value → Shared → Prop}, Q c { z with heap := g3 } →
        wpAny (model X.prog X.w) (X.A.mark (some (.ref a))) (eval (.Name x np) X.env) Q E { z with heap := g3 } := by
      intro x c np hc Q E q
      obtain ⟨hg, hdb, hm | ⟨hm, hv, hn⟩⟩ := hc
      · exact ld_glob (X := X.suite a ((a, ob) :: (X.pn ++ pins))) S3 hg hm q hdb
      · exact ld_blt (X := X.suite a ((a, ob) :: (X.pn ++ pins))) S3 hg hm hv q hn hdb
    have go : ∀ {hs1 : List ExceptHandler} {l1 : List (Value × Option Nat × TSX)}, Clauses X hs1 l1 → wClauses X.K Wo D l1 cl d τ G →
        wpAny (model X.prog X.w) X.A (handleBy (.ref a) X.env hs1) (SP X pins D) X.xe { z with heap := g3 } := by
      intro hs1 l1 hk
      induction hk with
      | nil =>
        intro wi
        refine wpAny_handleBy_nil ?_
        obtain ⟨_, _, _, o4, f4, T4, _, _, ho4, _, hd4, h14, _⟩ := id fly
        unfold PySem.passOn
        refine wpAny_bind (wpAny_field ho4 hd4 h14 ?_)
        rw [if_neg (show ¬ ((Value.ref T4 == Value.none) = true) from by simp)]
        have last : wpAny (model X.prog X.w) X.A (setFlight (.ref a) X.env.frame) (fun _ z4 =>
            wpAny (model X.prog X.w) X.A (throw (.ref a) : Sem Flow) (SP X pins D) X.xe z4) X.xe { z with heap := g3 } := by
          rw [hf]
          refine HandSPX.setFlight_upZ fly fun g4 held up4 => wpAny_throw (tk _ _ ?_)
          exact ⟨a, B, zI, pins, τ, G, cl, d, rfl, J, nb, (up.trans up3).trans up4, .inr (.inr (stk.symm ▸ held)), na, os, ag, wi⟩
        first
          | exact wpAny_bind (wpAny_pure (wpAny_bind last))
          | exact wpAny_bind last
      | @only x c ts b₀ rest np pq hs2 l2 hc su r ih =>
        intro wi
        obtain ⟨b, hb1, yes, no⟩ := wi
        refine wpAny_handleBy_cons (codeAny_handlers_test ?_) (by intro q; cases q)
        have LM := PySem.W.exm_one (M := model X.prog X.w) J3.kIn LT hb1
        refine named hc (LM.here ?_)
        cases b with
        | false =>
          show wpAny _ X.A (handleBy (.ref a) X.env hs2) _ _ _
          exact ih (no rfl)
        | true =>
          refine codeAny_handlers_suite ?_
          refine HandSPX.lands_againZ fly fun g4 fly4 up4 => ?_
          have J4 : Inv X pins τ G { z with heap := g4 } := J.landed nb fly4.1 ((up.trans up3).trans up4) os ag
          obtain ⟨o4, f4, ho4, hz4, hd4⟩ := fly4.there
          have S4 := J4.suite ho4 hd4 na nL nF
          refine wpAny_mono ((su a o4 cl d (X.pn ++ pins) hz4 ⟨_, hd4⟩).run [] _ _ G _ S4 (yes rfl a na)) (fun fl z6 r6 => ?_) (fun _ _ e => e.elim)
          cases fl with
          | ret u => exact let ⟨v, τ6, G6, I6, rv, q⟩ := r6; ⟨v, τ6, G6, I6.unsuite ok, rv, q⟩
          | next => exact let ⟨τ6, G6, I6, q⟩ := r6; ⟨τ6, G6, I6.unsuite ok, q⟩
          | brk => exact let ⟨τ6, G6, I6, q⟩ := r6; ⟨τ6, G6, I6.unsuite ok, q⟩
          | cont => exact let ⟨τ6, G6, I6, q⟩ := r6; ⟨τ6, G6, I6.unsuite ok, q⟩
      | @named x n c i ts b₀ rest np pq hs2 l2 hc hi hk su r ih =>
        intro wi
        obtain ⟨b, hb1, yes, no⟩ := wi
        refine wpAny_handleBy_cons (codeAny_handlers_test ?_) (by intro q; cases q)
        have LM := PySem.W.exm_one (M := model X.prog X.w) J3.kIn LT hb1
        refine named hc (LM.here ?_)
        cases b with
        | false =>
          show wpAny _ X.A (handleBy (.ref a) X.env hs2) _ _ _
          exact ih (no rfl)
        | true =>
          refine codeAny_handlers_suite_as ?_
          refine HandSPX.lands_againZ fly fun g4 fly4 up4 => ?_
          have J4 : Inv X pins τ G { z with heap := g4 } := J.landed nb fly4.1 ((up.trans up3).trans up4) os ag
          obtain ⟨o4, f4, ho4, hz4, hd4⟩ := fly4.there
          have S4 := J4.suite ho4 hd4 na nL nF
          refine store_ok (X := X.suite a ((a, o4) :: (X.pn ++ pins))) (v := .ref a) S4 hN hi (.inl hk) rfl (fun z5 S5 => ?_) (.inr hk)
          refine wpAny_mono ((su a o4 cl d (X.pn ++ pins) hz4 ⟨_, hd4⟩).run [] z5 _ G _ S5 (yes rfl a na)) (fun fl z6 r6 => ?_) (fun _ _ e => e.elim)
          have off : ∀ {τ6 : L2.St} {G6 : Hp} {Q : Shared → Prop}, Inv (X.suite a ((a, o4) :: (X.pn ++ pins))) [] τ6 G6 z6 →
              (∀ z7, Inv X pins (τ6.set i none) G6 z7 → Q z7) →
              wpAny (model X.prog X.w) X.A (do bindName X.env n .none; unbindBehindTheSuite X.env n pq) (fun _ z7 => Q z7) X.xe z6 :=
            fun I6 hq => gone_ok (I6.unsuite ok) hN hi hk hq
          cases fl with
          | ret u => exact let ⟨v, τ6, G6, I6, rv, q⟩ := r6; off I6 fun z7 J7 => ⟨v, _, G6, J7, rv, q⟩
          | next => exact let ⟨τ6, G6, I6, q⟩ := r6; off I6 fun z7 J7 => ⟨_, G6, J7, q⟩
          | brk => exact let ⟨τ6, G6, I6, q⟩ := r6; off I6 fun z7 J7 => ⟨_, G6, J7, q⟩
          | cont => exact let ⟨τ6, G6, I6, q⟩ := r6; off I6 fun z7 J7 => ⟨_, G6, J7, q⟩
    exact go hh wi
  · cases fl with
    | ret u => exact let ⟨v, τ6, G6, I6, rv, q⟩ := done; ⟨v, τ6, G6, I6.ofTry ok, rv, q⟩
    | next => exact let ⟨τ6, G6, I6, q⟩ := done; wpAny_execs_nil ⟨τ6, G6, I6.ofTry ok, q⟩
    | brk => exact let ⟨τ6, G6, I6, q⟩ := done; ⟨τ6, G6, I6.ofTry ok, q⟩
    | cont => exact let ⟨τ6, G6, I6, q⟩ := done; ⟨τ6, G6, I6.ofTry ok, q⟩
end
end RL
/-! S30 -/
set_option Elab.async false
set_option linter.all false
set_option maxRecDepth 100000
set_option maxHeartbeats 2000000
/-! an own exception class over any built-in one, whose __init__ keeps its one argument: self.f = f -/
namespace PySem
namespace OwX
open PySem.W PySem.Calls PyProof.Rows PySem.HandSPX Builtin Builtin.ObjectAttr
def kA (f : Str) (p1 p2 : Pos) : Arguments :=
  { posonlyargs := [], args := [{ arg := "self", annotation := none, pos := p1 }, { arg := f, annotation := none, pos := p2 }],
    vararg := none, kwonlyargs := [], kw_defaults := [], kwarg := none, defaults := [] }
def kB (f : Str) (q1 q2 q3 q4 : Pos) : List Stmt :=
  [.Assign [.Attribute (.Name "self" q1) f q2] (.Name f q3) q4]
def kS (f : Str) : Scope :=
  { kind := .function, names := [(PySem.Str.ofString "self", .local), (f, .local)],
    isGenerator := false, isCoroutine := false, more := [] }
/-- what is asked of the field's name: all by rfl for a written one -/
structure FName (f : Str) : Prop where
  bind : ∀ (qn : Str) (p1 p2 q1 q2 q3 q4 : Pos) (doc pm cdv ct x v : Value) (an : Option Addr),
    bindArgs (fnOf "__init__" qn (kA f p1 p2) (kB f q1 q2 q3 q4) (kS f) .none .none doc pm an cdv ct) ⟨[x, v], []⟩ = pure ([("self", x), (f, v)] : List (Str × Value))
  all : ∀ x v : Value, ([(("self" : Str), x), (f, v)].all fun y => (kS f).names.lookup y.1 == some .local || (kS f).names.lookup y.1 == some .cell) = true
  one : ∀ (qn : Str) (L a : Addr) (cd x v : Value), bindL (envOfC qn (kS f) L a cd).kindOf ([("self", x), (f, v)] : List (Str × Value)) (fun _ => none) "self" = some x
  two : ∀ (qn : Str) (L a : Addr) (cd x v : Value), bindL (envOfC qn (kS f) L a cd).kindOf ([("self", x), (f, v)] : List (Str × Value)) (fun _ => none) f = some v
  here : (kS f).names.lookup f = some .local
  dbg : (f == ("__debug__" : Str)) = false
/-- what the written part says of the class cn, at C, and of its __init__, at fI -/
structure KeepT (K : Frag) (mg : Str → Option Value) (cn f : Str) (B newId : String) (bmB : List Value) (C fI : Addr) : Prop where
  gC : mg cn = some (.ref C)
  ini : excInitIn K C bmB newId = true
  ovr : excOver K C bmB = true
  sa : findIn K (.ref C) "__setattr__" = some (some (.builtin "object.__setattr__"))
  ga : findIn K (.ref C) "__getattribute__" = some (some (.builtin "BaseException.__getattribute__"))
  gg : findIn K (.ref C) "__getattr__" = some none
  noN : findIn K (.ref C) f = some none
  iC : findIn K (.ref C) "__init__" = some (some (.ref fI))
  tC : typeIn K (.ref fI) = some (.type "function")
  kC : keepIn K (.ref C) = true
  exC : subIn K (.ref C) (.type "BaseException") = some true
  tyC : typeIn K (.ref C) = some (.type "type")
  hdC : hasDictIn K C = true
  nam : FName f
  fn : ∃ (oc : Value) (od : Option Addr) (qn : Str) (doc pm : Value) (an : Option Addr) (cdv ct : Value) (osl : Array (Option Value)) (p1 p2 q1 q2 q3 q4 : Pos),
    K.lookup fI = some ⟨oc, od, .func (fnOf "__init__" qn (kA f p1 p2) (kB f q1 q2 q3 q4) (kS f) .none .none doc pm an cdv ct), osl⟩ ∧ codeIn K cdv qn = true
theorem ldC {M : Model} {s : Shared} {name : Str} {scope : Scope} {L a : Addr} {cd : Value} {m : Str → Option Value} {x : Str} {pos : Pos} {v : Value} {Q : Value → Shared → Prop} {A : Around} {E : Value → Shared → Prop}
    (hn : s.heap.Ns L m) (hv : m x = some v) (h : Q v s) (hk : scope.kind = .function) (hl : (envOfC name scope L a cd).kindOf x = some .local) (hd : (x == ("__debug__" : Str)) = false) :
    wpAny M A (eval (.Name x pos) (envOfC name scope L a cd)) Q E s := wpAny_Name (wpAny_loadName_local hk hl hn hv h) hd
/-- what __init__ leaves of a new exception at x -/
structure KeepEnd (h h' : Heap) (x C dx t1 : Addr) (f : Str) (v : Value) : Prop where
  keep : ∀ b o, b ≠ x → h.get? b = some o → h'.get? b = some o
  obj : h'.get? x = some { cls := .ref C, dict := some dx, data := .fields #[.ref t1, .none, .none, .none, .bool false, .none] }
  dbig : h.objs.size ≤ dx
  dne : dx ≠ x
  ns : h'.Ns1 dx (fun y => if y = f then some v else none)
/-- a made one -/
structure KeepMade (h h' : Heap) (e C d : Addr) (f : Str) (v : Value) : Prop where
  keep : ∀ b o, h.get? b = some o → h'.get? b = some o
  new : h.objs.size ≤ e
  obj : ∃ oe vs, h'.get? e = some oe ∧ oe.cls = .ref C ∧ oe.dict = some d ∧ oe.data = .fields vs ∧ vs[1]? = some .none
  dbig : h.objs.size ≤ d
  dne : d ≠ e
  ns : h'.Ns1 d (fun y => if y = f then some v else none)
section
variable {prog : Program} {w : World} {A : Around} {E : Value → Shared → Prop} {R : Result → Shared → Prop} {hp : Heap} {g : Array GenState} {d : Drawn} {t : Nat} {os : OsState}
/-- the first store into such an exception -/
theorem osa_first {K : Frag} {B : String} {bmB : List Value} {name : Str} {tk : Tok} {v : Value} {x C : Addr} {fv : Array Value} (SF : StoreFacts B bmB "object.__setattr__" "object")
    (X : K.In hp) (hx : hp.get? x = some { cls := .ref C, data := .fields fv }) (ov : excOver K C bmB = true) (hd : hasDictIn K C = true) (ha : findIn K (.ref C) name = some none)
    (hq : ∀ h' tk' dx, (∀ b o, b ≠ x → hp.get? b = some o → h'.get? b = some o) → hp.objs.size ≤ dx → dx ≠ x →
      h'.get? x = some { cls := .ref C, dict := some dx, data := .fields fv } →
      h'.Ns1 dx (fun y => if y = name then some v else none) → R (.ok (.ret .none)) ⟨h', g, d, tk', os⟩) :
    codeAny (model prog w) A (.call (.builtin "object.__setattr__") ⟨[.ref x, .str name tk, v], []⟩) R ⟨hp, g, d, t, os⟩ := by
  obtain ⟨cd, hcd, hh⟩ := any_some hd
  have tk0 : takerIn K C name = some none := by unfold takerIn; rw [ha]; rfl
  have ne : x ≠ hp.objs.size := Nat.ne_of_lt (Heap.lt_size hx)
  have hcls : Looks (model prog w) hp (classData C) cd := looks_clsIn X hcd
  refine osa_openX (od := none) SF X ⟨hx, rfl, rfl, trivial⟩ ov tk0 fun b => ?_
  show wpAny _ _ (storeInOwnDict (.ref x) (.ref C) (.str name tk) name v b) _ _ _
  obtain ⟨nm, bs, mro, ns, qn, hdd, sn, sb, ab, col, del⟩ := cd
  have hh' : hdd = true := hh
  subst hh'
  unfold storeInOwnDict ownDictForStores
  repeat (first
    | with_reducible refine store_in_new ?_ ?_
    | with_reducible refine wpAny_loadPart_at hx ?_
    | with_reducible refine hcls.at ?_
    | wp_step)
  · refine ⟨_, #[], _, (Heap.get?_update_ne _ _ _ _ ne.symm).trans (Heap.get?_push_at rfl rfl), rfl, fun e he => ?_, fun _ => rfl⟩
    exact absurd he (by simp)
  · intro h' tk' hn' hs
    have h1 : (hp.push { cls := .type "dict", data := .dict #[] }).get? x = some { cls := .ref C, data := .fields fv } := Heap.get?_push_of_some _ hx
    refine hq h' tk' hp.objs.size (fun b o hb ho => ?_) (Nat.le_refl _) ne.symm ?_ hn'
    · refine (hs.2 b (Nat.ne_of_lt (Heap.lt_size ho))).trans ?_
      exact (Heap.get?_update_ne _ _ _ _ hb).trans
        (Heap.get?_push_of_some _ ho)
    · refine (hs.2 x ne).trans ?_
      exact Heap.get?_update_self _ h1 rfl
end
theorem size1 (v : Value) : [v].length ≤ sizeLine := by
  have q : (1 : Nat) ≤ 16777216 := by decide
  rw [sizeLine_eq]
  exact q
section
variable {prog : Program} {w : World} {A : Around} {E : Value → Shared → Prop} {R : Result → Shared → Prop} {s : Shared} {K : Frag} {mg : Str → Option Value} {cn f : Str} {B newId initId : String} {bmB : List Value} {C fI : Addr}
theorem keep_init (T : KeepT K mg cn f B newId bmB C fI) (SF : StoreFacts B bmB "object.__setattr__" "object") {x t0 : Addr} {v : Value} (X : K.In s.heap) (hlim : s.heap.NoLimit) (hx : s.heap.get? x = some (excO C t0)) (hroom : A.depth < recursionLimit)
    (hq : ∀ h' tk dx, KeepEnd s.heap h' x C dx t0 f v → R (.ok (.ret .none)) { s with heap := h', toks := tk }) :
    codeAny (model prog w) A (.call (.ref fI) ⟨[.ref x, v], []⟩) R s := by
  obtain ⟨oc, od, qn, doc, pm, an, cdv, ct, osl, p1, p2, q1, q2, q3, q4, ho, hcd⟩ := T.fn
  have hself : (kS f).names.lookup (PySem.Str.ofString "self") = some NameKind.local := rfl
  refine Att.call_fn (binds := [("self", .ref x), (f, v)]) X hlim ho hcd hroom
    (BindsTo.of_eq (T.nam.bind _ _ _ _ _ _ _ _ _ _ _ _ _ _)) (T.nam.all _ _) (fun s₁ IC => ?_) rfl rfl rfl
  obtain ⟨h₁, tk₁, rfl⟩ := IC.toInCall.same
  have k : ∀ b o, s.heap.get? b = some o → h₁.get? b = some o := IC.toInCall.keep
  have hn := IC.toInCall.ns
  have X₁ : K.In h₁ := X.keeps k
  have hx₁ := k _ _ hx
  show wpAny _ _ (execs _ _) _ _ _
  refine wpAny_execs_cons (plainObj_wpAny_Assign_Attribute ?_)
  refine ldC (v := v) hn (T.nam.two _ _ _ _ _ _) (ldC (v := .ref x) hn (T.nam.one _ _ _ _ _ _) ?_ rfl hself (by decide)) rfl T.nam.here T.nam.dbg
  · refine set_plain X₁ (ox := excO C t0) (od := none) ⟨hx₁, rfl, rfl, trivial⟩ T.sa ?_
    refine osa_first SF X₁ hx₁ T.ovr T.hdC T.noN (fun h₃ tk₃ dx k₃ dn dne hx₃ hn₃ => ?_)
    show wpAny _ _ (execs _ _) _ _ _
    have z : s.heap.objs.size < h₁.objs.size := hn.lt
    exact wpAny_execs_nil (hq h₃ tk₃ dx ⟨fun b o hb e => k₃ b o hb (k b o e), hx₃, Nat.le_of_lt (Nat.lt_of_lt_of_le z dn), dne, hn₃⟩)
theorem fname_given : FName "given" where
  bind := fun _ _ _ _ _ _ _ _ _ _ _ _ _ _ => rfl
  all := fun _ _ => rfl
  one := fun _ _ _ _ _ _ => rfl
  two := fun _ _ _ _ _ _ => rfl
  here := rfl
  dbg := by decide
theorem keep_made (T : KeepT K mg cn f B newId bmB C fI) (SF : StoreFacts B bmB "object.__setattr__" "object") (FB : ExcBaseFacts B newId initId bmB) {v : Value} (X : K.In s.heap) (hlim : s.heap.NoLimit) (hroom : A.depth + 1 < recursionLimit)
    (hq : ∀ h' tk e d, KeepMade s.heap h' e C d f v → R (.ok (.ret (.ref e))) { s with heap := h', toks := tk }) :
    codeAny (model prog w) A (.call (.ref C) ⟨[v], []⟩) R s := by
  obtain ⟨nm, N, qn, bs, bm, hdct, sn, sub, ab, col, dd, k0, k1, k2, k3, k5, hC, hT⟩ := excInit_of X T.ini
  obtain ⟨hp, g, dr, tk, os⟩ := s
  have k : ∀ b o, hp.get? b = some o → ((hp.push (kdv_tup [v])).push (excO C hp.objs.size)).get? b = some o := fun b o e =>
    Heap.get?_push_of_some _ (Heap.get?_push_of_some _ e)
  have hget : ((hp.push (kdv_tup [v])).push (excO C hp.objs.size)).get? (hp.objs.size + 1) = some (excO C hp.objs.size) := by heap_get
  refine call_own FB hT hC (looks_findIn X T.iC) (fun self => bind_fn X self T.tC) (size1 v) ?_
  refine keep_init (s := ⟨(hp.push (kdv_tup [v])).push (excO C hp.objs.size), g, dr, tk, os⟩) T SF (X.keeps k) (hlim.keeps k) hget ?_ fun h' tk' dx ⟨k', hx, dn, dne, hns⟩ => ?_
  · show A.depth + 1 < recursionLimit
    exact hroom
  · have old : ∀ b o, hp.get? b = some o → h'.get? b = some o := fun b o e =>
      k' b o (Nat.ne_of_lt (Nat.lt_succ_of_lt (Heap.lt_size e))) (k b o e)
    have z : hp.objs.size + 1 + 1 ≤ dx := by
      have q := dn
      rw [Heap.size_push, Heap.size_push] at q
      exact q
    exact ⟨rfl, hq h' tk' (hp.objs.size + 1) dx ⟨old, Nat.le_succ _, ⟨_, _, hx, rfl, rfl, rfl, rfl⟩, Nat.le_trans (Nat.le_trans (Nat.le_succ _) (Nat.le_succ _)) z, dne, hns⟩⟩
end
end OwX
end PySem
namespace L2
open PySem PySem.Spec PyProof.Rows
theorem relO_kept {f : Str} {v : V} {v' : Value} (r : RelV v v') (y : Str) : RelO (List.lookup y [(f, v)]) (if y = f then some v' else none) := by
  by_cases h : y = f
  · subst h
    rw [if_pos rfl]
    have q : List.lookup y [(y, v)] = some v := by simp [List.lookup]
    rw [q]
    exact r
  · rw [if_neg h]
    have q : (y == f) = false := by simpa using h
    have q2 : List.lookup y [(f, v)] = none := by simp [List.lookup, q]
    rw [q2]
    trivial
section
variable {X : Cx} {cn f : Str} {B newId initId : String} {bmB : List Value} {C fI : Addr}
/-- cn(e): told of every new place d of its dict -/
def tMkKept (C : Addr) (f : Str) (ta : TA) : St → Hp → XK → Prop := fun σ H Q =>
  ta σ H fun vs H1 => ∃ v, vs = [v] ∧ ∀ d, H1 d = none → Q (.ref C) (some d) (upd H1 d (.xd [(f, v)]))
theorem pmk_kept {a : Expr} {ta : TA} {p pos : Pos} {k : Nat} (T : PySem.OwX.KeepT X.K X.mg cn f B newId bmB C fI) (SF : StoreFacts B bmB "object.__setattr__" "object") (FB : ExcBaseFacts B newId initId bmB) (hr : Room k X.A) (ha : PA X [a] ta) (hg : Gl X cn)
    (hdb : (cn == ("__debug__" : Str)) = false := by decide) (he : starEach (a :: []) X.env = (false, eval a X.env) :: starEach [] X.env := by rfl) (hpl : (backTo pos (starEach [] X.env)).any (·.1) = false := by rfl) :
    PMk X (.Call (.Name cn p) [a] [] pos) (tMkKept C f ta) := by
  intro pins s σ H Q I h
  refine wpAny_Call_Name_kw (ld_glob I hg T.gC ?_ hdb)
  refine PySem.W.callWith_K (h₀ := X.base) I.ok.mod.kin T.kC (thn (ha.run pos pins s σ H _ I h) fun us s1 hh => ?_) he hpl
  obtain ⟨vs, H1, I1, r1, v, ev, q1⟩ := hh
  subst ev
  refine ⟨I1.kIn, ?_⟩
  cases r1 with
  | cons rv rn =>
    rename_i v' us'
    cases rn
    show wpAny _ _ (call (.ref C) [v']) _ _ _
    have hlim := I1.nolimit
    obtain ⟨hp, g, dr, tk, os⟩ := s1
    refine wpAny_call (PySem.OwX.keep_made T SF FB I1.kIn hlim (by have := hr.dp; omega) fun h' tk' e d M => ?_)
    show MkP X pins σ Q (.ref e) ⟨h', g, dr, tk', os⟩
    obtain ⟨oe, fv, hoe, hc, hd, hdat, h1⟩ := M.obj
    have hns := M.ns
    obtain ⟨G', g1, g2⟩ := restrict h' fun b => decide (b ≠ e)
    have gk : ∀ b, b ≠ e → G'.get? b = h'.get? b := fun b hb => g1 b (decide_eq_true hb)
    have ge : G'.get? e = none := g2 e (by simp)
    have old : ∀ b o, hp.get? b = some o → G'.get? b = some o := fun b o q =>
      (gk b (Nat.ne_of_lt (Nat.lt_of_lt_of_le (Heap.lt_size q) M.new))).trans (M.keep b o q)
    have ob : ObjOk X.prog X.w (upd H1 d (.xd [(f, v)])) G' d (.xd [(f, v)]) :=
      ⟨_, hns.at (fun o q => (gk d M.dne).trans q), fun y => relO_kept rv y⟩
    have J : Inv X pins σ (upd H1 d (.xd [(f, v)])) ⟨G', g, dr, tk', os⟩ := I1.laid (t' := tk') old M.dbig ob
    refine ⟨e, oe, fv, ⟨G', g, dr, tk', os⟩, _, .ref C, some d, rfl, J, fun b o q => ?_, ge, hoe, ⟨hc, hd⟩, hdat, h1, ?_, rfl, I1.bare, raises_own T.exC T.tyC, q1 d (I1.hok.fresh M.dbig)⟩
    · by_cases hb : b = e
      · have q' : G'.get? b = some o := q
        rw [hb, ge] at q'; cases q'
      · exact (gk b hb).symm.trans q
    · rw [upd_ne (Ne.symm M.dne)]
      exact I1.hok.fresh M.new
/-- raise cn(e) -/
theorem ps_raiseKept {a : Expr} {ta : TA} {W : WX} {p pos pos2 : Pos} {k : Nat} (hc : X.calm = true) (T : PySem.OwX.KeepT X.K X.mg cn f B newId bmB C fI) (SF : StoreFacts B bmB "object.__setattr__" "object") (FB : ExcBaseFacts B newId initId bmB) (hr : Room k X.A) (tk : Takes X W) (ha : PA X [a] ta) (hg : Gl X cn)
    (hdb : (cn == ("__debug__" : Str)) = false := by decide) (he : starEach (a :: []) X.env = (false, eval a X.env) :: starEach [] X.env := by rfl) (hpl : (backTo pos (starEach [] X.env)).any (·.1) = false := by rfl) :
    PS X (.Raise (some (.Call (.Name cn p) [a] [] pos)) none pos2) (fun _ σ H => tMkKept C f ta σ H fun cls d H' => W cls d σ H') :=
  ps_raise hc tk (pmk_kept T SF FB hr ha hg hdb he hpl)
end
end L2
/-! S32 -/
set_option Elab.async false
set_option linter.all false
set_option maxRecDepth 100000
/-! repr of data; defs that are told that no repr is under way; wishes handed on -/
namespace RL
open PySem PySem.Spec PyProof.Rows L2
/-- data that repr shows -/
def Shows (d : PyData) : Prop := d.showable = true ∧ d.hasDict = false ∧ d.shown.length ≤ sizeLine ∧ d.depth < 60 ∧ (PyData.str d.shown).canLay0 = true
instance (d : PyData) : Decidable (Shows d) := by unfold Shows; infer_instance
def rReprD (K : PySem.W.Frag) : List V → Hp → VK → Prop := fun xs H Q => ∃ v d, xs = [v] ∧ Dp K H v d ∧ Shows d ∧ Q (.str d.shown) H
theorem call_reprD {X : Cx} (hg : X.A.guards = some []) (hu : X.A.units + 64 < cLine) : CallR X (.builtin "repr") (rReprD X.K) := by
  intro pins s σ H xs us Q I r h
  obtain ⟨v, d, rfl, hd, ⟨h1, h2, h3, h4, _⟩, q⟩ := h
  obtain ⟨u, rfl, ru⟩ := vals1 r
  obtain ⟨as, rd⟩ := Dp.reads I d v u hd ru
  cases d with
  | none =>
    cases rd
    exact PySem.P.repr_of_none ⟨.str _, H, I.tok _, ⟨_, rfl⟩, q⟩
  | bool b =>
    cases rd
    exact PySem.P.repr_of_bool ⟨.str _, H, I.tok _, ⟨_, rfl⟩, q⟩
  | int i =>
    cases rd
    exact PySem.P.repr_of_int (of_decide_eq_true h1) ⟨.str _, H, I.tok _, ⟨_, rfl⟩, q⟩
  | str x =>
    cases rd
    exact PySem.P.repr_of_str ⟨.str _, H, I.tok _, ⟨_, rfl⟩, q⟩ h3
  | list ds =>
    cases rd
    rename_i a o vs n bs e1 e2 e3 e4
    refine repr_of_reads' (Reads.list e1 e2 e3 e4) h1 (fun z => by rw [h2] at z; cases z) hg ?_ (fun _ _ e => e) (fun h' z tk k => ?_) h3
    · omega
    · exact ⟨.str _, H, I.kept k, ⟨_, rfl⟩, q⟩
  | tuple ds =>
    cases rd
    rename_i a o vs n e1 e2 e3 e4
    refine repr_of_reads' (Reads.tuple e1 e2 e3 e4) h1 (fun z => by rw [h2] at z; cases z) hg ?_ (fun _ _ e => e) (fun h' z tk k => ?_) h3
    · omega
    · exact ⟨.str _, H, I.kept k, ⟨_, rfl⟩, q⟩
  | dict kvs => cases hd
/-- what leaves a call leaves the caller -/
theorem passE {X : Cx} {E : XK} (h : Takes X (fun cls d _ H => E cls d H)) : Passes (L2.CX X.prog X.w) X E := passes_call h fun _ _ _ _ z => z
/-- as FnOk, where no repr is under way -/
structure FnG (P : Program) (w : World) (K : PySem.W.Frag) (mg : Str → Option Value) (base : Heap) (CX : CXT) (k : Nat) (f : Addr) (fd : FuncData) (ps : List Str) (sp : Sp) : Prop where
  len : ∀ vs H Q E, sp vs H Q E → vs.length = ps.length
  run : ∀ (A : Around) (outer : List Env) (s : Shared) (H : Hp) (args : Args) (us : List Value) (vs : List V) (Q : VK) (E : XK), A.guards = some [] → Room k A → Env0 P w K mg base A outer s H →
    BindsTo s fd args (ps.zip us) → Vals vs us → sp vs H Q E → codeAny (model P w) A (.call (.ref f) args) (CR CX outer P w H s Q E) s
section
variable {P : Program} {w : World} {K : PySem.W.Frag} {mg : Str → Option Value} {base : Heap}
theorem Fun.okG {x qual : Str} {st : Stmt} {f : Addr} {fd : FuncData} {N ps : List Str} {k : Nat} {sp : Sp} (F : Fun K x qual st f fd) (S : FnScope N ps (defScope st)) (len : ∀ vs H Q E, sp vs H Q E → vs.length = ps.length)
    (hbody : ∀ (cdv : Value) (A : Around) (outer : List Env) (s : Shared) (H : Hp) (vs : List V) (Q : VK) (E : XK), fd.code = cdv → A.guards = some [] →
      Room k (A.deeper (envOfC qual (defScope st) s.heap.objs.size f cdv)) → sp vs H Q E →
      ∃ t, PSs (cxOf CX0 P w K mg base N qual (defScope st) f cdv A outer s H E).nox (defBody st) t ∧ t { nx := fun _ H' => Q .non H', rt := Q } (start N vs) H) :
    FnG P w K mg base CX0 (k + 1) f fd ps sp := by
  obtain ⟨oc, od, kV, doc, pm, an, cdv, ct, osl, rfl, lk, hcd⟩ := F.ex
  refine ⟨len, fun A outer s H args us vs Q E hg hr e0 hb r hsp => ?_⟩
  refine LamX.run_ofS lk hcd S hr e0 hb r (len _ _ _ _ hsp) fun hr' => ?_
  obtain ⟨t, ht, hq⟩ := hbody cdv A outer s H vs Q E rfl hg hr' hsp
  exact ⟨t, ht.nox, hq⟩
end
section
variable {X : Cx} {CX : CXT} {k : Nat} {f : Addr} {fd : FuncData} {ps : List Str} {sp : Sp} {E : XK} {x : Str} {e : Expr} {es : List Expr} {t : TA} {p pos : Pos}
theorem pe_callG (hgu : X.A.guards = some []) (F : FnG X.prog X.w X.K X.mg X.base CX k f fd ps sp) (hr : Room k X.A) (hg : Gl X x) (hm : X.mg x = some (.ref f)) (hk : PySem.W.keepIn X.K (.ref f) = true) (hb : Binds X.K fd ps []) (hx : Passes CX X E)
    (ha : PA X (e :: es) t) (hdb : (x == ("__debug__" : Str)) = false := by decide) (he : starEach (e :: es) X.env = (false, eval e X.env) :: starEach es X.env := by rfl)
    (hpl : (backTo pos (starEach es X.env)).any (·.1) = false := by rfl) : PE X (.Call (.Name x p) (e :: es) [] pos) (tCall sp [] E t) := by
  refine ⟨fun pins s σ H Q I h => ?_⟩
  refine wpAny_Call_Name_kw (ld_glob I hg hm ?_ hdb)
  refine PySem.W.callWith_K (h₀ := X.base) I.ok.mod.kin hk (thn (ha.run pos pins s σ H _ I h) fun us s1 ⟨vs, H1, I1, r, q⟩ => ⟨I1.kIn, ?_⟩) he hpl
  have q' : sp vs H1 Q E := by
    have z : sp (vs ++ []) H1 Q E := q
    rw [List.append_nil] at z
    exact z
  have hl : us.length = ps.length := by rw [← r.length]; exact F.len _ _ _ _ q'
  have bt := hb s1 us I1.kIn (by rw [List.append_nil]; exact hl)
  rw [List.append_nil] at bt
  refine wpAny_call (codeAny_mono (F.run X.A X.stack s1 H1 ⟨us, []⟩ us vs Q E hgu hr I1.env0 bt r q') fun z s' hq => ?_)
  cases z with
  | error er => exact hx pins σ H1 s1 er s' I1 hq
  | ok fl =>
    cases fl with
    | ret u => exact I1.after hq
    | next => exact hq.elim
    | brk => exact hq.elim
    | cont => exact hq.elim
end
end RL
/-! S33 -/
set_option Elab.async false
set_option linter.all false
set_option maxRecDepth 100000
set_option maxHeartbeats 2000000
/-! a law's end: its defs' tables stand empty, and no repr is under way -/
namespace RL
open PySem PySem.Spec PyProof.Rows L2 LamX
section
variable {P : Program} {w : World} {K : PySem.W.Frag} {mg mb : Str → Option Value} {CX : CXT} {k : Nat} {fa a : Addr} {cs : List (Addr × Addr)} {fd : FuncData} {x : Str} {sp : Sp} {z : Shared} {vs : List Value} {ns : List Int}
theorem law_callTG (KX : K.In z.heap) (hns : z.heap.Ns mainGlobals mg) (hb : z.heap.Ns builtinsNs mb) (hbb : ∀ x : Str, x ≠ "__name__" → mb x = bootBuiltins x) (hlim : z.heap.NoLimit) (hg : z.gens = #[])
    (hT : ∀ p ∈ cs, z.heap.get? p.2 = some { cls := .none, data := .fields #[] }) (nT : ∀ p ∈ cs, K.lookup p.2 = none) (C : ∀ p ∈ cs, PySem.W.CodeHd z.heap p.1 p.2)
    (hbm : ∃ (bm : Addr) (ob : Obj), mg "__builtins__" = some (.ref bm) ∧ bm ≠ builtinsNs ∧ z.heap.get? bm = some ob ∧ ob.cls = .type "module" ∧ ob.dict = some builtinsNs ∧ ob.data = .plain)
    (ha : z.heap.get? a = some { cls := .type "list", data := .seq vs.toArray }) (hi : IntsAre vs ns) (hl : ns.length ≤ sizeLine) (hr : Room k callerA)
    (F : ∀ base : Heap, K.In base → base.Ns mainGlobals mg → (∀ p ∈ cs, TabB base mg p.1 p.2) → FnG P w K mg base CX k fa fd [x] sp)
    (hbind : ∀ (s : Shared) (u : Value), BindsTo s fd ⟨[u], []⟩ [(x, u)])
    (hsp : ∀ H : Hp, (∀ p ∈ cs, H p.2 = some (.tbl #[])) → SqL K H a (ns.map V.int) → sp [.ref a] H (fun v _ => v = .bl true) fun _ _ _ => False)
    (hCX : ∀ H e s', CX [] H z (fun _ _ _ => False) e s' → False) :
    codeAny (model P w) callerA (.call (.ref fa) ⟨[.ref a], []⟩)
      (fun r s' => r = .ok (.ret (.bool true)) ∧ OldK z.heap s'.heap ∧ s'.os = z.os ∧ AllBare s'.gens) z := by
  have tabs : ∀ b : Addr, b ∈ cs.map (·.2) → z.heap.get? b = some { cls := .none, data := .fields #[] } := by
    intro b hb
    obtain ⟨p, hp, rfl⟩ := List.mem_map.mp hb
    exact hT p hp
  have inT : ∀ p ∈ cs, p.2 ∈ cs.map (·.2) := fun p hp => List.mem_map_of_mem hp
  have noTa : a ∉ cs.map (·.2) := fun hm => by
    have q := congrArg (Option.map Obj.data) (ha.symm.trans (tabs a hm))
    cases q
  have run : ∀ H : Hp, (∀ p ∈ cs, H p.2 = some (.tbl #[])) →
      (∀ b, H b = none ∨ b ∈ cs.map (·.2) ∨ ∃ o xs, H b = some (.frz o (.lst xs))) → SqL K H a (ns.map V.int) →
      HOk P w H z.heap → (∀ b, H b ≠ none → b = a ∨ b ∈ cs.map (·.2)) → (H a ≠ none → K.lookup a = none) →
      codeAny (model P w) callerA (.call (.ref fa) ⟨[.ref a], []⟩)
        (fun r s' => r = .ok (.ret (.bool true)) ∧ OldK z.heap s'.heap ∧ s'.os = z.os ∧ AllBare s'.gens) z := by
    intro H onT known hS hok only hK
    have off : ∀ {b : Addr} {o : Obj}, z.heap.get? b = some o → (∀ vs n, o.data ≠ .seq vs n) → o.data ≠ .fields #[] → H b = none := by
      intro b o e n1 n2
      cases q : H b with
      | none => rfl
      | some u =>
        have q1 : H b ≠ none := fun y => by rw [q] at y; cases y
        rcases only b q1 with e' | e'
        · subst e'
          cases ha.symm.trans e
          exact absurd rfl (n1 _ _)
        · cases (tabs b e').symm.trans e
          exact absurd rfl n2
    have inB : ∀ {b : Addr} {o : Obj}, z.heap.get? b = some o → H b = none → (hidT z.heap H).get? b = some o := fun e n => hidT_get e n
    have nsB : ∀ {b : Addr} {m : Str → Option Value}, z.heap.Ns b m → (hidT z.heap H).Ns b m := by
      rintro b m ⟨o, es, ep, e, d, r⟩
      refine ⟨o, es, ep, inB e (off e (fun vs n y => ?_) fun y => ?_), d, r⟩ <;> (rw [d] at y; cases y)
    have kinB : K.In (hidT z.heap H) := fun b o e => inB (KX b o e) (by
      cases q : H b with
      | none => rfl
      | some u =>
        have q1 : H b ≠ none := fun y => by rw [q] at y; cases y
        rcases only b q1 with e' | e'
        · subst e'
          cases (hK q1).symm.trans e
        · obtain ⟨p, hp, rfl⟩ := List.mem_map.mp e'
          cases (nT p hp).symm.trans e)
    have mod : L2.Mod K mg (hidT z.heap H) := ⟨kinB, nsB hns, ⟨mb, nsB hb, hbb⟩, let ⟨mc, q1, q2⟩ := hlim; ⟨mc, nsB q1, q2⟩⟩
    have TB : ∀ p ∈ cs, TabB (hidT z.heap H) mg p.1 p.2 := by
      intro p hp
      have hTp := hT p hp
      refine ⟨?_, ?_, fun y => ?_⟩
      · obtain ⟨o, us, file, tf, flags, tg, inF, text, tt, e1, r1, r2, r3, rest⟩ := C p hp
        refine ⟨o, us, file, tf, flags, tg, inF, text, tt, inB e1 (off e1 (fun vs n y => ?_) fun y => ?_), r1, r2, r3, rest⟩
        · cases r2.symm.trans y
        · cases r2.symm.trans y
          simp at r3
      · obtain ⟨bm, ob, b1, b2, b3, b4, b5, b6⟩ := hbm
        have n1 : bm ≠ mainGlobals := fun q => by
          obtain ⟨o, es, ep, e, hd, _⟩ := hns
          subst q
          cases b3.symm.trans e
          cases b6.symm.trans hd
        have n2 : bm ≠ p.2 := fun q => by
          subst q
          cases b3.symm.trans hTp
          cases b6
        refine ⟨bm, ob, b1, b2, n1, n2, inB b3 (off b3 (fun vs n y => ?_) fun y => ?_), b4, b5, b6⟩ <;> cases b6.symm.trans y
      · obtain ⟨o, es, ep, e, hd, _⟩ := hns
        rw [y] at e
        cases e.symm.trans hTp
        cases hd
    have e0 : Env0 P w K mg (hidT z.heap H) callerA [] z H :=
      ⟨rfl, mod, fun b o e => of_hidT e, Nat.le_of_eq (hidT_size _ _), trivial, fun b hb => (by cases hb), hok, .of_eq hg⟩
    have G := F _ kinB (nsB hns) TB
    refine codeAny_mono (G.run callerA [] z H ⟨[.ref a], []⟩ [.ref a] [.ref a] _ _ rfl hr e0 (hbind z (.ref a)) (.cons rfl .nil) (hsp H onT hS)) fun r s' h => ?_
    cases r with
    | error e => exact (hCX H e s' h).elim
    | ok fl =>
      cases fl with
      | next => exact h.elim
      | brk => exact h.elim
      | cont => exact h.elim
      | ret u =>
        obtain ⟨v, H', os, bare, un, hok', r', q⟩ := h
        obtain rfl : v = .bl true := q
        obtain rfl : u = Value.bool true := r'
        have same : ∀ b o, b ∉ cs.map (·.2) → z.heap.get? b = some o → s'.heap.get? b = some o := by
          intro b o nb e
          rcases known b with y | y | ⟨ob, xs, y⟩
          · exact un.keep b o e y (by intro y'; cases y') (by intro y'; cases y')
          · exact absurd y nb
          · obtain ⟨e1, _⟩ := hok b _ y
            obtain ⟨e2, _⟩ := hok' b _ (un.frzs b ob _ y)
            cases e1.symm.trans e
            exact e2
        have grown : ∀ p ∈ cs, ∃ more : Array Value, s'.heap.get? p.2 = some { cls := .none, data := .fields more } := fun p hp =>
          let ⟨more, y⟩ := un.tbls p.2 #[] (onT p hp)
          ⟨_, hok' p.2 _ y⟩
        refine ⟨rfl, ⟨fun b o e => ?_, fun b o e => ?_⟩, os, bare⟩
        · by_cases hm : b ∈ cs.map (·.2)
          · obtain ⟨p, hp, rfl⟩ := List.mem_map.mp hm
            obtain ⟨more, y⟩ := grown p hp
            cases (hT p hp).symm.trans e
            exact .inr (.inl ⟨((C p hp).tab (hT p hp)).isCodeTable, rfl, #[], more, rfl, (Array.empty_append (xs := more)).symm ▸ y⟩)
          · exact .inl (same b o hm e)
        · by_cases hm : b ∈ cs.map (·.2)
          · obtain ⟨p, hp, rfl⟩ := List.mem_map.mp hm
            obtain ⟨more, y⟩ := grown p hp
            exact ⟨_, y⟩
          · exact ⟨o, same b o hm e⟩
  have rv := vals_ints hi
  have lenV := hi.length
  cases hk : K.lookup a with
  | some o =>
    cases (KX a o hk).symm.trans ha
    refine run (fun b => if b ∈ cs.map (·.2) then some (.tbl #[]) else none) (fun p hp => if_pos (inT p hp)) (fun b => ?_)
      (.inr ⟨_, vs.toArray, _, hk, rfl, rfl, rfl, by rw [List.size_toArray, lenV]; exact hl, by simpa using rv⟩) (fun b u y => ?_) (fun b y => ?_) fun y => absurd (if_neg noTa) y
    · by_cases hm : b ∈ cs.map (·.2)
      · exact .inr (.inl hm)
      · exact .inl (if_neg hm)
    · by_cases hm : b ∈ cs.map (·.2)
      · cases (if_pos hm).symm.trans y
        exact tabs b hm
      · cases (if_neg hm).symm.trans y
    · by_cases hm : b ∈ cs.map (·.2)
      · exact .inr hm
      · exact absurd (if_neg hm) y
  | none =>
    refine run (fun b => if b = a then some (.frz { cls := .type "list", data := .seq vs.toArray } (.lst (ns.map V.int))) else if b ∈ cs.map (·.2) then some (.tbl #[]) else none)
      (fun p hp => (if_neg (show ¬ p.2 = a from fun y => noTa (y ▸ inT p hp))).trans (if_pos (inT p hp))) (fun b => ?_) (.inl (.inr ⟨{ cls := .type "list", data := .seq vs.toArray }, if_pos rfl⟩)) (fun b u y => ?_) (fun b y => ?_) fun _ => hk
    · by_cases e : b = a
      · exact .inr (.inr ⟨_, _, if_pos e⟩)
      · by_cases hm : b ∈ cs.map (·.2)
        · exact .inr (.inl hm)
        · exact .inl ((if_neg e).trans (if_neg hm))
    · by_cases e : b = a
      · cases (if_pos e).symm.trans y
        subst e
        exact ⟨ha, (List.length_map (as := ns) V.int).symm ▸ hl, vs, _, rv, ha⟩
      · have y1 := (if_neg e).symm.trans y
        by_cases hm : b ∈ cs.map (·.2)
        · cases (if_pos hm).symm.trans y1
          exact tabs b hm
        · cases (if_neg hm).symm.trans y1
    · by_cases e : b = a
      · exact .inl e
      · by_cases hm : b ∈ cs.map (·.2)
        · exact .inr hm
        · exact absurd ((if_neg e).trans (if_neg hm)) y
end
/-- what is known of the law's promise, at the head's heap h -/
def LawAtG (l : PySem.W.OpenLaw) (w : World) (K : PySem.W.Frag) (CX : CXT) (k n : Nat) (x : Str) (mg : Str → Option Value) (fa : Addr) (h : Heap) : Prop :=
  ∃ (fd : FuncData) (cs : List (Addr × Addr)) (sp : Sp),
    (∀ p ∈ cs, h.get? p.2 = some { cls := .none, data := .fields #[] }) ∧ (∀ p ∈ cs, K.lookup p.2 = none) ∧ (∀ p ∈ cs, PySem.W.CodeHd h p.1 p.2) ∧
    (∀ (s : Shared) (u : Value), BindsTo s fd ⟨[u], []⟩ [(x, u)]) ∧
    (∀ (H : Hp) (a : Addr) (ns : List Int), ns.length ≤ n → (∀ z ∈ ns, Builtin.Int.intBits z ≤ 1048576) → (∀ p ∈ cs, H p.2 = some (.tbl #[])) →
      SqL K H a (ns.map V.int) → sp [.ref a] H (fun v _ => v = .bl true) fun _ _ _ => False) ∧
    ∀ base : Heap, K.In base → base.Ns mainGlobals mg → (∀ p ∈ cs, TabB base mg p.1 p.2) → FnG l.prog w K mg base CX k fa fd [x] sp
/-- the tables of the top's defs are empty at the head's heap -/
def TabsOk (q : Program) (K : PySem.W.Frag) (h : Heap) : Prop :=
  ∀ (x : Str) (c P : Addr), ((recsOf q).find? fun e => e.name == x).isSome = true → PySem.W.tabIn K x = some (c, P) →
    PySem.W.CodeHd h c P ∧ h.get? P = some { cls := .none, data := .fields #[] }
theorem walk_ofTG {l : PySem.W.OpenLaw} {n k : Nat} {q : Program} {loose : List Str} {XP : (Str → Option Value) → Heap → Prop} {YP : World → Heap → Prop} {d : DefRec} {K : Params → PySem.W.Frag} {CX : World → CXT} {x : Str}
    (hn : l.most = some n) (hn2 : n ≤ sizeLine) (hdf : d.params.defaults = []) (hr : Room k callerA) (hY : ∀ (w : World) (h : Heap), YP w h → (K w.params).In h)
    (F : ∀ (w : World) (mg : Str → Option Value) (fa : Addr) (h : Heap), YP w h → (K w.params).In h → h.Ns mainGlobals mg → mg d.name = some (.ref fa) → TabsOk q (K w.params) h →
      LawAtG l w (K w.params) (CX w) k n x mg fa h)
    (hCX : ∀ (w : World) (H : Hp) (s : Shared) (e : Value) (s' : Shared), CX w [] H s (fun _ _ _ => False) e s' → False) :
    PySem.W.WalkO q loose XP YP l.row.toRowW d [] (fun f vs => PySem.call f vs) := by
  refine Att.attach_callB hn hdf fun w s₀ z mg mb fa o pm cd doc a vs ns G Y ho hd hcd hmg hobj hints hlen hbits hg => ?_
  have KX := hY w _ Y
  have own : TabsOk q (K w.params) z.heap := by
    intro y c T hs ht
    obtain ⟨d', hd'⟩ := Option.isSome_iff_exists.mp hs
    exact PySem.W.tab_of G.T KX hd' ht
  obtain ⟨fd, cs, sp, hT, nT, C, hb, hsp, hF⟩ := F w mg fa _ Y KX G.T.g hmg own
  exact law_callTG KX G.T.g G.T.b G.T.builtins G.T.nolimit hg hT nT C G.T.bmain hobj hints (Nat.le_trans hlen hn2) hr hF hb (fun H hH hS => hsp H a ns hlen hbits hH hS) fun H e s' => hCX w H z e s'
end RL
/-! S34 -/
set_option Elab.async false
set_option linter.all false
set_option maxRecDepth 100000
/-! a lambda handed to a def of the text; a held def that may raise; x is True, x is False -/
namespace RL
open PySem PySem.Spec PyProof.Rows L2 LamX
section
variable {X : Cx}
theorem pe_lamF {T : List (Addr × Str)} {TT : (XK → Hp → VK → Prop) → Hp → VK → Prop} {x a : Str} {g c P : Addr} {k : Nat} {st : Stmt} {fd : FuncData} {Ng : List Str} {params : Arguments} {body : Expr} {scope : Scope} {t : XK → TE} {p lpos pos : Pos}
    (hg : Gl X x) (hm : X.mg x = some (.ref g)) (F : Fun X.K x x st g fd) (hb : L2.Binds X.K fd [a] []) (Sg : FnScope Ng [a] (defScope st)) (hNg : Ng[0]? = some a) (hva : Vis (defScope st) a)
    (hG : ∀ cdg, GivesTo X Ng x (defScope st) g cdg (defBody st) a (X.env.qual ++ "<lambda>") TT)
    (TB : TabB X.base X.mg c P) (hcode : X.env.code = .ref c) (hmT : (P, X.env.qual ++ "<lambda>") ∈ T) (hu : ∀ p ∈ T, p.1 = P → p.2 = X.env.qual ++ "<lambda>") (hr : Room (k + 2) X.A) (L : LamS X.env.scope scope)
    (hbody : ∀ (A : Around) (outer : List Env) (s : Shared) (H : Hp) (E : XK) (f c' : Addr), Room k (A.deeper (lamEnv X scope s.heap.objs.size f c')) → PE (lamCx X A outer s H E scope f c') body (t E))
    (hdef : defaultsOf params X.env = ([], []) := by rfl)
    (hbind : ∀ (q : Str) (cl : List (Str × Addr)) (pm cv ctv : Value), bindArgs (PySem.W.kla_fn "<lambda>" q params body scope cl pm cv ctv) ⟨[], []⟩ = pure [] := by exact fun _ _ _ _ _ => rfl)
    (hdb : (x == ("__debug__" : Str)) = false := by decide) (hd : (a == ("__debug__" : Str)) = false := by decide) (hcd : (a == ("__classdict__" : Str)) = false := by decide) :
    PE X (.Call (.Name x p) [.Lambda params body scope lpos] [] pos) (tLam T TT t) := by
  obtain ⟨oc, od, kV, doc, pm, an, cdv, ct, osl, e, lk, hcg⟩ := F.ex
  subst e
  exact pe_lamcall hg hm F.kp lk hcg hb Sg hNg hva (hG cdv) TB hcode hmT hu hr L hdef hbind hbody hdb hd hcd
end
/-- of several defs that the slot may hold, which may raise -/
structure HeldX (P : Program) (w : World) (K : PySem.W.Frag) (mg : Str → Option Value) (base : Heap) (k : Nat) (f : Addr) (sp : Sp) : Prop where
  ex : ∃ (fd : FuncData) (ps : List Str), FnOk P w K mg base (L2.CX P w) k f fd ps sp ∧ PySem.W.keepIn K (.ref f) = true ∧ Binds K fd ps []
def tCallAX (i : Nat) (S : Addr → Sp → Prop) (E : XK) (t : TA) : TE := fun σ H Q => ∃ f sp, σ[i]? = some (some (.ref f)) ∧ S f sp ∧ t σ H fun vs H1 => sp vs H1 Q E
section
variable {X : Cx} {k i : Nat} {E : XK} {x : Str} {p pos : Pos} {e : Expr} {es : List Expr} {t : TA}
theorem pe_callAX {S : Addr → Sp → Prop} (A : ∀ f sp, S f sp → HeldX X.prog X.w X.K X.mg X.base k f sp) (hr : Room k X.A) (hN : X.N[i]? = some x) (hv : Vis X.env.scope x) (hx : Passes (L2.CX X.prog X.w) X E) (ha : PA X (e :: es) t)
    (hdb : (x == ("__debug__" : Str)) = false := by decide) (hcd : (x == ("__classdict__" : Str)) = false := by decide)
    (he : starEach (e :: es) X.env = (false, eval e X.env) :: starEach es X.env := by rfl) (hpl : (backTo pos (starEach es X.env)).any (·.1) = false := by rfl) :
    PE X (.Call (.Name x p) (e :: es) [] pos) (tCallAX i S E t) := by
  refine ⟨fun pins s σ H Q I h => ?_⟩
  obtain ⟨f, sp, hs, hS, ht⟩ := h
  obtain ⟨fd, ps, F, hk, hb⟩ := (A f sp hS).ex
  refine (pe_callL (i := i) (f := f) (sp := sp) (dvs := []) (E := E) F hr hN hv hk hb .nil hx ha hdb hcd he hpl).run pins s σ H Q I ⟨hs, ?_⟩
  have e0 : (fun (vs : List V) (H1 : Hp) => sp (vs ++ []) H1 Q E) = fun vs H1 => sp vs H1 Q E := by
    funext vs H1
    rw [List.append_nil]
  show t σ H (fun vs H1 => sp (vs ++ []) H1 Q E)
  rw [e0]
  exact ht
/-- b is c, of True and False -/
theorem op_isB : OpR X (compareOp .Is) (fun x y H Q => ∃ b c, x = .bl b ∧ y = .bl c ∧ Q (.bl (b == c)) H) := by
  intro pins s σ H x y v u Q I rx ry h
  obtain ⟨b, c, rfl, rfl, q⟩ := h
  cases (show v = Value.bool b from rx)
  cases (show u = Value.bool c from ry)
  have z : (compareOp .Is (.bool b) (.bool c) : Sem Value) = pure (.bool (b == c)) := by cases b <;> cases c <;> rfl
  rw [z]
  exact wpAny_pure ⟨.bl _, H, I, rfl, q⟩
end
end RL
/-! S23 -/
set_option Elab.async false
set_option linter.all false
set_option maxRecDepth 100000
set_option maxHeartbeats 2000000
namespace RL
open PySem PySem.Spec PyProof.Rows L2
/-- t * k, t not empty, together at most a million letters -/
def rRepW (K : PySem.W.Frag) : R2 := fun x y H Q => ∃ l k xs, x = .ref l ∧ y = .int k ∧ SqT K H l xs ∧ xs ≠ [] ∧ -(2 ^ 62) ≤ k ∧ k ≤ 1000000 ∧ xs.length ≤ 1000 ∧ xs.length * k.toNat ≤ 1000000 ∧ NewT K H Q (List.replicate k.toNat xs).flatten
theorem op_repW {X : Cx} : OpR X (binaryOp .Mult) (rRepW X.K) := by
  intro pins s σ H x y v u Q I rx ry h
  obtain ⟨l, k, xs, rfl, rfl, hT, hne, h1, h2, hz, hp, q⟩ := h
  rcases Int.lt_or_le 1 k with hk | hk
  · cases rx
    obtain ⟨tk, rfl⟩ := ry
    obtain ⟨its, r, ⟨⟨cl, dd, dt, sl⟩, ho, hc, cap, hd⟩, _⟩ := I.tuple hT
    obtain rfl : cl = .type "tuple" := hc
    obtain rfl : dt = .seq its.toArray cap := hd
    have len : its.length = xs.length := r.length.symm
    have some_ : 0 < its.length := by rw [len]; exact List.length_pos_iff.mpr hne
    have empty : its.toArray.isEmpty = false := by
      cases its with
      | nil => cases some_
      | cons a b => rfl
    have all : (List.replicate k.toNat its).flatten.length ≤ sizeLine := by
      rw [PyProof.Rows.lm_len_rep_flat, len, sizeLine_eq, Nat.mul_comm]
      omega
    have prod : ((its.toArray.size : Nat) : Int) * k ≤ 1000000 := by
      have e : ((its.toArray.size : Nat) : Int) * k = ((xs.length * k.toNat : Nat) : Int) := by
        rw [List.size_toArray, len, Int.natCast_mul, Int.toNat_of_nonneg (by omega)]
      rw [e]
      omega
    have mul := tuple_mulW l its.toArray cap dd sl k tk (by rw [decide_eq_false (by omega), decide_eq_false (by omega)]; rfl) (by rw [empty, Bool.false_or]; exact beq_eq_false_iff_ne.mpr (by omega)) (by rw [empty, Bool.or_false]; exact decide_eq_false (by omega)) (by omega)
      (by unfold Builtin.Tuple.tupleTooMany; rw [sizeLine_eq]; exact decide_eq_false (by omega)) (by rw [size_rep, List.size_toArray]; exact all)
    refine wpAny_binaryOp_repeat_ref (T := "tuple") (U := "int") (by decide) ⟨_, ho, rfl⟩ (fun s' => typeIs_int s' k tk) noFill_tuple_mul F.fills_int_mul F.slot_int_rmul repeat_tuple F.slot_int_index.lookup
      (call_meets F.slot_int_rmul (typeIs_int s k tk) F.entry_int_rmul (F.args_int_rmul_2 _ _) (int_rmul_tuple k tk l its.toArray cap dd sl) ⟨ho, rfl, ⟨_, ho, rfl⟩, call_meets F.slot_tuple_mul ⟨_, ho, rfl⟩ F.entry_tuple_mul (F.args_tuple_mul_2 _ _) mul ⟨ho, ?_⟩⟩)
    rw [size_rep]
    refine ⟨.ref s.heap.objs.size, _, I.laid (t' := s.toks) (o := .tup (List.replicate k.toNat xs).flatten) (fun b ob z => Heap.get?_push_of_some _ z) (Nat.le_refl _) ⟨?_, _, r.rep k.toNat, IsTup.new _ _⟩, rfl, q.al _ (I.hok.fresh (Nat.le_refl _))⟩
    rw [PyProof.Rows.lm_len_rep_flat, sizeLine_eq, Nat.mul_comm]
    omega
  · exact op_repS pins s σ H _ _ v u Q I rx ry ⟨l, k, xs, rfl, rfl, hT, h1, by omega, hz, q⟩
end RL
/-! S35 -/
set_option Elab.async false
set_option linter.all false
set_option maxRecDepth 100000
/-! what stands while tables grow; kinds of values; wishes of errors -/
namespace RL
open PySem PySem.Spec PyProof.Rows L2 LamX
theorem Same.ext {H H' : Hp} (s : Same H H') : ExtN H H' := fun b o h _ => s b o h
theorem ext_sqt {K : PySem.W.Frag} {H H' : Hp} (e : ExtN H H') {a : Addr} {xs : List V} (h : SqT K H a xs) : SqT K H' a xs := by
  rcases h with (h | ⟨o, h⟩) | h
  · exact .inl (.inl (e _ _ h fun ps z => by cases z))
  · exact .inl (.inr ⟨o, e _ _ h fun ps z => by cases z⟩)
  · exact .inr h
theorem ext_isW {K : PySem.W.Frag} {H H' : Hp} (e : ExtN H H') {v : V} {ws : List Int} (h : IsW K H v ws) : IsW K H' v ws := let ⟨a, q, s⟩ := h; ⟨a, q, ext_sqt e s⟩
theorem ext_tyx {K : PySem.W.Frag} {H H' : Hp} {v : V} {t : Value} (s : ExtN H H') (h : TyX K H v t) : TyX K H' v t := by
  cases h with
  | base h =>
    cases h with
    | non => exact .base .non
    | bl x => exact .base (.bl x)
    | int i => exact .base (.int i)
    | str x => exact .base (.str x)
    | flt x => exact .base (.flt x)
    | lst e => exact .base (.lst (s _ _ e fun ps z => by cases z))
    | frz e => exact .base (.frz (s _ _ e fun ps z => by cases z))
    | tup e => exact .base (.tup (s _ _ e fun ps z => by cases z))
    | dK e => exact .base (.dK (s _ _ e fun ps z => by cases z))
    | dT e => exact .base (.dT (s _ _ e fun ps z => by cases z))
    | ins e cl ha hn htk hm => exact .base (.ins (s _ _ e fun ps z => by cases z) cl ha hn htk hm)
  | byt b => exact .byt b
  | set e => exact .set (s _ _ e fun ps z => by cases z)
  | kList e c => exact .kList e c
  | kTuple e c => exact .kTuple e c
  | kDict e c => exact .kDict e c
  | fTuple e => exact .fTuple (s _ _ e fun ps z => by cases z)
  | fDict e => exact .fDict (s _ _ e fun ps z => by cases z)
theorem ext_numV {K : PySem.W.Frag} {H H' : Hp} {v : V} (s : ExtN H H') (h : NumV K H v) : NumV K H' v := by
  rcases h with h | h | ⟨n1, n2, t, h1, h2⟩
  · exact .inl h
  · exact .inr (.inl h)
  · exact .inr (.inr ⟨n1, n2, t, ext_tyx s h1, h2⟩)
mutual
theorem ext_dp {K : PySem.W.Frag} {H H' : Hp} (s : ExtN H H') : ∀ {v : V} {d : PyData}, Dp K H v d → Dp K H' v d
  | _, _, .non => .non
  | _, _, .bl b => .bl b
  | _, _, .int i => .int i
  | _, _, .str x => .str x
  | _, _, .lst h a => .lst (ext_sql s h) (ext_dpAll s a)
  | _, _, .tup h a => .tup (ext_sqt s h) (ext_dpAll s a)
theorem ext_dpAll {K : PySem.W.Frag} {H H' : Hp} (s : ExtN H H') : ∀ {vs : List V} {ds : List PyData}, DpAll K H vs ds → DpAll K H' vs ds
  | _, _, .nil => .nil
  | _, _, .cons h a => .cons (ext_dp s h) (ext_dpAll s a)
theorem ext_sql {K : PySem.W.Frag} {H H' : Hp} (e : ExtN H H') {a : Addr} {xs : List V} (h : SqL K H a xs) : SqL K H' a xs := by
  rcases h with (h | ⟨o, h⟩) | h
  · exact .inl (.inl (e _ _ h fun ps z => by cases z))
  · exact .inl (.inr ⟨o, e _ _ h fun ps z => by cases z⟩)
  · exact .inr h
end
/-- whether v is spelled with the first k letters, at most so many -/
def spelled (xs : List V) (k most : Int) : Bool := decide ((xs.length : Int) ≤ most) && xs.all fun x => numB x 0 (k - 1)
def SpV (K : PySem.W.Frag) (H : Hp) (v : V) (k most : Int) (b : Bool) : Prop :=
  (b = false ∧ ∃ t, TyX K H v t ∧ PySem.W.kitOne K t (.type "tuple") = some false) ∨
    ∃ a xs, v = .ref a ∧ SqT K H a xs ∧ xs.length < sizeLine ∧ (∀ x ∈ xs, NumV K H x) ∧ b = spelled xs k most
theorem SpV.ext {K : PySem.W.Frag} {H H' : Hp} {v : V} {k most : Int} {b : Bool} (h : SpV K H v k most b) (s : ExtN H H') : SpV K H' v k most b := by
  rcases h with ⟨e, t, h1, h2⟩ | ⟨a, xs, e, h1, h2, h3, h4⟩
  · exact .inl ⟨e, t, ext_tyx s h1, h2⟩
  · exact .inr ⟨a, xs, e, ext_sqt s h1, h2, fun x hx => ext_numV s (h3 x hx), h4⟩
theorem SpV.word {K : PySem.W.Frag} {H : Hp} {v : V} {k most : Int} (h : SpV K H v k most true) : ∃ ws : List Int, IsW K H v ws ∧ (ws.length : Int) ≤ most ∧ ∀ n ∈ ws, 0 ≤ n ∧ n < k := by
  rcases h with ⟨e, _⟩ | ⟨a, xs, rfl, h1, h2, h3, h4⟩
  · cases e
  have h5 : spelled xs k most = true := h4.symm
  unfold spelled at h5
  rw [Bool.and_eq_true, decide_eq_true_eq] at h5
  have key : ∀ l : List V, (l.all fun x => numB x 0 (k - 1)) = true → ∃ ws : List Int, l = ws.map V.int ∧ ∀ n ∈ ws, 0 ≤ n ∧ n < k := by
    intro l
    induction l with
    | nil => exact fun _ => ⟨[], rfl, fun n hn => by cases hn⟩
    | cons x l ih =>
      intro h
      rw [List.all_cons, Bool.and_eq_true] at h
      obtain ⟨ws, rfl, hw⟩ := ih h.2
      cases x with
      | int i =>
        have := h.1
        simp only [numB, Bool.and_eq_true, decide_eq_true_eq] at this
        refine ⟨i :: ws, rfl, fun n hn => ?_⟩
        rcases List.mem_cons.mp hn with e | e
        · rw [e]; omega
        · exact hw n e
      | _ => simp [numB] at h
  obtain ⟨ws, rfl, hw⟩ := key xs h5.2
  exact ⟨ws, ⟨a, rfl, h1⟩, by have := h5.1; rwa [List.length_map] at this, hw⟩
theorem SpV.of {K : PySem.W.Frag} {H : Hp} {v : V} {k most : Int} {ws : List Int} (h : IsW K H v ws) (h1 : (ws.length : Int) ≤ most) (h0 : ws.length ≤ 100000) (h2 : ∀ n ∈ ws, 0 ≤ n ∧ n < k) : SpV K H v k most true := by
  obtain ⟨a, rfl, ha⟩ := h
  refine .inr ⟨a, _, rfl, ha, by rw [List.length_map, sizeLine_eq]; omega, fun x hx => ?_, ?_⟩
  · obtain ⟨n, _, rfl⟩ := List.mem_map.mp hx
    exact .inl ⟨n, rfl⟩
  · unfold spelled
    symm
    rw [Bool.and_eq_true]
    refine ⟨decide_eq_true (by rw [List.length_map]; exact h1), List.all_eq_true.mpr fun x hx => ?_⟩
    obtain ⟨n, hn, rfl⟩ := List.mem_map.mp hx
    have := h2 n hn
    simp only [numB, Bool.and_eq_true, decide_eq_true_eq]
    omega
/-- an error of the class at C that keeps v in f -/
def rKept (C : Addr) (f : Str) (v : V) (E : XK) (H : Hp) : Prop := ∀ d H', Same H H' → H' d = some (.xd [(f, v)]) → E (.ref C) (some d) H'
/-- an error of the class at C -/
def rPlain (C : Addr) (E : XK) (H : Hp) : Prop := ∀ H', Same H H' → E (.ref C) none H'
theorem rKept.same {C : Addr} {f : Str} {v : V} {E : XK} {H H' : Hp} (h : rKept C f v E H) (s : Same H H') : rKept C f v E H' := fun d H2 s2 e => h d H2 (Same.trans s s2) e
theorem rPlain.same {C : Addr} {E : XK} {H H' : Hp} (h : rPlain C E H) (s : Same H H') : rPlain C E H' := fun H2 s2 => h H2 (Same.trans s s2)
theorem rKept.mk {C : Addr} {f : Str} {v : V} {E : XK} {H : Hp} (h : rKept C f v E H) : ∀ d, H d = none → E (.ref C) (some d) (upd H d (.xd [(f, v)])) := fun d hd => h d _ (same_upd hd _) upd_same
/-- errors that end no iterator -/
def ES (K : PySem.W.Frag) (E : XK) : XK := fun cls d H => E cls d H ∧ PySem.W.subIn K cls (.type "StopIteration") = some false
theorem noStopES {K : PySem.W.Frag} {E : XK} : NoStop K (ES K E) := fun _ _ _ h => h.2
theorem passES {X : Cx} {E : XK} (h : Takes X (fun cls d _ H => E cls d H)) : Passes (L2.CX X.prog X.w) X (ES X.K E) := passes_call h fun _ _ _ _ z => z.1
theorem fun_gen {P : Program} {w : World} {K : PySem.W.Frag} {mg : Str → Option Value} {base : Heap} {x qual : Str} {st : Stmt} {f : Addr} {fd : FuncData} {N ps : List Str} {k : Nat} {sp : SpG} (F : Fun K x qual st f fd) (S : GScope N ps (defScope st)) (len : ∀ vs H Q E, sp vs H Q E → vs.length = ps.length)
    (hbody : ∀ (cdv : Value) (A : Around) (outer : List Env) (s : Shared) (H : Hp) (vs : List V) (Q : List V → Hp → Prop) (E : XK) (pn : List (Addr × Obj)), Room k (A.deeper (envOfC qual (defScope st) s.heap.objs.size f cdv)) → sp vs H Q E →
      ∃ t, GSs (gcxOf P w K mg base N qual (defScope st) f cdv A outer s H E pn) (defBody st) t ∧ t { nx := fun ys _ H' => Q ys H', rt := fun ys v H' => v = .non ∧ Q ys H' } [] (start N vs) H) :
    GFn P w K mg base (k + 1) f fd ps sp := by
  obtain ⟨oc, od, kV, doc, pm, an, cdv, ct, osl, rfl, lk, hcd⟩ := F.ex
  exact gfn_of lk hcd S len fun A outer s H vs Q E pn hr hsp => hbody cdv A outer s H vs Q E pn hr hsp
end RL
/-! S36 -/
set_option Elab.async false
set_option linter.all false
set_option maxRecDepth 100000
/-! a list of what calls gave: tuples of texts, one behind another -/
namespace RL
open PySem PySem.Spec PyProof.Rows L2 LamX
def IsSt (K : PySem.W.Frag) (H : Hp) (v : V) (l : List Str) : Prop := ∃ p, v = .ref p ∧ SqT K H p (l.map V.str)
inductive IsSts (K : PySem.W.Frag) (H : Hp) : List V → List (List Str) → Prop
  | nil : IsSts K H [] []
  | cons {v : V} {vs : List V} {l : List Str} {ls : List (List Str)} (h : IsSt K H v l) (t : IsSts K H vs ls) : IsSts K H (v :: vs) (l :: ls)
theorem IsSts.to {K : PySem.W.Frag} {H H' : Hp} (e : ∀ a xs, SqT K H a xs → SqT K H' a xs) : ∀ {vs ls}, IsSts K H vs ls → IsSts K H' vs ls
  | _, _, .nil => .nil
  | _, _, .cons ⟨p, h1, h2⟩ t => .cons ⟨p, h1, e _ _ h2⟩ (t.to e)
theorem IsSts.snoc {K : PySem.W.Frag} {H : Hp} {v : V} {l : List Str} (h : IsSt K H v l) : ∀ {vs ls}, IsSts K H vs ls → IsSts K H (vs ++ [v]) (ls ++ [l])
  | _, _, .nil => .cons h .nil
  | _, _, .cons h1 t => .cons h1 (t.snoc h)
theorem IsSts.length {K : PySem.W.Frag} {H : Hp} : ∀ {vs ls}, IsSts K H vs ls → vs.length = ls.length
  | _, _, .nil => rfl
  | _, _, .cons _ t => congrArg (· + 1) t.length
theorem IsSts.app {K : PySem.W.Frag} {H : Hp} : ∀ {vs ls ws ms}, IsSts K H vs ls → IsSts K H ws ms → IsSts K H (vs ++ ws) (ls ++ ms)
  | _, _, _, _, .nil, h => h
  | _, _, _, _, .cons h1 t, h => .cons h1 (t.app h)
abbrev dSt (l : List Str) : PyData := .tuple (l.map PyData.str)
abbrev dSts (ls : List (List Str)) : PyData := .list (ls.map dSt)
theorem IsSt.dp {K : PySem.W.Frag} {H : Hp} {v : V} {l : List Str} (h : IsSt K H v l) : Dp K H v (dSt l) := by
  obtain ⟨p, rfl, h⟩ := h
  refine .tup h ?_
  clear h
  induction l with
  | nil => exact .nil
  | cons x l ih => exact .cons (.str x) ih
theorem IsSts.dpAll {K : PySem.W.Frag} {H : Hp} : ∀ {vs ls}, IsSts K H vs ls → DpAll K H vs (ls.map dSt)
  | _, _, .nil => .nil
  | _, _, .cons h t => .cons h.dp t.dpAll
theorem IsSts.dp {K : PySem.W.Frag} {H : Hp} {a : Addr} {vs : List V} {ls : List (List Str)} (e : SqL K H a vs) (h : IsSts K H vs ls) : Dp K H (.ref a) (dSts ls) := .lst e h.dpAll
theorem depth_strs : ∀ l : List Str, PyData.depthAll (l.map PyData.str) = 0
  | [] => rfl
  | x :: l => by
    have ih := depth_strs l
    simp [PyData.depthAll, PyData.depth, ih]
theorem depth_sts : ∀ ls : List (List Str), PyData.depthAll (ls.map dSt) ≤ 1
  | [] => by simp [PyData.depthAll]
  | l :: ls => by
    have ih := depth_sts ls
    have h1 : PyData.depth (dSt l) = 1 := by
      show PyData.depthAll (l.map PyData.str) + 1 = 1
      rw [depth_strs]
    rw [List.map_cons, PyData.depthAll, h1]
    exact Nat.max_le.mpr ⟨Nat.le_refl _, ih⟩
theorem lay_strs : ∀ l : List Str, (∀ x ∈ l, (PyData.str x).canLay0 = true) → PyData.canLayAll0 (l.map PyData.str) = true
  | [], _ => by simp [PyData.canLayAll0]
  | x :: l, h => by
    rw [List.map_cons, PyData.canLayAll0, h x List.mem_cons_self, lay_strs l fun y hy => h y (.tail _ hy)]
    rfl
theorem lay_sts : ∀ ls : List (List Str), (∀ l ∈ ls, ∀ x ∈ l, (PyData.str x).canLay0 = true) → PyData.canLayAll0 (ls.map dSt) = true
  | [], _ => by simp [PyData.canLayAll0]
  | l :: ls, h => by
    have h1 : (dSt l).canLay0 = true := by
      show PyData.canLay0 (.tuple _) = true
      rw [PyData.canLay0]
      exact lay_strs l (h l List.mem_cons_self)
    rw [List.map_cons, PyData.canLayAll0, h1, lay_sts ls fun m hm => h m (.tail _ hm)]
    rfl
theorem shaped_sts {ls : List (List Str)} (h : ∀ l ∈ ls, ∀ x ∈ l, (PyData.str x).canLay0 = true) : SeqAt.shaped (dSts ls) = true := by
  unfold SeqAt.shaped
  rw [Bool.and_eq_true]
  refine ⟨?_, decide_eq_true ?_⟩
  · show PyData.canLay0 (.list _) = true
    rw [PyData.canLay0]
    exact lay_sts ls h
  · have := depth_sts ls
    show PyData.depthAll (ls.map dSt) + 1 ≤ 64
    omega
theorem eqv_sts {ls : List (List Str)} (h : ∀ l ∈ ls, ∀ x ∈ l, (PyData.str x).canLay0 = true) : PyData.eqv (dSts ls) (dSts ls) = true := SeqAt.eqv_refl _ (SeqAt.canLay_of_shaped (shaped_sts h))
theorem tabs_upd {T : List (Addr × Str)} {H : Hp} {l : Addr} {xs : List V} {o : HO} (h : Tabs T H) (hl : H l = some (.lst xs)) : Tabs T (upd H l o) := by
  intro p hp
  obtain ⟨ps, h1, h2, h3⟩ := h p hp
  refine ⟨ps, by rw [upd_ne fun z => by rw [z, hl] at h1; cases h1]; exact h1, h2, fun pos cv hc => ?_⟩
  obtain ⟨c, e1, e2⟩ := h3 pos cv hc
  refine ⟨c, e1, ?_⟩
  rw [upd_ne fun z => by rw [z, hl] at e2; unfold CodeO at e2; cases e2]
  exact e2
/-- the list at l holds ls; all else of H0 but tables stands -/
structure Tl (K : PySem.W.Frag) (tabs : List (Addr × Str)) (H0 : Hp) (l : Addr) (H : Hp) (ls : List (List Str)) : Prop where
  ext : ExtN H0 H
  new : ∀ o, H0 l = some o → (∀ ps, o ≠ .tbl ps) → False
  at_ : ∃ vs, H l = some (.lst vs) ∧ IsSts K H vs ls
  tab : Tabs tabs H
theorem op_repK {X : Cx} {K : PySem.W.Frag} (hK : X.K = K) : OpR X (binaryOp .Mult) (rRepS K) := hK ▸ op_repS
theorem op_addK {X : Cx} {K : PySem.W.Frag} {CX : CXT} {C g : Addr} {n : Nat} {fd : FuncData} {ps : List Str} {sp : Sp} {E : XK} (hK : X.K = K) (hc : PySem.W.selfFirst K C = true) (hs : PySem.W.findIn K (.ref C) "__add__" = some (some (.ref g)))
    (hf : PySem.W.isFn K (.ref g) = true) (F : FnOk X.prog X.w K X.mg X.base CX n g fd ps sp) (hr : Room n X.A) (hb : Binds K fd ps []) (hx : Passes CX X E) : OpR X (binaryOp .Add) (rAddO K C sp E) := by
  subst hK
  exact op_addO hc hs hf F hr hb hx
/-- a new tuple of texts -/
def Got (K : PySem.W.Frag) (Q : VK) (H : Hp) (l : List Str) : Prop := ∀ H' p, Same H H' → SqT K H' p (l.map V.str) → Q (.ref p) H'
theorem Got.same {K : PySem.W.Frag} {Q : VK} {H H' : Hp} {l : List Str} (h : Got K Q H l) (s : Same H H') : Got K Q H' l := fun H2 p s2 hp => h H2 p (Same.trans s s2) hp
/-- .. wherever tables have grown -/
def GotN (K : PySem.W.Frag) (tabs : List (Addr × Str)) (Q : VK) (H : Hp) (l : List Str) : Prop := ∀ H1, ExtN H H1 → Tabs tabs H1 → Got K Q H1 l
theorem tl_first {K : PySem.W.Frag} {tabs : List (Addr × Str)} {H0 : Hp} {x : List Str} {D : Addr → Hp → Prop} (q : ∀ l H', Tl K tabs H0 l H' [x] → D l H') :
    GotN K tabs (fun v H' => 1 ≤ sizeLine ∧ ∀ H'' l, Same H' H'' → H' l = none → H'' l = some (.lst [v]) → D l H'') H0 x := by
  intro H1 e1 t1 H2 p s2 hp
  refine ⟨by rw [sizeLine_eq]; omega, fun H3 l s3 hl e3 => q l H3 ⟨(e1.trans (Same.ext s2)).trans (Same.ext s3), fun o ho n => ?_, ⟨_, e3, .cons ⟨p, rfl, Same.sqt s3 hp⟩ .nil⟩, (t1.ext s2).ext s3⟩⟩
  have z := (e1.trans (Same.ext s2)) _ _ ho n
  rw [hl] at z
  cases z
theorem Tl.more {K : PySem.W.Frag} {tabs : List (Addr × Str)} {H0 H : Hp} {l : Addr} {ls : List (List Str)} (h : Tl K tabs H0 l H ls) {x : List Str} {D : Hp → Prop} (hz : ls.length < 1000) (q : ∀ H', Tl K tabs H0 l H' (ls ++ [x]) → D H') :
    GotN K tabs (fun v H' => ∃ l' xs y, V.ref l = .ref l' ∧ [v] = [y] ∧ H' l' = some (.lst xs) ∧ xs.length < sizeLine ∧ D (upd H' l' (.lst (xs ++ [y])))) H x := by
  intro H1 e1 t1 H2 p s2 hp
  obtain ⟨vs, hl, hs⟩ := h.at_
  have e2 := e1.trans (Same.ext s2)
  have hl2 := e2 _ _ hl fun ps z => by cases z
  have hs2 := hs.to fun a xs z => ext_sqt e2 z
  have lv := hs.length
  refine ⟨l, vs, _, rfl, rfl, hl2, by rw [sizeLine_eq]; omega, q _ ⟨fun b o ho n => ?_, h.new, ⟨_, upd_same, ?_⟩, tabs_upd (t1.ext s2) hl2⟩⟩
  · have nb : b ≠ l := fun z => h.new o (z ▸ ho) n
    rw [upd_ne nb]
    exact e2 _ _ (h.ext _ _ ho n) n
  · have st : Stay H2 (upd H2 l (.lst (vs ++ [V.ref p]))) := stay_lst hl2
    exact (hs2.to fun a xs z => Stay.sqt st z).snoc ⟨p, rfl, Stay.sqt st hp⟩
theorem Tl.lst {K : PySem.W.Frag} {tabs : List (Addr × Str)} {H0 H : Hp} {l : Addr} {ls : List (List Str)} (h : Tl K tabs H0 l H ls) : ∃ vs, H l = some (.lst vs) ∧ IsSts K H vs ls := h.at_
theorem rKept.es {K : PySem.W.Frag} {C : Addr} {f : Str} {v : V} {E : XK} {H : Hp} (h : rKept C f v E H) (n : PySem.W.subIn K (.ref C) (.type "StopIteration") = some false) : rKept C f v (ES K E) H := fun d H' s e => ⟨h d H' s e, n⟩
theorem rPlain.es {K : PySem.W.Frag} {C : Addr} {E : XK} {H : Hp} (h : rPlain C E H) (n : PySem.W.subIn K (.ref C) (.type "StopIteration") = some false) : rPlain C (ES K E) H := fun H' s => ⟨h H' s, n⟩
end RL
/-! S37 -/
set_option Elab.async false
set_option linter.all false
set_option maxRecDepth 100000
set_option maxHeartbeats 2000000
/-! an own exception class over KeyError, which has no __new__ of its own -/
namespace RL
open PySem PySem.F
abbrev mroKey : List Value := [.type "KeyError", .type "LookupError", .type "Exception", .type "BaseException", .type "object"]
theorem store_KeyError : StoreFacts "KeyError" mroKey "object.__setattr__" "object" :=
  { mro := by kernel_rfl, slot := .of (owner := "object") (n := "__setattr__") (by rw [typeLookup_type, builtinLookup_eq_fast]; kernel_rfl) (by decide +kernel) (by decide +kernel) (by decide +kernel) (by first | exact .inl (by decide +kernel) | exact .inr (by decide +kernel)) (by rw [isSubtype_type]; kernel_rfl),
    entry := entry_object_sa, kind := by decide +kernel, split := by decide +kernel, hasOwner := by decide +kernel, args := fun a b c => by unfold argsOk; kernel_rfl, passes := fun self => by kernel_rfl }
/-- the three answers of the class's mro that its making asks -/
structure Mro3 (bm : List Value) (B : String) : Prop where
  b : bm.contains (.type B) = true
  a : bm.contains (.type "AttributeError") = false
  n : bm.contains (.type "NameError") = false
end RL
namespace PySem
namespace HandSPX
open Builtin Builtin.ObjectAttr
section
variable {M : Model} {A : Around} {E : Value → Shared → Prop} {h : Heap} {g : Array GenState} {d : Drawn} {t : Nat} {os : OsState}
variable {nm q : Str} {C N : Addr} {bs bm bmB : List Value} {hdct : Bool} {sn : List Str} {sub : List Value} {ab : Bool} {col : Option Bool} {dd : Option Addr} {k0 k1 k2 k3 k5 : Option Value} {B newId initId : String}
theorem check_new3 (F : ExcBaseFacts B newId initId bmB) (m3 : RL.Mro3 bm B) {rest : List Value} {Q : Unit → Shared → Prop} (hC : h.get? C = some (excClassObj nm q C N bs bm hdct sn sub ab col dd k0 k1 k2 k3 k5 newId)) (hq : Q () ⟨h, g, d, t, os⟩) : wpAny M A (checkBuiltinCall newId ⟨.ref C :: rest, []⟩) Q E ⟨h, g, d, t, os⟩ := by
  have c1 : (Value.ref C :: bm).contains (.type B) = true := by rw [List.contains_cons, m3.b, Bool.or_true]
  have c2 := F.noStar
  simp only [checkBuiltinCall, F.newKind, F.newSplit, F.newRow]
  repeat (first | refine wpAny_loadPart_at hC ?_ | (refine wpAny_isSubtype_exc hC ?_; rw [c1]) | refine wpAny_staticBase_exc hC ?_ | refine wpAny_madeBy_exc hC ?_ | simp only [bne_self_eq_false, Bool.false_eq_true, if_false] | wp_step)
  exact hq
end
section
variable {prog : Program} {w : World} {A : Around} {E : Value → Shared → Prop} {R : Result → Shared → Prop} {h : Heap} {g : Array GenState} {d : Drawn} {t : Nat} {os : OsState}
variable {nm q : Str} {C N : Addr} {bs bm bmB : List Value} {hdct : Bool} {sn : List Str} {sub : List Value} {ab : Bool} {col : Option Bool} {dd : Option Addr} {k0 k1 k2 k3 k5 : Option Value} {B newId initId : String}
theorem new3 (F : ExcBaseFacts B newId initId bmB) (m3 : RL.Mro3 bm B) {rest : List Value} (hC : h.get? C = some (excClassObj nm q C N bs bm hdct sn sub ab col dd k0 k1 k2 k3 k5 newId)) (hz : rest.length ≤ sizeLine)
    (hq : R (.ok (.ret (.ref (h.objs.size + 1)))) ⟨(h.push { cls := .type "tuple", data := .seq rest.toArray }).push { cls := .ref C, data := .fields #[.ref h.objs.size, .none, .none, .none, .bool false, .none] }, g, d, t, os⟩) : codeAny (model prog w) A (.builtin newId ⟨.ref C :: rest, []⟩) R ⟨h, g, d, t, os⟩ := by
  have c0 := F.ends; have hrest := hz
  have c1 : (Value.ref C :: bm).contains (.type B) = true := by rw [List.contains_cons, m3.b, Bool.or_true]
  have c2 : (Value.ref C :: bm).contains (.type "AttributeError") = false := by rw [List.contains_cons, m3.a]; rfl
  have c3 : (Value.ref C :: bm).contains (.type "NameError") = false := by rw [List.contains_cons, m3.n]; rfl
  refine codeAny_builtinAt F.entry ?_; unfold Builtin.«BaseException.__new__»; refine wpAt_bind ?_
  show wpAt _ _ _ (stack >>= _) _ _ _
  refine wpAt_bind (wpAt_stack fun p below => wpAt_of_wpAny ?_); wp_walk; refine wpAt_of_wpAny ?_; rw [F.owner]
  repeat (first | with_reducible refine wpAny_madeHere_exc F.canon hC ?_ | with_reducible refine wpAny_loadPart_at hC ?_ | (with_reducible refine wpAny_isSubtype_exc hC ?_; first | rw [c1] | rw [c2] | rw [c3]) | wp_step)
  show R _ _
  rw [Heap.size_push]; exact hq
theorem type_call3 (F : ExcBaseFacts B newId initId bmB) (m3 : RL.Mro3 bm B) {rest : List Value} {fI : Addr} {Q : Fin → Shared → Prop} (hC : h.get? C = some (excClassObj nm q C N bs bm hdct sn sub ab col dd k0 k1 k2 k3 k5 newId))
    (hi : W.Looks (model prog w) h (typeLookup (.ref C) "__init__") (some (.ref fI))) (hb : ∀ x, W.Looks (model prog w) h (bindSpecial (.ref fI) x) (.ref fI, [x])) (hz : rest.length ≤ sizeLine)
    (hq : codeAny (model prog w) A (.call (.ref fI) ⟨.ref (h.objs.size + 1) :: rest, []⟩) (fun r s' => match r with | .ok (.ret v) => v = .none ∧ Q (.done (.ret (.ref (h.objs.size + 1)))) s' | .ok _ => False | .error e => E e s') ⟨(h.push (W.kdv_tup rest)).push (excO C h.objs.size), g, d, t, os⟩) :
    wpAny (model prog w) A (Builtin.«type.__call__» ⟨.ref C :: rest, []⟩) Q E ⟨h, g, d, t, os⟩ := by
  repeat (first | with_reducible refine wpAny_loadPart_at hC ?_ | with_reducible refine wpAny_madeBy_exc hC ?_ | wp_step)
  refine codeAny_call_builtin_code (Code.quiet_builtin _ F.quiet) (check_new3 F m3 hC (new3 F m3 hC hz ?_))
  show wpAny _ _ _ _ _ _
  have k : ∀ b o, h.get? b = some o → ((h.push (W.kdv_tup rest)).push (excO C h.objs.size)).get? b = some o := fun b o e => Heap.get?_push_of_some _ (Heap.get?_push_of_some _ e)
  have hC1 := k _ _ hC; have i1 := hi.keeps k; have b1 := (hb (.ref (h.objs.size + 1))).keeps k
  have hg : ((h.push (W.kdv_tup rest)).push (excO C h.objs.size)).get? (h.objs.size + 1) = some (excO C h.objs.size) := by heap_get
  have c9 : (Value.ref C :: bm).contains (.ref C) = true := by simp
  unfold isInstance
  repeat (first | with_reducible refine wpAny_loadPart_at hg ?_ | (with_reducible refine wpAny_isSubtype_exc hC1 ?_; rw [c9]) | wp_step)
  show wpAny _ _ (typeLookup (.ref C) _) _ _ _
  refine i1.at (wpAny_holding (wpAny_bind (b1.at (wpAny_bind (wpAny_call (codeAny_mono hq fun r s' z => ?_))))))
  rcases r with e | (v | _ | _ | _) <;> first | exact z | exact z.elim | skip
  obtain ⟨rfl, z⟩ := z
  first | exact wpAny_pure (wpAny_pure z) | (wp_walk; exact z)
theorem call3 (F : ExcBaseFacts B newId initId bmB) (m3 : RL.Mro3 bm B) {rest : List Value} {fI : Addr} (hC : h.get? C = some (excClassObj nm q C N bs bm hdct sn sub ab col dd k0 k1 k2 k3 k5 newId))
    (hi : W.Looks (model prog w) h (typeLookup (.ref C) "__init__") (some (.ref fI))) (hb : ∀ x, W.Looks (model prog w) h (bindSpecial (.ref fI) x) (.ref fI, [x])) (hz : rest.length ≤ sizeLine)
    (hq : codeAny (model prog w) (A.under (.builtin "type.__call__" ⟨.ref C :: rest, []⟩)) (.call (.ref fI) ⟨.ref (h.objs.size + 1) :: rest, []⟩) (W.InitBack (h.objs.size + 1) R) ⟨(h.push (W.kdv_tup rest)).push (excO C h.objs.size), g, d, t, os⟩) : codeAny (model prog w) A (.call (.ref C) ⟨rest, []⟩) R ⟨h, g, d, t, os⟩ := by
  have f1 := tc_lookup; have f2 := tc_bind (.ref C)
  have hTy : (⟨h, g, d, t, os⟩ : Shared).TypeIs (.ref C) "type" := ⟨_, hC, rfl⟩
  refine codeAny_of_tree ?_
  show wpAny _ _ (callAny (.ref C) _) _ _ _
  repeat (any_goals (first | assumption | with_reducible refine wpAny_loadPart_at hC ?_ | wp_step))
  refine ⟨rfl, codeAny_call_builtin_at (Code.quiet_builtin _ (by decide +kernel)) entry_typeCall (wpAny_check_type_call_sub hC (type_call3 F m3 hC hi hb hz (codeAny_mono hq fun r s' z => ?_)))⟩
  rcases r with e | (v | _ | _ | _) <;> exact z
end
end HandSPX
namespace OwX
open PySem.W PySem.Calls PyProof.Rows PySem.HandSPX Builtin Builtin.ObjectAttr
section
variable {prog : Program} {w : World} {A : Around} {E : Value → Shared → Prop} {R : Result → Shared → Prop} {s : Shared} {K : Frag} {mg : Str → Option Value} {cn f : Str} {B B2 newId initId : String} {bmB bm2 : List Value} {C fI : Addr}
theorem keep_made3 (T : KeepT K mg cn f B newId bmB C fI) (SF : StoreFacts B bmB "object.__setattr__" "object") (FB : ExcBaseFacts B2 newId initId bm2) (m3 : RL.Mro3 bmB B2) {v : Value} (X : K.In s.heap) (hlim : s.heap.NoLimit) (hroom : A.depth + 1 < recursionLimit)
    (hq : ∀ h' tk e d, KeepMade s.heap h' e C d f v → R (.ok (.ret (.ref e))) { s with heap := h', toks := tk }) :
    codeAny (model prog w) A (.call (.ref C) ⟨[v], []⟩) R s := by
  obtain ⟨nm, N, qn, bs, bm, hdct, sn, sub, ab, col, dd, k0, k1, k2, k3, k5, hC, hT⟩ := excInit_of X T.ini
  obtain ⟨hp, g, dr, tk, os⟩ := s
  have k : ∀ b o, hp.get? b = some o → ((hp.push (kdv_tup [v])).push (excO C hp.objs.size)).get? b = some o := fun b o e => Heap.get?_push_of_some _ (Heap.get?_push_of_some _ e)
  have hget : ((hp.push (kdv_tup [v])).push (excO C hp.objs.size)).get? (hp.objs.size + 1) = some (excO C hp.objs.size) := by heap_get
  refine call3 FB ⟨(hT _).trans m3.b, (hT _).trans m3.a, (hT _).trans m3.n⟩ hC (looks_findIn X T.iC) (fun self => bind_fn X self T.tC) (size1 v) ?_
  refine keep_init (s := ⟨(hp.push (kdv_tup [v])).push (excO C hp.objs.size), g, dr, tk, os⟩) T SF (X.keeps k) (hlim.keeps k) hget ?_ fun h' tk' dx ⟨k', hx, dn, dne, hns⟩ => ?_
  · show A.depth + 1 < recursionLimit
    exact hroom
  · have old : ∀ b o, hp.get? b = some o → h'.get? b = some o := fun b o e => k' b o (Nat.ne_of_lt (Nat.lt_succ_of_lt (Heap.lt_size e))) (k b o e)
    have z : hp.objs.size + 1 + 1 ≤ dx := by
      have q := dn
      rw [Heap.size_push, Heap.size_push] at q
      exact q
    exact ⟨rfl, hq h' tk' (hp.objs.size + 1) dx ⟨old, Nat.le_succ _, ⟨_, _, hx, rfl, rfl, rfl, rfl⟩, Nat.le_trans (Nat.le_trans (Nat.le_succ _) (Nat.le_succ _)) z, dne, hns⟩⟩
end
end OwX
end PySem
namespace RL
open PySem PySem.F
theorem m3_ParseError : Mro3 [.type "ValueError", .type "Exception", .type "BaseException", .type "object"] "ValueError" := ⟨by decide +kernel, by decide +kernel, by decide +kernel⟩
theorem m3_IndexError : Mro3 [.type "IndexError", .type "LookupError", .type "Exception", .type "BaseException", .type "object"] "IndexError" := ⟨by decide +kernel, by decide +kernel, by decide +kernel⟩
theorem m3_KeyError : Mro3 mroKey "LookupError" := ⟨by decide +kernel, by decide +kernel, by decide +kernel⟩
theorem m3_OverflowError : Mro3 [.type "OverflowError", .type "ArithmeticError", .type "Exception", .type "BaseException", .type "object"] "OverflowError" := ⟨by decide +kernel, by decide +kernel, by decide +kernel⟩
theorem m3_ArithmeticError : Mro3 [.type "ArithmeticError", .type "Exception", .type "BaseException", .type "object"] "ArithmeticError" := ⟨by decide +kernel, by decide +kernel, by decide +kernel⟩
theorem m3_LookupError : Mro3 [.type "LookupError", .type "Exception", .type "BaseException", .type "object"] "LookupError" := ⟨by decide +kernel, by decide +kernel, by decide +kernel⟩
end RL
/-! S38 -/
set_option Elab.async false
set_option linter.all false
set_option maxRecDepth 100000
set_option maxHeartbeats 4000000
/-! own exceptions as values, with a dict or without: made, read, asked of what kind they are -/
namespace PySem.W
open PySem PySem.Spec PySem.Calls PyProof.Rows
section
variable {prog : Program} {w : World} {A : Around} {E : Value → Shared → Prop} {s : Shared} {K : Frag} {x D : Addr}
theorem findObj_class {C : Addr} {od : Option Obj} {n : Str} {a g : Value} (hc : (clsIn K C).isSome = true) (ha : findIn K (.ref C) n = some (some a)) (hg : specialIn K a "__get__" = some (some g)) (ht : takesIn K a = some true) : findObj K C od n = some (.bind g a) := by
  obtain ⟨cd, hc⟩ := Option.isSome_iff_exists.mp hc
  unfold findObj; rw [hc, Option.bind_some, ha, Option.bind_some]; simp [hg, ht]
theorem class_any {ox : Obj} {od : Option Obj} {Q : Option Value → Shared → Prop} (C : L2.ExcC K D) (X : K.In s.heap) (I : InstAt s.heap x ox D od) (h : Q (some (.ref D)) { s with toks := s.toks + 1 }) : wpAny (model prog w) A (getAttr? (.ref x) "__class__") Q E s := by
  have hf : findObj K D od "__class__" = some (.bind (.builtin "getset_descriptor.__get__") (.builtin "object.__class__")) := findObj_class (by obtain ⟨cd, hc, _⟩ := any_some C.hd; rw [hc]; rfl) C.ha C.hn C.ht
  obtain ⟨hp, g, d, t, os⟩ := s
  have l0 := I.type (M := model prog w); have l1 := looks_findIn (M := model prog w) X C.hg; have l2 := looks_findIn (M := model prog w) X C.hk; have l3 := looks_find (M := model prog w) X I hf
  have l4 : Looks (model prog w) hp (isInstance (.ref x) (.type "BaseException")) true := l0.andThen (looks_subIn X C.hs)
  have n0 : (false && onTheHeap (Value.builtin "BaseException.__getattribute__")) = false := rfl
  have n1 : (onTheHeap (Value.ref D) && Value.builtin "BaseException.__getattribute__" == Value.builtin "object.__getattribute__") = false := by rw [show (Value.builtin "BaseException.__getattribute__" == Value.builtin "object.__getattribute__") = false from by decide +kernel]; rfl
  unfold getAttr? getAttrBy? getAttrBy
  refine wpAny_bind (wpAny_mkText (wpAny_bind (wpAny_attempt (wpAny_holding (wpAny_bind (l0.at (wpAny_bind (l1.at ?_))))))))
  show wpAny _ _ (if (onTheHeap (Value.ref D) && Value.builtin "BaseException.__getattribute__" == Value.builtin "object.__getattribute__") = true then _ else _) _ _ _
  rw [n1, if_neg Bool.false_ne_true]; unfold getAttrByItsOwn hookBefore; refine wpAny_bind ?_
  rw [if_pos (show onTheHeap (Value.ref D) = true from rfl)]
  refine l2.at (wpAny_bind (wpAny_attempt (wpAny_holding ?_)))
  unfold callGetattribute; rw [n0, if_neg Bool.false_ne_true]; unfold boundAndCalled; rw [PySem.F.excAttr_ValueError.ga.bind (.ref x)]
  refine wpAny_bind (wpAny_pure ?_)
  show wpAny _ _ (call (.builtin "BaseException.__getattribute__") [.ref x, .str "__class__" t]) _ _ _
  refine wpAny_call (codeAny_call_builtin PySem.F.excAttr_ValueError.ga.plain PySem.F.entry_bexc_ga ?_)
  refine @check_slot (model prog w) _ _ ⟨hp, g, d, t + 1, os⟩ "BaseException.__getattribute__" "BaseException" "__getattribute__" (.ref x) [.str "__class__" t] [] _ (by decide +kernel) (by decide +kernel) l4 (PySem.F.args_bexc_ga (.ref x) (.str "__class__" t)) ?_
  unfold Builtin.«object.__getattribute__»
  refine wpAny_bind (wpAny_of_eq (a := ((Value.ref x : Value), [Value.str "__class__" t])) (by first | rfl | (simp only [slotArgs]; rfl)) (wpAny_bind (wpAny_pure (wpAny_bind (l0.at (wpAny_bind (l3.at ?_)))))))
  show wpAny _ _ (holding [Value.builtin "object.__class__"] (call (.builtin "getset_descriptor.__get__") [.builtin "object.__class__", .ref x, .ref D]) >>= ret) _ _ _
  refine wpAny_bind (wpAny_holding (wpAny_call (class_get (s := ⟨hp, g, d, t + 1, os⟩) (ox := ox) (od := od) X I C.hm (wpAny_pure ?_))))
  show wpAny _ _ (handedOut (.ref D)) _ _ _
  rw [handedOut_of (v := .ref D) rfl]
  first | exact wpAny_pure (wpAny_pure h) | exact wpAny_pure h | exact wpAny_pure (wpAny_bind (wpAny_pure (wpAny_pure h)))
theorem kitx_any (C : L2.ExcC K D) : KitX K (.ref x) (.ref D) (fun h => ∃ ox od, InstAt h x ox D od) where
  ty := fun _ _ _ ⟨_, _, I⟩ => I.type
  it := fun _ _ X _ => by
    obtain ⟨cd, hc, _⟩ := any_some C.hd
    unfold clsIn at hc; split at hc
    · rename_i c1 c2 c3 c4 ho; intro A' Q' E' s' k q; unfold isType loadHead; exact wpAny_bind (wpAny_loadPart (k _ _ (X _ _ ho)) (wpAny_pure q))
    · cases hc
  ne := fun h tp dd its n sl X htp => (handS_kitx_exc (x := x) (ox := { cls := .none, data := .fields #[] }) C.hg C.hk C.hs C.hd C.ha C.hn C.ht C.hm).ne h tp dd its n sl X htp
  ca := fun X ⟨_, _, I⟩ k => class_any C X I k
end
end PySem.W

namespace RL
open PySem PySem.Spec PyProof.Rows L2
/-- an exception of the class at C stands at a, its dict at d -/
structure IsEx (H : Hp) (a C : Addr) (d : Option Addr) : Prop where
  at_ : ∃ φ, H a = some (.ext φ) ∧ ∀ h : Heap, φ h → ∃ oe vs, h.get? a = some oe ∧ oe.cls = .ref C ∧ oe.dict = d ∧ oe.data = .fields vs
  dict : ∀ dd, d = some dd → ∃ fs, H dd = some (.xd fs)
theorem IsEx.same {H H' : Hp} {a C : Addr} {d : Option Addr} (h : IsEx H a C d) (s : Same H H') : IsEx H' a C d :=
  ⟨let ⟨φ, e, q⟩ := h.at_; ⟨φ, s _ _ e, q⟩, fun dd e => let ⟨fs, q⟩ := h.dict dd e; ⟨fs, s _ _ q⟩⟩
def exF (a C : Addr) (d : Option Addr) : Heap → Prop := fun h => ∃ oe vs, h.get? a = some oe ∧ oe.cls = .ref C ∧ oe.dict = d ∧ oe.data = .fields vs
theorem IsEx.inst {X : Cx} {pins : List (Addr × Obj)} {σ : L2.St} {H : Hp} {s : Shared} {a C : Addr} {d : Option Addr} (h : IsEx H a C d) (I : Inv X pins σ H s) : ∃ ox od, PySem.W.InstAt s.heap a ox C od ∧ ∀ dd, d = some dd → ∃ o, od = some o ∧ s.heap.get? dd = some o := by
  obtain ⟨φ, e, q⟩ := h.at_
  obtain ⟨p, _, _⟩ := I.hok a _ e
  obtain ⟨oe, vs, h1, h2, h3, h4⟩ := q _ p
  cases d with
  | none => exact ⟨oe, none, ⟨h1, h2, by unfold PySem.W.notCls; rw [h4] <;> rfl, by rw [h3]; trivial⟩, fun dd z => by cases z⟩
  | some dd =>
    obtain ⟨fs, hd⟩ := h.dict dd rfl
    have hx : ObjOk X.prog X.w H s.heap dd (.xd fs) := I.hok dd _ hd
    obtain ⟨mA, hns, _⟩ := hx
    obtain ⟨od, ho, _⟩ := lookIn_ns hns
    exact ⟨oe, some od, ⟨h1, h2, by unfold PySem.W.notCls; rw [h4] <;> rfl, by rw [h3]; exact ho⟩, fun d2 z => by cases z; exact ⟨od, rfl, ho⟩⟩
/-- isinstance(e, c), e an exception of an own class -/
def rIsV (K : PySem.W.Frag) : List V → Hp → VK → Prop := fun xs H Q => ∃ (a C : Addr) (d : Option Addr) (c : V) (cv : Value) (b : Bool), xs = [.ref a, c] ∧ IsEx H a C d ∧ ExcC K C ∧ (∀ u, RelV c u → u = cv) ∧ PySem.W.kitOne K (.ref C) cv = some b ∧ Q (.bl b) H
theorem call_isV {X : Cx} : CallR X (.builtin "isinstance") (rIsV X.K) := by
  intro pins s σ H xs us Q I r h
  obtain ⟨a, C, d, c, cv, b, rfl, hx, cc, hcv, e, q⟩ := h
  obtain ⟨ux, ut, rfl, rx, rt⟩ := r.two
  obtain rfl : ux = Value.ref a := rx
  obtain rfl := hcv _ rt
  obtain ⟨ox, od, J, _⟩ := hx.inst I
  exact PySem.W.kia_one (PySem.W.kitx_any cc) I.kIn ⟨ox, od, J⟩ e (fun z => nomatch z) fun tk => ⟨.bl b, H, I.kept (t' := tk) fun _ _ z => z, rfl, q⟩
theorem isEx_new {H : Hp} {a C : Addr} : IsEx (upd H a (ExO (.ref C) a)) a C none :=
  ⟨⟨_, upd_same, fun h ⟨oe, vs, h1, h2, h3, _⟩ => ⟨oe, vs, h1, h2.1, h2.2, h3⟩⟩, fun dd z => by cases z⟩
section
variable {X : Cx}
/-- e.f, e an exception whose dict has f -/
def tExf (C : Addr) (f : Str) (te : TE) : TE := fun σ H Q => te σ H fun x H1 => ∃ (a dd : Addr) (fs : List (Str × V)) (v : V), x = .ref a ∧ IsEx H1 a C (some dd) ∧ H1 dd = some (.xd fs) ∧ fs.lookup f = some v ∧ Q v H1
theorem pe_exf {C : Addr} {e : Expr} {te : TE} {pos : Pos} {n : Str} (T : XfC X.K C) (hno : PySem.W.findIn X.K (.ref C) n = some none) (he : PE X e te) (hb : attributeBase e n X.env (eval e X.env) = eval e X.env := by rfl) : PE X (.Attribute e n pos) (tExf C n te) := by
  refine ⟨fun pins s σ H Q I h => ?_⟩
  refine attr_of hb (thn (he.run pins s σ H _ I h) fun u s1 hh => ?_)
  obtain ⟨x, H1, I1, rx, a, dd, fs, v, rfl, hx, ea, l, q⟩ := hh
  obtain rfl : u = Value.ref a := rx
  obtain ⟨ox, od, J, jd⟩ := hx.inst I1
  obtain ⟨o, rfl, ho⟩ := jd dd rfl
  have hh : ObjOk X.prog X.w H1 s1.heap dd (.xd fs) := I1.hok dd _ ea
  obtain ⟨mA, hns, hr⟩ := hh
  obtain ⟨od2, ho2, hl⟩ := lookIn_ns hns
  rw [ho] at ho2
  cases ho2
  obtain ⟨u, hu, ru⟩ := RelO.some_of (v := v) (o := mA n) (by rw [← l]; exact hr n)
  exact HandSPX.exc_get I1.kIn J T.ga T.gg T.exC (PySem.W.findObj_own T.hdC hno rfl (by rw [hl, hu])) (handed_of ru) ⟨v, H1, I1.tok _, ru, q⟩
/-- cn(a), the class's __init__ keeps a in f -/
theorem pe_kept {cn f : Str} {B B2 newId initId : String} {bmB bm2 : List Value} {C fI : Addr} {a : Expr} {ta : TA} {p pos : Pos} {k : Nat} (T : PySem.OwX.KeepT X.K X.mg cn f B newId bmB C fI) (SF : StoreFacts B bmB "object.__setattr__" "object") (FB : ExcBaseFacts B2 newId initId bm2) (m3 : Mro3 bmB B2) (hr : Room k X.A) (ha : PA X [a] ta) (hg : Gl X cn)
    (hdb : (cn == ("__debug__" : Str)) = false := by decide) (he : starEach (a :: []) X.env = (false, eval a X.env) :: starEach [] X.env := by rfl) (hpl : (backTo pos (starEach [] X.env)).any (·.1) = false := by rfl) :
    PE X (.Call (.Name cn p) [a] [] pos) (fun σ H Q => ta σ H fun vs H1 => ∃ v, vs = [v] ∧ ∀ e d H', Same H1 H' → IsEx H' e C (some d) → H' d = some (.xd [(f, v)]) → Q (.ref e) H') := by
  refine ⟨fun pins s σ H Q I h => ?_⟩
  refine wpAny_Call_Name_kw (ld_glob I hg T.gC ?_ hdb)
  refine PySem.W.callWith_K (h₀ := X.base) I.ok.mod.kin T.kC (thn (ha.run pos pins s σ H _ I h) fun us s1 hh => ?_) he hpl
  obtain ⟨vs, H1, I1, r1, v, rfl, q1⟩ := hh
  refine ⟨I1.kIn, ?_⟩
  obtain ⟨v', rfl, rv⟩ := vals1 r1
  show wpAny _ _ (call (.ref C) [v']) _ _ _
  have hlim := I1.nolimit
  obtain ⟨hp, g, dr, tk, os⟩ := s1
  refine wpAny_call (PySem.OwX.keep_made3 T SF FB m3 I1.kIn hlim (by have := hr.dp; omega) fun h' tk' e d M => ?_)
  obtain ⟨oe, fv, hoe, hc, hd, hdat, h1⟩ := M.obj
  have hns := M.ns
  obtain ⟨G', g1, g2⟩ := restrict h' fun b => decide (b ≠ e)
  have gk : ∀ b, b ≠ e → G'.get? b = h'.get? b := fun b hb => g1 b (decide_eq_true hb)
  have ge : G'.get? e = none := g2 e (by simp)
  have old : ∀ b o, hp.get? b = some o → G'.get? b = some o := fun b o q => (gk b (Nat.ne_of_lt (Nat.lt_of_lt_of_le (Heap.lt_size q) M.new))).trans (M.keep b o q)
  have ob : ObjOk X.prog X.w (upd H1 d (.xd [(f, v)])) G' d (.xd [(f, v)]) := ⟨_, hns.at (fun o q => (gk d M.dne).trans q), fun y => relO_kept rv y⟩
  have J : Inv X pins σ (upd H1 d (.xd [(f, v)])) ⟨G', g, dr, tk', os⟩ := I1.laid (t' := tk') old M.dbig ob
  have nd : H1 d = none := I1.hok.fresh M.dbig
  have ne : (upd H1 d (.xd [(f, v)])) e = none := by
    rw [upd_ne (Ne.symm M.dne)]
    exact I1.hok.fresh M.new
  have gs : ∀ b u, G'.get? b = some u → h'.get? b = some u := fun b u q => by
    by_cases hb : b = e
    · rw [hb, ge] at q; cases q
    · exact (gk b hb).symm.trans q
  have ox : ObjOk X.prog X.w (upd (upd H1 d (.xd [(f, v)])) e (.ext (exF e C (some d)))) h' e (.ext (exF e C (some d))) := ⟨⟨oe, fv, hoe, hc, hd, hdat⟩, ⟨oe, hoe⟩, fun _ _ ⟨o, z, q, r⟩ k => ⟨o, z, k o q, r⟩⟩
  have J2 : Inv X pins σ (upd (upd H1 d (.xd [(f, v)])) e (.ext (exF e C (some d)))) ⟨h', g, dr, tk', os⟩ := J.laidN (t' := tk') gs ge ne ox
  have hdd : (upd (upd H1 d (.xd [(f, v)])) e (.ext (exF e C (some d)))) d = some (.xd [(f, v)]) := by rw [upd_ne M.dne, upd_same]
  exact ⟨.ref e, _, J2, rfl, q1 e d _ (Same.trans (same_upd nd _) (same_upd ne _)) ⟨⟨_, upd_same, fun _ z => z⟩, fun dd z => by cases z; exact ⟨_, hdd⟩⟩ hdd⟩
end
end RL
/-! S39 -/
set_option Elab.async false
set_option linter.all false
set_option maxRecDepth 100000
/-! two rules for one operator; what kinds an exception is of; K-forms -/
namespace RL
open PySem PySem.Spec PyProof.Rows L2
theorem op_orR {X : Cx} {f : Value → Value → Sem Value} {r1 r2 : R2} (h1 : OpR X f r1) (h2 : OpR X f r2) : OpR X f (fun x y H Q => r1 x y H Q ∨ r2 x y H Q) := by
  intro pins s σ H x y v u Q I rx ry h
  rcases h with h | h
  · exact h1 pins s σ H x y v u Q I rx ry h
  · exact h2 pins s σ H x y v u Q I rx ry h
theorem call_isVK {X : Cx} {K : PySem.W.Frag} (hK : X.K = K) : CallR X (.builtin "isinstance") (rIsV K) := hK ▸ call_isV
theorem op_inK {X : Cx} {K : PySem.W.Frag} (hK : X.K = K) : OpR X (compareOp .In) (rIn K false) := hK ▸ op_in_seq
/-- of which of the classes those at C are -/
def Fl (K : PySem.W.Frag) (C : Addr) : List (Addr × Bool) → Prop
  | [] => True
  | (p, b) :: r => PySem.W.kitOne K (.ref C) (.ref p) = some b ∧ Fl K C r
/-- a value that is equal to itself: data, or a dict of flat ones -/
def OddV (K : PySem.W.Frag) (H : Hp) (v : V) : Prop := (∃ d, Dp K H v d ∧ SeqAt.shaped d = true) ∨ ∃ a ks, v = .ref a ∧ H a = some (.dK ks) ∧ ∀ p ∈ ks, valV ks p.1 = some p.2 ∧ flatB p.2 = true
theorem OddV.ext {K : PySem.W.Frag} {H H' : Hp} {v : V} (h : OddV K H v) (s : LamX.ExtN H H') : OddV K H' v := by
  rcases h with ⟨d, h1, h2⟩ | ⟨a, ks, e, h1, h2⟩
  · exact .inl ⟨d, ext_dp s h1, h2⟩
  · exact .inr ⟨a, ks, e, s _ _ h1 (fun ps z => by cases z), h2⟩
theorem OddV.ne {K : PySem.W.Frag} {H : Hp} {v : V} {Q : VK} (h : OddV K H v) (q : Q (.bl false) H) : rNeD K v v H Q ∨ rNeDA v v H Q := by
  rcases h with ⟨d, h1, h2⟩ | ⟨a, ks, e, h1, h2⟩
  · refine .inl ⟨d, d, h1, h1, h2, h2, ?_⟩
    rw [SeqAt.eqv_refl _ (SeqAt.canLay_of_shaped h2)]
    exact q
  · exact .inr ⟨a, a, ks, ks, e, e, h1, h1, rfl, h2, q⟩
end RL
/-! O1 -/
set_option linter.all false
set_option maxRecDepth 100000
namespace RL
open PySem L2
theorem lexLt_eq : ∀ a b : List Int, HT.lexLt a b = decide (a < b)
  | [], [] => by simp [HT.lexLt]
  | [], _ :: _ => by simp [HT.lexLt]
  | _ :: _, [] => by simp [HT.lexLt]
  | x :: xs, y :: ys => by
    have ih := lexLt_eq xs ys
    simp only [HT.lexLt, List.cons_lt_cons_iff]
    by_cases e : x = y
    · subst e
      simp [ih]
    · simp [e]
theorem lt_tri (a b : List Int) : a < b ∨ a = b ∨ b < a := by
  by_cases h1 : a < b
  · exact .inl h1
  · by_cases h2 : b < a
    · exact .inr (.inr h2)
    · exact .inr (.inl (List.le_antisymm (List.not_lt.mp h2) (List.not_lt.mp h1)))
theorem lt_tr {a b c : List Int} (h : a < b) (k : b < c) : a < c := List.lt_trans h k
theorem lt_ir (a : List Int) : ¬ a < a := List.lt_irrefl a
/-- two strictly rising lists with the same members are one -/
theorem rise_uniq {α : Type} (lt : α → α → Prop) (ir : ∀ a, ¬ lt a a) (tr : ∀ a b c, lt a b → lt b c → lt a c) : ∀ {l m : List α}, l.Pairwise lt → m.Pairwise lt → (∀ x, x ∈ l ↔ x ∈ m) → l = m
  | [], [], _, _, _ => rfl
  | [], y :: m, _, _, h => absurd ((h y).mpr List.mem_cons_self) (by simp)
  | x :: l, [], _, _, h => absurd ((h x).mp List.mem_cons_self) (by simp)
  | x :: l, y :: m, hl, hm, h => by
    have hl' := List.pairwise_cons.mp hl
    have hm' := List.pairwise_cons.mp hm
    have e : x = y := by
      rcases List.mem_cons.mp ((h x).mp List.mem_cons_self) with z | z
      · exact z
      · rcases List.mem_cons.mp ((h y).mpr List.mem_cons_self) with u | u
        · exact u.symm
        · exact absurd (tr _ _ _ (hm'.1 x z) (hl'.1 y u)) (ir _)
    subst e
    have h2 : ∀ z, z ∈ l ↔ z ∈ m := fun z => by
      constructor
      · intro hz
        rcases List.mem_cons.mp ((h z).mp (List.mem_cons_of_mem _ hz)) with u | u
        · rw [u] at hz
          exact absurd (hl'.1 _ hz) (ir _)
        · exact u
      · intro hz
        rcases List.mem_cons.mp ((h z).mpr (List.mem_cons_of_mem _ hz)) with u | u
        · rw [u] at hz
          exact absurd (hm'.1 _ hz) (ir _)
        · exact u
    rw [rise_uniq lt ir tr hl'.2 hm'.2 h2]
theorem rowLt_ints (a b : List Int) : PySem.W.dataLt (.tuple (a.map .int)) (.tuple (b.map .int)) = decide (a < b) := by
  rw [PySem.W.dataLt_tuple]
  exact PySem.W.dataLt_ints a b
theorem dle_rows {β : Type} (f : β → List Int) : PySem.W.dataLe false (fun b => .tuple ((f b).map .int)) = fun p q => decide (f p ≤ f q) := by
  funext p q
  rw [PySem.W.dataLe_eq]
  show (!PySem.W.dataLt (.tuple ((f q).map .int)) (.tuple ((f p).map .int))) = _
  rw [rowLt_ints]
  by_cases h : f q < f p
  · rw [decide_eq_true h, decide_eq_false (by exact fun z => absurd h (List.not_lt.mpr z))]
    rfl
  · rw [decide_eq_false h, decide_eq_true (List.not_lt.mp h)]
    rfl
/-- sorted by a row: rising -/
theorem sorted_rise {β : Type} (f : β → List Int) (l : List β) (hn : (l.map f).Nodup) : ((l.mergeSort (PySem.W.dataLe false (fun b => .tuple ((f b).map .int)))).map f).Pairwise (· < ·) := by
  rw [dle_rows]
  have h1 : (l.mergeSort fun p q => decide (f p ≤ f q)).Pairwise fun p q => decide (f p ≤ f q) = true :=
    List.pairwise_mergeSort (le := fun p q => decide (f p ≤ f q)) (fun a b c h k => decide_eq_true (List.le_trans (of_decide_eq_true h) (of_decide_eq_true k))) (fun a b => by
      rcases List.le_total (f a) (f b) with z | z
      · rw [decide_eq_true z]; rfl
      · rw [decide_eq_true z, Bool.or_true]) l
  have h2 : ((l.mergeSort fun p q => decide (f p ≤ f q)).map f).Nodup := (((List.mergeSort_perm l _).map f).nodup_iff).mpr hn
  rw [List.pairwise_map]
  have h3 := List.pairwise_map.mp h2
  refine List.Pairwise.imp₂ (fun {a b} p q => ?_) h1 h3
  rcases lt_tri (f a) (f b) with z | z | z
  · exact z
  · exact absurd z q
  · exact absurd z (List.not_lt.mpr (of_decide_eq_true p))
end RL
/-! M1 -/
set_option linter.all false
set_option maxRecDepth 100000
namespace K00
open RL
/-! ### how many words, and which -/
def sz (k : Int) : Nat → Int
  | 0 => 1
  | n + 1 => sz k n * k + 1
def raised (k : Int) : List Int → Option (List Int)
  | [] => none
  | x :: xs => if x < k - 1 then some ((x + 1) :: xs) else raised k xs
/-- the index of a word, told from its end -/
def plc (k : Int) : Nat → List Int → Int
  | _, [] => 0
  | n, x :: r => 1 + x * sz k (n - 1) + plc k (n - 1) r
/-- the word at an index, from its end -/
def wat (k : Int) : Nat → Int → List Int
  | 0, _ => []
  | n + 1, m => if m = 0 then [] else ((m - 1) / sz k n) :: wat k n ((m - 1) % sz k n)
def letters (k : Int) (r : List Int) : Prop := ∀ x ∈ r, 0 ≤ x ∧ x < k
theorem sz_pos {k : Int} (hk : 1 ≤ k) : ∀ n, 1 ≤ sz k n
  | 0 => Int.le_refl 1
  | n + 1 => by
    have ih := sz_pos hk n
    have h : 0 ≤ sz k n * k := Int.mul_nonneg (by omega) (by omega)
    show 1 ≤ sz k n * k + 1
    omega
theorem sz_mono {k : Int} (hk : 1 ≤ k) (n : Nat) : sz k n + 1 ≤ sz k (n + 1) := by
  have p := sz_pos hk n
  have h : sz k n * 1 ≤ sz k n * k := Int.mul_le_mul_of_nonneg_left hk (by omega)
  show sz k n + 1 ≤ sz k n * k + 1
  omega
theorem sz_le {k : Int} (hk : 1 ≤ k) : ∀ n m, n ≤ m → sz k n ≤ sz k m
  | n, 0, h => by
    have e : n = 0 := by omega
    subst e
    exact Int.le_refl _
  | n, m + 1, h => by
    by_cases e : n = m + 1
    · subst e
      exact Int.le_refl _
    · have := sz_le hk n m (by omega)
      have := sz_mono hk m
      omega
theorem plc_bd {k : Int} (hk : 1 ≤ k) : ∀ (r : List Int) (n : Nat), r.length ≤ n → letters k r → 0 ≤ plc k n r ∧ plc k n r < sz k n
  | [], n, _, _ => by
    have := sz_pos hk n
    simp only [plc]
    omega
  | x :: r, 0, h, _ => by simp at h
  | x :: r, n + 1, h, hl => by
    have ih := plc_bd hk r n (by simpa using h) fun y hy => hl y (List.mem_cons_of_mem _ hy)
    have hx := hl x List.mem_cons_self
    have p := sz_pos hk n
    show 0 ≤ 1 + x * sz k n + plc k n r ∧ 1 + x * sz k n + plc k n r < sz k n * k + 1
    have h1 : 0 ≤ x * sz k n := Int.mul_nonneg hx.1 (by omega)
    have h2 : x * sz k n ≤ (k - 1) * sz k n := Int.mul_le_mul_of_nonneg_right (by omega) (by omega)
    have h3 : (k - 1) * sz k n = sz k n * k - sz k n := by rw [Int.sub_mul, Int.mul_comm k, Int.one_mul]
    omega
theorem wat_plc {k : Int} (hk : 1 ≤ k) : ∀ (r : List Int) (n : Nat), r.length ≤ n → letters k r → wat k n (plc k n r) = r
  | [], n, _, _ => by
    cases n with
    | zero => rfl
    | succ n => show (if (0 : Int) = 0 then _ else _) = _; rw [if_pos rfl]
  | x :: r, 0, h, _ => by simp at h
  | x :: r, n + 1, h, hl => by
    have hr : letters k r := fun y hy => hl y (List.mem_cons_of_mem _ hy)
    have hn : r.length ≤ n := by simpa using h
    have b := plc_bd hk r n hn hr
    have hx := hl x List.mem_cons_self
    have p := sz_pos hk n
    have h1 : 0 ≤ x * sz k n := Int.mul_nonneg hx.1 (by omega)
    have e : plc k (n + 1) (x :: r) = 1 + x * sz k n + plc k n r := rfl
    show (if plc k (n + 1) (x :: r) = 0 then _ else _) = _
    rw [e, if_neg (by omega)]
    have e2 : 1 + x * sz k n + plc k n r - 1 = plc k n r + x * sz k n := by omega
    rw [e2]
    have e3 : (plc k n r + x * sz k n) / sz k n = x := by
      rw [Int.add_mul_ediv_right _ _ (by omega), Int.ediv_eq_zero_of_lt b.1 b.2, Int.zero_add]
    have e4 : (plc k n r + x * sz k n) % sz k n = plc k n r := by
      rw [Int.add_mul_emod_self_right, Int.emod_eq_of_lt b.1 b.2]
    rw [e3, e4, wat_plc hk r n hn hr]
theorem wat_ok {k : Int} (hk : 1 ≤ k) : ∀ (n : Nat) (m : Int), 0 ≤ m → m < sz k n → (wat k n m).length ≤ n ∧ letters k (wat k n m) ∧ plc k n (wat k n m) = m
  | 0, m, h0, h1 => by
    have : m = 0 := by simp only [sz] at h1; omega
    exact ⟨Nat.le_refl _, fun x hx => by simp [wat] at hx, by simp [wat, plc, this]⟩
  | n + 1, m, h0, h1 => by
    by_cases e : m = 0
    · subst e
      have w : wat k (n + 1) 0 = [] := by show (if (0 : Int) = 0 then _ else _) = _; rw [if_pos rfl]
      rw [w]
      exact ⟨Nat.zero_le _, fun x hx => by simp at hx, rfl⟩
    · have w : wat k (n + 1) m = ((m - 1) / sz k n) :: wat k n ((m - 1) % sz k n) := by show (if m = 0 then _ else _) = _; rw [if_neg e]
      have p := sz_pos hk n
      have r0 : 0 ≤ (m - 1) % sz k n := Int.emod_nonneg _ (by omega)
      have r1 : (m - 1) % sz k n < sz k n := Int.emod_lt_of_pos _ (by omega)
      obtain ⟨i1, i2, i3⟩ := wat_ok hk n _ r0 r1
      have q0 : 0 ≤ (m - 1) / sz k n := Int.ediv_nonneg (by omega) (by omega)
      have q1 : (m - 1) / sz k n < k := by
        refine Int.ediv_lt_of_lt_mul (by omega) ?_
        have : m < sz k n * k + 1 := h1
        rw [Int.mul_comm]
        omega
      rw [w]
      refine ⟨by simpa using i1, fun x hx => ?_, ?_⟩
      · rcases List.mem_cons.mp hx with z | z
        · rw [z]; exact ⟨q0, q1⟩
        · exact i2 x z
      · show 1 + (m - 1) / sz k n * sz k n + plc k n (wat k n ((m - 1) % sz k n)) = m
        rw [i3]
        have := Int.mul_ediv_add_emod (m - 1) (sz k n)
        rw [Int.mul_comm] at this
        omega
theorem plc_lt {k : Int} (hk : 1 ≤ k) : ∀ (a b : List Int) (n : Nat), a.length ≤ n → b.length ≤ n → letters k a → letters k b → a < b → plc k n a < plc k n b
  | [], [], n, _, _, _, _, h => absurd h (List.lt_irrefl _)
  | _ :: _, [], n, _, _, _, _, h => absurd h (List.not_lt_nil _)
  | [], y :: b, 0, _, hb, _, _, _ => by simp at hb
  | [], y :: b, n + 1, _, hb, _, lb, _ => by
    have ib := plc_bd hk b n (by simpa using hb) fun z hz => lb z (List.mem_cons_of_mem _ hz)
    have hy := lb y List.mem_cons_self
    have p := sz_pos hk n
    have h1 : 0 ≤ y * sz k n := Int.mul_nonneg hy.1 (by omega)
    show 0 < 1 + y * sz k n + plc k n b
    omega
  | x :: a, y :: b, 0, ha, _, _, _, _ => by simp at ha
  | x :: a, y :: b, n + 1, ha, hb, la, lb, h => by
    have la' : letters k a := fun z hz => la z (List.mem_cons_of_mem _ hz)
    have lb' : letters k b := fun z hz => lb z (List.mem_cons_of_mem _ hz)
    have ia := plc_bd hk a n (by simpa using ha) la'
    have ib := plc_bd hk b n (by simpa using hb) lb'
    have p := sz_pos hk n
    show 1 + x * sz k n + plc k n a < 1 + y * sz k n + plc k n b
    rcases List.cons_lt_cons_iff.mp h with z | ⟨z, z2⟩
    · have h2 : (x + 1) * sz k n ≤ y * sz k n := Int.mul_le_mul_of_nonneg_right (by omega) (by omega)
      rw [Int.add_mul, Int.one_mul] at h2
      omega
    · subst z
      have := plc_lt hk a b n (by simpa using ha) (by simpa using hb) la' lb' z2
      omega
theorem plc_zero {k : Int} : ∀ (r : List Int) (n : Nat), r.length < n → plc k n (r ++ [0]) = plc k n r + 1
  | [], n, _ => by simp [plc]
  | x :: r, 0, h => by simp at h
  | x :: r, n + 1, h => by
    have ih := plc_zero (k := k) r n (by simpa using h)
    show 1 + x * sz k n + plc k n (r ++ [0]) = 1 + x * sz k n + plc k n r + 1
    omega
theorem sz_big : ∀ n, sz 4 n * 3 + 1 = 4 ^ (n + 1)
  | 0 => by decide
  | n + 1 => by
    have ih := sz_big n
    show (sz 4 n * 4 + 1) * 3 + 1 = 4 ^ (n + 1 + 1)
    rw [Int.pow_succ, ← ih]
    omega
theorem sz_k {k l : Int} (hk : 1 ≤ k) (h : k ≤ l) : ∀ n, sz k n ≤ sz l n
  | 0 => Int.le_refl _
  | n + 1 => by
    have ih := sz_k hk h n
    have p := sz_pos hk n
    have h1 : sz k n * k ≤ sz k n * l := Int.mul_le_mul_of_nonneg_left h (by omega)
    have h2 : sz k n * l ≤ sz l n * l := Int.mul_le_mul_of_nonneg_right ih (by omega)
    show sz k n * k + 1 ≤ sz l n * l + 1
    omega
theorem sz_most {k : Int} (hk : 1 ≤ k) (h4 : k ≤ 4) {n : Nat} (hn : n ≤ 60) : sz k n ≤ 4 ^ 61 := by
  have h1 := sz_le hk n 60 hn
  have h2 := sz_k hk h4 60
  have h3 := sz_big 60
  have h4 : (4 : Int) ^ (60 + 1) = 4 ^ 61 := rfl
  omega
end K00
/-! M2 -/
set_option linter.all false
set_option maxRecDepth 100000
namespace K00
open RL
def rng (k : Int) : List Int := (List.range k.toNat).map Int.ofNat
/-- all words of a length, as the law lists them -/
def wdOf (k : Int) : Nat → List (List Int)
  | 0 => [[]]
  | n + 1 => (wdOf k n).flatMap fun w => (rng k).map fun x => x :: w
def wdToStep (k : Int) (lap : Nat) (found : List (List Int)) : List (List Int) := found.flatMap fun w => w :: (if w.length = lap then (rng k).map fun x => x :: w else [])
/-- all words of at most a length, as the law lists them -/
def wdTo (k : Int) : Nat → List (List Int)
  | 0 => [[]]
  | n + 1 => wdToStep k n (wdTo k n)
def nextOf (k : Int) (n : Nat) (w : List Int) : Option (List Int) := (raised k w).map fun r => List.replicate (n - r.length) 0 ++ r
def nextTo (k : Int) (n : Nat) (w : List Int) : Option (List Int) := if w.length < n then some (0 :: w) else raised k w
/-- f goes down the list, from its first word on, and ends behind its last -/
def chainB (f : List Int → Option (List Int)) : List (List Int) → Bool
  | [] => false
  | [w] => f w == none
  | w :: u :: r => f w == some u && chainB f (u :: r)
theorem chain_at {f : List Int → Option (List Int)} : ∀ {l : List (List Int)} {i : Nat} {w : List Int}, chainB f l = true → l[i]? = some w → f w = l[i + 1]?
  | [], i, w, _, h => by simp at h
  | [u], 0, w, c, h => by
    cases Option.some.inj h
    simpa [chainB] using c
  | [u], i + 1, w, c, h => by simp at h
  | u :: v :: r, 0, w, c, h => by
    cases Option.some.inj h
    have c' : (f u == some v && chainB f (v :: r)) = true := c
    rw [Bool.and_eq_true] at c'
    exact eq_of_beq c'.1
  | u :: v :: r, i + 1, w, c, h => by
    have c' : (f u == some v && chainB f (v :: r)) = true := c
    rw [Bool.and_eq_true] at c'
    exact chain_at (l := v :: r) (i := i) c'.2 h
def riseB : List (List Int) → Bool
  | [] => true
  | [_] => true
  | a :: b :: r => decide (a < b) && riseB (b :: r)
theorem rise_pw : ∀ {l : List (List Int)}, riseB l = true → l.Pairwise (· < ·)
  | [], _ => .nil
  | [a], _ => List.pairwise_singleton _ _
  | a :: b :: r, h => by
    have h' : (decide (a < b) && riseB (b :: r)) = true := h
    rw [Bool.and_eq_true] at h'
    have ih := rise_pw h'.2
    have ab : a < b := of_decide_eq_true h'.1
    refine List.pairwise_cons.mpr ⟨fun c hc => ?_, ih⟩
    rcases List.mem_cons.mp hc with z | z
    · rw [z]; exact ab
    · exact lt_tr ab ((List.pairwise_cons.mp ih).1 c z)
def rowK (n : Nat) (w : List Int) : List Int := w.reverse.map (· + 1) ++ List.replicate (n - w.length) 0
/-- the lengths to which lists are drawn -/
def combos : List (Int × Nat) := [(1, 0), (1, 1), (1, 2), (1, 3), (1, 4), (1, 5), (1, 6), (1, 7), (1, 8), (2, 0), (2, 1), (2, 2), (2, 3), (2, 4), (2, 5), (2, 6), (2, 7), (2, 8), (3, 0), (3, 1), (3, 2), (3, 3), (3, 4), (3, 5), (4, 0), (4, 1), (4, 2), (4, 3), (4, 4)]
def wordsB (k : Int) (n : Nat) (l : List (List Int)) : Bool := l.all fun w => decide (w.length ≤ n) && w.all fun x => decide (0 ≤ x) && decide (x < k)
def ofB (k : Int) (n : Nat) : Bool := (wdOf k n).head? == some (List.replicate n 0) && (chainB (nextOf k n) (wdOf k n) && (wordsB k n (wdOf k n) && decide ((wdOf k n).length ≤ 1000)))
def toB (k : Int) (n : Nat) : Bool := (wdTo k n).head? == some [] && (chainB (nextTo k n) (wdTo k n) && (wordsB k n (wdTo k n) && (decide ((wdTo k n).length ≤ 1000) &&
  (riseB ((wdTo k n).map (rowK n)) && ((wdTo k n).map fun w => plc k n w.reverse) == (List.range (wdTo k n).length).map Int.ofNat))))
theorem of_all : (combos.all fun p => ofB p.1 p.2) = true := by decide +kernel
theorem to_all : (combos.all fun p => toB p.1 p.2) = true := by decide +kernel
theorem combo_bd : ∀ p ∈ combos, 1 ≤ p.1 ∧ p.1 ≤ 4 ∧ p.2 ≤ 8 := by decide +kernel
end K00
/-! M3 -/
set_option linter.all false
set_option maxRecDepth 100000
namespace K00
open RL
structure OfOk (k : Int) (n : Nat) : Prop where
  first : (wdOf k n)[0]? = some (List.replicate n 0)
  next : ∀ i w, (wdOf k n)[i]? = some w → nextOf k n w = (wdOf k n)[i + 1]?
  okw : ∀ w ∈ wdOf k n, w.length ≤ n ∧ ∀ x ∈ w, 0 ≤ x ∧ x < k
  len : (wdOf k n).length ≤ 1000
structure ToOk (k : Int) (n : Nat) : Prop where
  first : (wdTo k n)[0]? = some []
  next : ∀ i w, (wdTo k n)[i]? = some w → nextTo k n w = (wdTo k n)[i + 1]?
  okw : ∀ w ∈ wdTo k n, w.length ≤ n ∧ ∀ x ∈ w, 0 ≤ x ∧ x < k
  len : (wdTo k n).length ≤ 1000
  rise : ((wdTo k n).map (rowK n)).Pairwise (· < ·)
  place : ∀ (i : Nat) (w : List Int), (wdTo k n)[i]? = some w → plc k n w.reverse = i
theorem words_of_B {k : Int} {n : Nat} {l : List (List Int)} (h : wordsB k n l = true) : ∀ w ∈ l, w.length ≤ n ∧ ∀ x ∈ w, 0 ≤ x ∧ x < k := fun w hw => by
  have q := List.all_eq_true.mp h w hw
  rw [Bool.and_eq_true] at q
  refine ⟨of_decide_eq_true q.1, fun x hx => ?_⟩
  have r := List.all_eq_true.mp q.2 x hx
  rw [Bool.and_eq_true] at r
  exact ⟨of_decide_eq_true r.1, of_decide_eq_true r.2⟩
theorem head_at {α : Type} {l : List α} {x : α} (h : l.head? = some x) : l[0]? = some x := by
  cases l with
  | nil => cases h
  | cons a l => exact h
theorem of_ok {k : Int} {n : Nat} (h : (k, n) ∈ combos) : OfOk k n := by
  have q := List.all_eq_true.mp of_all _ h
  unfold ofB at q
  simp only [Bool.and_eq_true] at q
  obtain ⟨q1, q2, q3, q4⟩ := q
  exact ⟨head_at (eq_of_beq q1), fun i w e => chain_at q2 e, words_of_B q3, of_decide_eq_true q4⟩
theorem to_ok {k : Int} {n : Nat} (h : (k, n) ∈ combos) : ToOk k n := by
  have q := List.all_eq_true.mp to_all _ h
  unfold toB at q
  simp only [Bool.and_eq_true] at q
  obtain ⟨q1, q2, q3, q4, q5, q6⟩ := q
  refine ⟨head_at (eq_of_beq q1), fun i w e => chain_at q2 e, words_of_B q3, of_decide_eq_true q4, rise_pw q5, fun i w e => ?_⟩
  have e2 := eq_of_beq q6
  have e3 := congrArg (fun l => l[i]?) e2
  have hi : i < (wdTo k n).length := (List.getElem?_eq_some_iff.mp e).1
  simp only [List.getElem?_map, e, List.getElem?_range hi, Option.map_some] at e3
  exact Option.some.inj e3
end K00
/-! K01a -/
set_option Elab.async false
set_option linter.all false
set_option maxRecDepth 100000
set_option maxHeartbeats 2000000
namespace K01
open PySem PySem.Spec PyProof.Rows L2 PpSet RL LamX
open K00
def topS (i : Nat) : Stmt := PySem.Challenge.pw_roomlines_k01_errors_and_what_they_keep.main.body.getD i (.Pass ⟨0, 0, 0, 0⟩)
abbrev s_is_number : Stmt := topS 18
theorem sc_is_number : FnScope ["value", "least", "most"] ["value", "least", "most"] (defScope s_is_number) := ⟨rfl, rfl, rfl, by decide +kernel, rfl, by decide +kernel, by decide +kernel⟩
abbrev s_check_number : Stmt := topS 19
theorem sc_check_number : FnScope ["value", "least", "most"] ["value", "least", "most"] (defScope s_check_number) := ⟨rfl, rfl, rfl, by decide +kernel, rfl, by decide +kernel, by decide +kernel⟩
abbrev s_check_count : Stmt := topS 20
theorem sc_check_count : FnScope ["value"] ["value"] (defScope s_check_count) := ⟨rfl, rfl, rfl, by decide +kernel, rfl, by decide +kernel, by decide +kernel⟩
abbrev s_check_letters : Stmt := topS 27
theorem sc_check_letters : FnScope ["letters"] ["letters"] (defScope s_check_letters) := ⟨rfl, rfl, rfl, by decide +kernel, rfl, by decide +kernel, by decide +kernel⟩
abbrev s_is_spelled : Stmt := topS 28
theorem sc_is_spelled : FnScope ["letters", "value", "most", "letter"] ["letters", "value", "most"] (defScope s_is_spelled) := ⟨rfl, rfl, rfl, by decide +kernel, rfl, by decide +kernel, by decide +kernel⟩
abbrev s_check_word : Stmt := topS 29
theorem sc_check_word : FnScope ["letters", "word"] ["letters", "word"] (defScope s_check_word) := ⟨rfl, rfl, rfl, by decide +kernel, rfl, by decide +kernel, by decide +kernel⟩
abbrev s_check_both : Stmt := topS 30
theorem sc_check_both : FnScope ["letters", "one", "other"] ["letters", "one", "other"] (defScope s_check_both) := ⟨rfl, rfl, rfl, by decide +kernel, rfl, by decide +kernel, by decide +kernel⟩
abbrev s_order_words : Stmt := topS 31
theorem sc_order_words : FnScope ["one", "other"] ["one", "other"] (defScope s_order_words) := ⟨rfl, rfl, rfl, by decide +kernel, rfl, by decide +kernel, by decide +kernel⟩
abbrev s_count_common : Stmt := topS 32
theorem sc_count_common : FnScope ["one", "other", "most", "many"] ["one", "other"] (defScope s_count_common) := ⟨rfl, rfl, rfl, by decide +kernel, rfl, by decide +kernel, by decide +kernel⟩
abbrev s_is_word : Stmt := topS 33
theorem sc_is_word : FnScope ["letters", "value"] ["letters", "value"] (defScope s_is_word) := ⟨rfl, rfl, rfl, by decide +kernel, rfl, by decide +kernel, by decide +kernel⟩
abbrev s_compare_words : Stmt := topS 34
theorem sc_compare_words : FnScope ["letters", "one", "other"] ["letters", "one", "other"] (defScope s_compare_words) := ⟨rfl, rfl, rfl, by decide +kernel, rfl, by decide +kernel, by decide +kernel⟩
abbrev s_common_end : Stmt := topS 35
theorem sc_common_end : FnScope ["letters", "one", "other"] ["letters", "one", "other"] (defScope s_common_end) := ⟨rfl, rfl, rfl, by decide +kernel, rfl, by decide +kernel, by decide +kernel⟩
abbrev s_is_end : Stmt := topS 36
theorem sc_is_end : FnScope ["letters", "one", "other"] ["letters", "one", "other"] (defScope s_is_end) := ⟨rfl, rfl, rfl, by decide +kernel, rfl, by decide +kernel, by decide +kernel⟩
abbrev s_in_order : Stmt := topS 37
theorem sc_in_order : FnScope ["words", "backwards", "word"] ["words"] (defScope s_in_order) := ⟨rfl, rfl, rfl, by decide +kernel, rfl, by decide +kernel, by decide +kernel⟩
abbrev s_sorted_words : Stmt := topS 38
theorem sc_sorted_words : FnScope ["letters", "words", "word"] ["letters", "words"] (defScope s_sorted_words) := ⟨rfl, rfl, rfl, by decide +kernel, rfl, by decide +kernel, by decide +kernel⟩
abbrev s__raised : Stmt := topS 39
theorem sc__raised : FnScope ["letters", "word", "at", "letter"] ["letters", "word"] (defScope s__raised) := ⟨rfl, rfl, rfl, by decide +kernel, rfl, by decide +kernel, by decide +kernel⟩
abbrev s_words_of : Stmt := topS 40
theorem sc_words_of : GScope ["letters", "length", "word", "raised"] ["letters", "length"] (defScope s_words_of) := ⟨rfl, rfl, rfl, by decide +kernel, rfl, by decide +kernel, by decide +kernel⟩
abbrev s_words_to : Stmt := topS 41
theorem sc_words_to : GScope ["letters", "length", "word"] ["letters", "length"] (defScope s_words_to) := ⟨rfl, rfl, rfl, by decide +kernel, rfl, by decide +kernel, by decide +kernel⟩
abbrev s__sizes : Stmt := topS 42
theorem sc__sizes : FnScope ["letters", "length", "sizes", "_"] ["letters", "length"] (defScope s__sizes) := ⟨rfl, rfl, rfl, by decide +kernel, rfl, by decide +kernel, by decide +kernel⟩
abbrev s_word_place : Stmt := topS 43
theorem sc_word_place : FnScope ["letters", "length", "word", "sizes", "place", "done", "letter"] ["letters", "length", "word"] (defScope s_word_place) := ⟨rfl, rfl, rfl, by decide +kernel, rfl, by decide +kernel, by decide +kernel⟩
abbrev s_word_at : Stmt := topS 44
theorem sc_word_at : FnScope ["letters", "length", "number", "sizes", "word", "left", "letter"] ["letters", "length", "number"] (defScope s_word_at) := ⟨rfl, rfl, rfl, by decide +kernel, rfl, by decide +kernel, by decide +kernel⟩
abbrev s__law_bag : Stmt := topS 46
theorem sc__law_bag : FnScope ["script", "spot", "cell", "great", "mixed"] ["script", "spot"] (defScope s__law_bag) := ⟨rfl, rfl, rfl, by decide +kernel, rfl, by decide +kernel, by decide +kernel⟩
abbrev s__law_grab : Stmt := topS 47
theorem sc__law_grab : FnScope ["bag", "total", "found", "one", "two"] ["bag", "total"] (defScope s__law_grab) := ⟨rfl, rfl, rfl, by decide +kernel, rfl, by decide +kernel, by decide +kernel⟩
abbrev s__law_one_of : Stmt := topS 48
theorem sc__law_one_of : FnScope ["bag", "items"] ["bag", "items"] (defScope s__law_one_of) := ⟨rfl, rfl, rfl, by decide +kernel, rfl, by decide +kernel, by decide +kernel⟩
abbrev s__law_flags : Stmt := topS 50
theorem sc__law_flags : FnScope ["error", "found"] ["error"] (defScope s__law_flags) := ⟨rfl, rfl, rfl, by decide +kernel, rfl, by decide +kernel, by decide +kernel⟩
abbrev s__law_kept_right : Stmt := topS 51
theorem sc__law_kept_right : FnScope ["bag", "odd", "some", "far", "one", "at", "to"] ["bag"] (defScope s__law_kept_right) := ⟨rfl, rfl, rfl, by decide +kernel, rfl, by decide +kernel, by decide +kernel⟩
abbrev s__law_two_right : Stmt := topS 52
theorem sc__law_two_right : FnScope ["bag", "bad", "letters", "some", "one", "other", "call", "told"] ["bag", "bad", "letters"] (defScope s__law_two_right) := ⟨rfl, rfl, rfl, by decide +kernel, rfl, by decide +kernel, by decide +kernel⟩
abbrev s__law_lists_right : Stmt := topS 53
theorem sc__law_lists_right : FnScope ["bag", "bad", "letters", "word", "words", "length", "far", "number", "told", "first", "middle", "last", "short", "none", "off"] ["bag", "bad", "letters"] (defScope s__law_lists_right) := ⟨rfl, rfl, rfl, by decide +kernel, rfl, by decide +kernel, by decide +kernel⟩
abbrev s_law : Stmt := topS 54
theorem sc_law : FnScope ["script", "spot", "bag", "bad", "letters", "told"] ["script"] (defScope s_law) := ⟨rfl, rfl, rfl, by decide +kernel, rfl, by decide +kernel, by decide +kernel⟩
abbrev s__law_fault : Stmt := topS 49
theorem sc__law_fault : FnScope ["call", "error"] ["call"] (defScope s__law_fault) := ⟨rfl, rfl, rfl, by decide +kernel, rfl, by decide +kernel, by decide +kernel⟩
structure Txt (K : PySem.W.Frag) (mg : Str → Option Value) : Type where
  a_is_number : Addr
  d_is_number : FuncData
  F_is_number : Fun K "is_number" "is_number" s_is_number a_is_number d_is_number
  b_is_number : Binds K d_is_number ["value", "least", "most"] []
  m_is_number : mg "is_number" = some (.ref a_is_number)
  a_check_number : Addr
  d_check_number : FuncData
  F_check_number : Fun K "check_number" "check_number" s_check_number a_check_number d_check_number
  b_check_number : Binds K d_check_number ["value", "least", "most"] []
  m_check_number : mg "check_number" = some (.ref a_check_number)
  a_check_count : Addr
  d_check_count : FuncData
  F_check_count : Fun K "check_count" "check_count" s_check_count a_check_count d_check_count
  b_check_count : Binds K d_check_count ["value"] []
  m_check_count : mg "check_count" = some (.ref a_check_count)
  a_check_letters : Addr
  d_check_letters : FuncData
  F_check_letters : Fun K "check_letters" "check_letters" s_check_letters a_check_letters d_check_letters
  b_check_letters : Binds K d_check_letters ["letters"] []
  m_check_letters : mg "check_letters" = some (.ref a_check_letters)
  a_is_spelled : Addr
  d_is_spelled : FuncData
  F_is_spelled : Fun K "is_spelled" "is_spelled" s_is_spelled a_is_spelled d_is_spelled
  b_is_spelled : Binds K d_is_spelled ["letters", "value", "most"] []
  m_is_spelled : mg "is_spelled" = some (.ref a_is_spelled)
  a_check_word : Addr
  d_check_word : FuncData
  F_check_word : Fun K "check_word" "check_word" s_check_word a_check_word d_check_word
  b_check_word : Binds K d_check_word ["letters", "word"] []
  m_check_word : mg "check_word" = some (.ref a_check_word)
  a_check_both : Addr
  d_check_both : FuncData
  F_check_both : Fun K "check_both" "check_both" s_check_both a_check_both d_check_both
  b_check_both : Binds K d_check_both ["letters", "one", "other"] []
  m_check_both : mg "check_both" = some (.ref a_check_both)
  a_order_words : Addr
  d_order_words : FuncData
  F_order_words : Fun K "order_words" "order_words" s_order_words a_order_words d_order_words
  b_order_words : Binds K d_order_words ["one", "other"] []
  m_order_words : mg "order_words" = some (.ref a_order_words)
  a_count_common : Addr
  d_count_common : FuncData
  F_count_common : Fun K "count_common" "count_common" s_count_common a_count_common d_count_common
  b_count_common : Binds K d_count_common ["one", "other"] []
  m_count_common : mg "count_common" = some (.ref a_count_common)
  a_is_word : Addr
  d_is_word : FuncData
  F_is_word : Fun K "is_word" "is_word" s_is_word a_is_word d_is_word
  b_is_word : Binds K d_is_word ["letters", "value"] []
  m_is_word : mg "is_word" = some (.ref a_is_word)
  a_compare_words : Addr
  d_compare_words : FuncData
  F_compare_words : Fun K "compare_words" "compare_words" s_compare_words a_compare_words d_compare_words
  b_compare_words : Binds K d_compare_words ["letters", "one", "other"] []
  m_compare_words : mg "compare_words" = some (.ref a_compare_words)
  a_common_end : Addr
  d_common_end : FuncData
  F_common_end : Fun K "common_end" "common_end" s_common_end a_common_end d_common_end
  b_common_end : Binds K d_common_end ["letters", "one", "other"] []
  m_common_end : mg "common_end" = some (.ref a_common_end)
  a_is_end : Addr
  d_is_end : FuncData
  F_is_end : Fun K "is_end" "is_end" s_is_end a_is_end d_is_end
  b_is_end : Binds K d_is_end ["letters", "one", "other"] []
  m_is_end : mg "is_end" = some (.ref a_is_end)
  a_in_order : Addr
  d_in_order : FuncData
  F_in_order : Fun K "in_order" "in_order" s_in_order a_in_order d_in_order
  b_in_order : Binds K d_in_order ["words"] []
  m_in_order : mg "in_order" = some (.ref a_in_order)
  a_sorted_words : Addr
  d_sorted_words : FuncData
  F_sorted_words : Fun K "sorted_words" "sorted_words" s_sorted_words a_sorted_words d_sorted_words
  b_sorted_words : Binds K d_sorted_words ["letters", "words"] []
  m_sorted_words : mg "sorted_words" = some (.ref a_sorted_words)
  a__raised : Addr
  d__raised : FuncData
  F__raised : Fun K "_raised" "_raised" s__raised a__raised d__raised
  b__raised : Binds K d__raised ["letters", "word"] []
  m__raised : mg "_raised" = some (.ref a__raised)
  a_words_of : Addr
  d_words_of : FuncData
  F_words_of : Fun K "words_of" "words_of" s_words_of a_words_of d_words_of
  b_words_of : Binds K d_words_of ["letters", "length"] []
  m_words_of : mg "words_of" = some (.ref a_words_of)
  a_words_to : Addr
  d_words_to : FuncData
  F_words_to : Fun K "words_to" "words_to" s_words_to a_words_to d_words_to
  b_words_to : Binds K d_words_to ["letters", "length"] []
  m_words_to : mg "words_to" = some (.ref a_words_to)
  a__sizes : Addr
  d__sizes : FuncData
  F__sizes : Fun K "_sizes" "_sizes" s__sizes a__sizes d__sizes
  b__sizes : Binds K d__sizes ["letters", "length"] []
  m__sizes : mg "_sizes" = some (.ref a__sizes)
  a_word_place : Addr
  d_word_place : FuncData
  F_word_place : Fun K "word_place" "word_place" s_word_place a_word_place d_word_place
  b_word_place : Binds K d_word_place ["letters", "length", "word"] []
  m_word_place : mg "word_place" = some (.ref a_word_place)
  a_word_at : Addr
  d_word_at : FuncData
  F_word_at : Fun K "word_at" "word_at" s_word_at a_word_at d_word_at
  b_word_at : Binds K d_word_at ["letters", "length", "number"] []
  m_word_at : mg "word_at" = some (.ref a_word_at)
  a__law_bag : Addr
  d__law_bag : FuncData
  F__law_bag : Fun K "_law_bag" "_law_bag" s__law_bag a__law_bag d__law_bag
  b__law_bag : Binds K d__law_bag ["script", "spot"] []
  m__law_bag : mg "_law_bag" = some (.ref a__law_bag)
  a__law_grab : Addr
  d__law_grab : FuncData
  F__law_grab : Fun K "_law_grab" "_law_grab" s__law_grab a__law_grab d__law_grab
  b__law_grab : Binds K d__law_grab ["bag", "total"] []
  m__law_grab : mg "_law_grab" = some (.ref a__law_grab)
  a__law_one_of : Addr
  d__law_one_of : FuncData
  F__law_one_of : Fun K "_law_one_of" "_law_one_of" s__law_one_of a__law_one_of d__law_one_of
  b__law_one_of : Binds K d__law_one_of ["bag", "items"] []
  m__law_one_of : mg "_law_one_of" = some (.ref a__law_one_of)
  a__law_flags : Addr
  d__law_flags : FuncData
  F__law_flags : Fun K "_law_flags" "_law_flags" s__law_flags a__law_flags d__law_flags
  b__law_flags : Binds K d__law_flags ["error"] []
  m__law_flags : mg "_law_flags" = some (.ref a__law_flags)
  a__law_kept_right : Addr
  d__law_kept_right : FuncData
  F__law_kept_right : Fun K "_law_kept_right" "_law_kept_right" s__law_kept_right a__law_kept_right d__law_kept_right
  b__law_kept_right : Binds K d__law_kept_right ["bag"] []
  m__law_kept_right : mg "_law_kept_right" = some (.ref a__law_kept_right)
  a__law_two_right : Addr
  d__law_two_right : FuncData
  F__law_two_right : Fun K "_law_two_right" "_law_two_right" s__law_two_right a__law_two_right d__law_two_right
  b__law_two_right : Binds K d__law_two_right ["bag", "bad", "letters"] []
  m__law_two_right : mg "_law_two_right" = some (.ref a__law_two_right)
  a__law_lists_right : Addr
  d__law_lists_right : FuncData
  F__law_lists_right : Fun K "_law_lists_right" "_law_lists_right" s__law_lists_right a__law_lists_right d__law_lists_right
  b__law_lists_right : Binds K d__law_lists_right ["bag", "bad", "letters"] []
  m__law_lists_right : mg "_law_lists_right" = some (.ref a__law_lists_right)
  a_law : Addr
  d_law : FuncData
  F_law : Fun K "law" "law" s_law a_law d_law
  b_law : Binds K d_law ["script"] []
  m_law : mg "law" = some (.ref a_law)
  a__law_fault : Addr
  d__law_fault : FuncData
  F__law_fault : Fun K "_law_fault" "_law_fault" s__law_fault a__law_fault d__law_fault
  b__law_fault : Binds K d__law_fault ["call"] []
  m__law_fault : mg "_law_fault" = some (.ref a__law_fault)
  t_MAX_LETTERS : Tok
  g_MAX_LETTERS : mg "MAX_LETTERS" = some (.int 4 t_MAX_LETTERS)
  t_MAX_WORD : Tok
  g_MAX_WORD : mg "MAX_WORD" = some (.int 200 t_MAX_WORD)
  t_MOST_SORTED : Tok
  g_MOST_SORTED : mg "MOST_SORTED" = some (.int 200 t_MOST_SORTED)
  t_MOST_LISTED : Tok
  g_MOST_LISTED : mg "MOST_LISTED" = some (.int 8 t_MOST_LISTED)
  t_MOST_PLACED : Tok
  g_MOST_PLACED : mg "MOST_PLACED" = some (.int 60 t_MOST_PLACED)
  C_InvalidWord : Addr
  sn_InvalidWord : PySem.W.subIn K (.ref C_InvalidWord) (.type "StopIteration") = some false
  mC_InvalidWord : mg "InvalidWord" = some (.ref C_InvalidWord)
  k_InvalidWord : PySem.W.keepIn K (.ref C_InvalidWord) = true
  e_InvalidWord : PySem.W.subIn K (.ref C_InvalidWord) (.type "BaseException") = some true
  t_InvalidWord : PySem.W.typeIn K (.ref C_InvalidWord) = some (.type "type")
  x_InvalidWord : PySem.W.excIn K C_InvalidWord [.type "ValueError", .type "Exception", .type "BaseException", .type "object"] "ValueError.__new__" = true
  C_InvalidOperation : Addr
  sn_InvalidOperation : PySem.W.subIn K (.ref C_InvalidOperation) (.type "StopIteration") = some false
  mC_InvalidOperation : mg "InvalidOperation" = some (.ref C_InvalidOperation)
  k_InvalidOperation : PySem.W.keepIn K (.ref C_InvalidOperation) = true
  e_InvalidOperation : PySem.W.subIn K (.ref C_InvalidOperation) (.type "BaseException") = some true
  t_InvalidOperation : PySem.W.typeIn K (.ref C_InvalidOperation) = some (.type "type")
  x_InvalidOperation : PySem.W.excIn K C_InvalidOperation [.type "ValueError", .type "Exception", .type "BaseException", .type "object"] "ValueError.__new__" = true
  C_InvalidNumber : Addr
  sn_InvalidNumber : PySem.W.subIn K (.ref C_InvalidNumber) (.type "StopIteration") = some false
  mC_InvalidNumber : mg "InvalidNumber" = some (.ref C_InvalidNumber)
  k_InvalidNumber : PySem.W.keepIn K (.ref C_InvalidNumber) = true
  e_InvalidNumber : PySem.W.subIn K (.ref C_InvalidNumber) (.type "BaseException") = some true
  t_InvalidNumber : PySem.W.typeIn K (.ref C_InvalidNumber) = some (.type "type")
  i_InvalidNumber : Addr
  kp_InvalidNumber : PySem.OwX.KeepT K mg "InvalidNumber" "given" "IndexError" "IndexError.__new__" [.type "IndexError", .type "LookupError", .type "Exception", .type "BaseException", .type "object"] C_InvalidNumber i_InvalidNumber
  xf_InvalidNumber : XfC K C_InvalidNumber
  em_InvalidWord_InvalidWord : PySem.W.exmOne K (.ref C_InvalidWord) (.ref C_InvalidWord) = some true
  em_InvalidOperation_InvalidWord : PySem.W.exmOne K (.ref C_InvalidOperation) (.ref C_InvalidWord) = some false
  em_InvalidOperation_InvalidOperation : PySem.W.exmOne K (.ref C_InvalidOperation) (.ref C_InvalidOperation) = some true
  em_InvalidNumber_InvalidWord : PySem.W.exmOne K (.ref C_InvalidNumber) (.ref C_InvalidWord) = some false
  em_InvalidNumber_InvalidOperation : PySem.W.exmOne K (.ref C_InvalidNumber) (.ref C_InvalidOperation) = some false
  em_InvalidNumber_InvalidNumber : PySem.W.exmOne K (.ref C_InvalidNumber) (.ref C_InvalidNumber) = some true
  C_RoomError : Addr
  mC_RoomError : mg "RoomError" = some (.ref C_RoomError)
  C_InvalidHeight : Addr
  mC_InvalidHeight : mg "InvalidHeight" = some (.ref C_InvalidHeight)
  k_InvalidHeight : PySem.W.keepIn K (.ref C_InvalidHeight) = true
  x_InvalidHeight : PySem.W.excIn K C_InvalidHeight [.type "ValueError", .type "Exception", .type "BaseException", .type "object"] "ValueError.__new__" = true
  C_InvalidMachine : Addr
  mC_InvalidMachine : mg "InvalidMachine" = some (.ref C_InvalidMachine)
  k_InvalidMachine : PySem.W.keepIn K (.ref C_InvalidMachine) = true
  x_InvalidMachine : PySem.W.excIn K C_InvalidMachine [.type "ValueError", .type "Exception", .type "BaseException", .type "object"] "ValueError.__new__" = true
  C_InvalidReader : Addr
  mC_InvalidReader : mg "InvalidReader" = some (.ref C_InvalidReader)
  k_InvalidReader : PySem.W.keepIn K (.ref C_InvalidReader) = true
  x_InvalidReader : PySem.W.excIn K C_InvalidReader [.type "ValueError", .type "Exception", .type "BaseException", .type "object"] "ValueError.__new__" = true
  C_InvalidRooms : Addr
  mC_InvalidRooms : mg "InvalidRooms" = some (.ref C_InvalidRooms)
  k_InvalidRooms : PySem.W.keepIn K (.ref C_InvalidRooms) = true
  x_InvalidRooms : PySem.W.excIn K C_InvalidRooms [.type "ValueError", .type "Exception", .type "BaseException", .type "object"] "ValueError.__new__" = true
  C_InvalidLines : Addr
  mC_InvalidLines : mg "InvalidLines" = some (.ref C_InvalidLines)
  k_InvalidLines : PySem.W.keepIn K (.ref C_InvalidLines) = true
  x_InvalidLines : PySem.W.excIn K C_InvalidLines [.type "ValueError", .type "Exception", .type "BaseException", .type "object"] "ValueError.__new__" = true
  C_InvalidOrder : Addr
  mC_InvalidOrder : mg "InvalidOrder" = some (.ref C_InvalidOrder)
  k_InvalidOrder : PySem.W.keepIn K (.ref C_InvalidOrder) = true
  x_InvalidOrder : PySem.W.excIn K C_InvalidOrder [.type "ValueError", .type "Exception", .type "BaseException", .type "object"] "ValueError.__new__" = true
  C_InvalidName : Addr
  mC_InvalidName : mg "InvalidName" = some (.ref C_InvalidName)
  k_InvalidName : PySem.W.keepIn K (.ref C_InvalidName) = true
  x_InvalidName : PySem.W.excIn K C_InvalidName [.type "ValueError", .type "Exception", .type "BaseException", .type "object"] "ValueError.__new__" = true
  C_ParseError : Addr
  mC_ParseError : mg "ParseError" = some (.ref C_ParseError)
  k_ParseError : PySem.W.keepIn K (.ref C_ParseError) = true
  i_ParseError : Addr
  kp_ParseError : PySem.OwX.KeepT K mg "ParseError" "spot" "ValueError" "ValueError.__new__" [.type "ValueError", .type "Exception", .type "BaseException", .type "object"] C_ParseError i_ParseError
  xf_ParseError : XfC K C_ParseError
  C_UnknownName : Addr
  mC_UnknownName : mg "UnknownName" = some (.ref C_UnknownName)
  k_UnknownName : PySem.W.keepIn K (.ref C_UnknownName) = true
  i_UnknownName : Addr
  kp_UnknownName : PySem.OwX.KeepT K mg "UnknownName" "wanted" "KeyError" "LookupError.__new__" mroKey C_UnknownName i_UnknownName
  xf_UnknownName : XfC K C_UnknownName
  C_TooMany : Addr
  mC_TooMany : mg "TooMany" = some (.ref C_TooMany)
  k_TooMany : PySem.W.keepIn K (.ref C_TooMany) = true
  i_TooMany : Addr
  kp_TooMany : PySem.OwX.KeepT K mg "TooMany" "limit" "OverflowError" "OverflowError.__new__" [.type "OverflowError", .type "ArithmeticError", .type "Exception", .type "BaseException", .type "object"] C_TooMany i_TooMany
  xf_TooMany : XfC K C_TooMany
  C_Refused : Addr
  mC_Refused : mg "Refused" = some (.ref C_Refused)
  k_Refused : PySem.W.keepIn K (.ref C_Refused) = true
  i_Refused : Addr
  kp_Refused : PySem.OwX.KeepT K mg "Refused" "reason" "ArithmeticError" "ArithmeticError.__new__" [.type "ArithmeticError", .type "Exception", .type "BaseException", .type "object"] C_Refused i_Refused
  xf_Refused : XfC K C_Refused
  C_NothingToUndo : Addr
  mC_NothingToUndo : mg "NothingToUndo" = some (.ref C_NothingToUndo)
  k_NothingToUndo : PySem.W.keepIn K (.ref C_NothingToUndo) = true
  i_NothingToUndo : Addr
  kp_NothingToUndo : PySem.OwX.KeepT K mg "NothingToUndo" "steps" "LookupError" "LookupError.__new__" [.type "LookupError", .type "Exception", .type "BaseException", .type "object"] C_NothingToUndo i_NothingToUndo
  xf_NothingToUndo : XfC K C_NothingToUndo
  ec_InvalidWord : ExcC K C_InvalidWord
  fl_InvalidWord : Fl K C_InvalidWord [(C_InvalidWord, true), (C_InvalidHeight, false), (C_InvalidMachine, false), (C_InvalidReader, false), (C_InvalidRooms, false), (C_InvalidLines, false), (C_InvalidOrder, false), (C_InvalidOperation, false), (C_InvalidName, false), (C_ParseError, false)]
  rm_InvalidWord : PySem.W.kitOne K (.ref C_InvalidWord) (.ref C_RoomError) = some true
  ve_InvalidWord : PySem.W.kitOne K (.ref C_InvalidWord) (.type "ValueError") = some true
  ec_InvalidHeight : ExcC K C_InvalidHeight
  fl_InvalidHeight : Fl K C_InvalidHeight [(C_InvalidWord, false), (C_InvalidHeight, true), (C_InvalidMachine, false), (C_InvalidReader, false), (C_InvalidRooms, false), (C_InvalidLines, false), (C_InvalidOrder, false), (C_InvalidOperation, false), (C_InvalidName, false), (C_ParseError, false)]
  rm_InvalidHeight : PySem.W.kitOne K (.ref C_InvalidHeight) (.ref C_RoomError) = some true
  ve_InvalidHeight : PySem.W.kitOne K (.ref C_InvalidHeight) (.type "ValueError") = some true
  ec_InvalidMachine : ExcC K C_InvalidMachine
  fl_InvalidMachine : Fl K C_InvalidMachine [(C_InvalidWord, false), (C_InvalidHeight, false), (C_InvalidMachine, true), (C_InvalidReader, false), (C_InvalidRooms, false), (C_InvalidLines, false), (C_InvalidOrder, false), (C_InvalidOperation, false), (C_InvalidName, false), (C_ParseError, false)]
  rm_InvalidMachine : PySem.W.kitOne K (.ref C_InvalidMachine) (.ref C_RoomError) = some true
  ve_InvalidMachine : PySem.W.kitOne K (.ref C_InvalidMachine) (.type "ValueError") = some true
  ec_InvalidReader : ExcC K C_InvalidReader
  fl_InvalidReader : Fl K C_InvalidReader [(C_InvalidWord, false), (C_InvalidHeight, false), (C_InvalidMachine, false), (C_InvalidReader, true), (C_InvalidRooms, false), (C_InvalidLines, false), (C_InvalidOrder, false), (C_InvalidOperation, false), (C_InvalidName, false), (C_ParseError, false)]
  rm_InvalidReader : PySem.W.kitOne K (.ref C_InvalidReader) (.ref C_RoomError) = some true
  ve_InvalidReader : PySem.W.kitOne K (.ref C_InvalidReader) (.type "ValueError") = some true
  ec_InvalidRooms : ExcC K C_InvalidRooms
  fl_InvalidRooms : Fl K C_InvalidRooms [(C_InvalidWord, false), (C_InvalidHeight, false), (C_InvalidMachine, false), (C_InvalidReader, false), (C_InvalidRooms, true), (C_InvalidLines, false), (C_InvalidOrder, false), (C_InvalidOperation, false), (C_InvalidName, false), (C_ParseError, false)]
  rm_InvalidRooms : PySem.W.kitOne K (.ref C_InvalidRooms) (.ref C_RoomError) = some true
  ve_InvalidRooms : PySem.W.kitOne K (.ref C_InvalidRooms) (.type "ValueError") = some true
  ec_InvalidLines : ExcC K C_InvalidLines
  fl_InvalidLines : Fl K C_InvalidLines [(C_InvalidWord, false), (C_InvalidHeight, false), (C_InvalidMachine, false), (C_InvalidReader, false), (C_InvalidRooms, false), (C_InvalidLines, true), (C_InvalidOrder, false), (C_InvalidOperation, false), (C_InvalidName, false), (C_ParseError, false)]
  rm_InvalidLines : PySem.W.kitOne K (.ref C_InvalidLines) (.ref C_RoomError) = some true
  ve_InvalidLines : PySem.W.kitOne K (.ref C_InvalidLines) (.type "ValueError") = some true
  ec_InvalidOrder : ExcC K C_InvalidOrder
  fl_InvalidOrder : Fl K C_InvalidOrder [(C_InvalidWord, false), (C_InvalidHeight, false), (C_InvalidMachine, false), (C_InvalidReader, false), (C_InvalidRooms, false), (C_InvalidLines, false), (C_InvalidOrder, true), (C_InvalidOperation, false), (C_InvalidName, false), (C_ParseError, false)]
  rm_InvalidOrder : PySem.W.kitOne K (.ref C_InvalidOrder) (.ref C_RoomError) = some true
  ve_InvalidOrder : PySem.W.kitOne K (.ref C_InvalidOrder) (.type "ValueError") = some true
  ec_InvalidOperation : ExcC K C_InvalidOperation
  fl_InvalidOperation : Fl K C_InvalidOperation [(C_InvalidWord, false), (C_InvalidHeight, false), (C_InvalidMachine, false), (C_InvalidReader, false), (C_InvalidRooms, false), (C_InvalidLines, false), (C_InvalidOrder, false), (C_InvalidOperation, true), (C_InvalidName, false), (C_ParseError, false)]
  rm_InvalidOperation : PySem.W.kitOne K (.ref C_InvalidOperation) (.ref C_RoomError) = some true
  ve_InvalidOperation : PySem.W.kitOne K (.ref C_InvalidOperation) (.type "ValueError") = some true
  ec_InvalidName : ExcC K C_InvalidName
  fl_InvalidName : Fl K C_InvalidName [(C_InvalidWord, false), (C_InvalidHeight, false), (C_InvalidMachine, false), (C_InvalidReader, false), (C_InvalidRooms, false), (C_InvalidLines, false), (C_InvalidOrder, false), (C_InvalidOperation, false), (C_InvalidName, true), (C_ParseError, false)]
  rm_InvalidName : PySem.W.kitOne K (.ref C_InvalidName) (.ref C_RoomError) = some true
  ve_InvalidName : PySem.W.kitOne K (.ref C_InvalidName) (.type "ValueError") = some true
  ec_ParseError : ExcC K C_ParseError
  fl_ParseError : Fl K C_ParseError [(C_InvalidWord, false), (C_InvalidHeight, false), (C_InvalidMachine, false), (C_InvalidReader, false), (C_InvalidRooms, false), (C_InvalidLines, false), (C_InvalidOrder, false), (C_InvalidOperation, false), (C_InvalidName, false), (C_ParseError, true)]
  rm_ParseError : PySem.W.kitOne K (.ref C_ParseError) (.ref C_RoomError) = some true
  ve_ParseError : PySem.W.kitOne K (.ref C_ParseError) (.type "ValueError") = some true
  ec_InvalidNumber : ExcC K C_InvalidNumber
  fl_InvalidNumber : Fl K C_InvalidNumber [(C_InvalidWord, false), (C_InvalidHeight, false), (C_InvalidMachine, false), (C_InvalidReader, false), (C_InvalidRooms, false), (C_InvalidLines, false), (C_InvalidOrder, false), (C_InvalidOperation, false), (C_InvalidName, false), (C_ParseError, false)]
  rm_InvalidNumber : PySem.W.kitOne K (.ref C_InvalidNumber) (.ref C_RoomError) = some false
  ec_UnknownName : ExcC K C_UnknownName
  fl_UnknownName : Fl K C_UnknownName [(C_InvalidWord, false), (C_InvalidHeight, false), (C_InvalidMachine, false), (C_InvalidReader, false), (C_InvalidRooms, false), (C_InvalidLines, false), (C_InvalidOrder, false), (C_InvalidOperation, false), (C_InvalidName, false), (C_ParseError, false)]
  rm_UnknownName : PySem.W.kitOne K (.ref C_UnknownName) (.ref C_RoomError) = some false
  ec_TooMany : ExcC K C_TooMany
  fl_TooMany : Fl K C_TooMany [(C_InvalidWord, false), (C_InvalidHeight, false), (C_InvalidMachine, false), (C_InvalidReader, false), (C_InvalidRooms, false), (C_InvalidLines, false), (C_InvalidOrder, false), (C_InvalidOperation, false), (C_InvalidName, false), (C_ParseError, false)]
  rm_TooMany : PySem.W.kitOne K (.ref C_TooMany) (.ref C_RoomError) = some false
  ec_Refused : ExcC K C_Refused
  fl_Refused : Fl K C_Refused [(C_InvalidWord, false), (C_InvalidHeight, false), (C_InvalidMachine, false), (C_InvalidReader, false), (C_InvalidRooms, false), (C_InvalidLines, false), (C_InvalidOrder, false), (C_InvalidOperation, false), (C_InvalidName, false), (C_ParseError, false)]
  rm_Refused : PySem.W.kitOne K (.ref C_Refused) (.ref C_RoomError) = some false
  ec_NothingToUndo : ExcC K C_NothingToUndo
  fl_NothingToUndo : Fl K C_NothingToUndo [(C_InvalidWord, false), (C_InvalidHeight, false), (C_InvalidMachine, false), (C_InvalidReader, false), (C_InvalidRooms, false), (C_InvalidLines, false), (C_InvalidOrder, false), (C_InvalidOperation, false), (C_InvalidName, false), (C_ParseError, false)]
  rm_NothingToUndo : PySem.W.kitOne K (.ref C_NothingToUndo) (.ref C_RoomError) = some false
  fk_InvalidNumber_KeyError : PySem.W.kitOne K (.ref C_InvalidNumber) (.type "KeyError") = some false
  fk_InvalidNumber_IndexError : PySem.W.kitOne K (.ref C_InvalidNumber) (.type "IndexError") = some true
  fk_UnknownName_KeyError : PySem.W.kitOne K (.ref C_UnknownName) (.type "KeyError") = some true
  fk_TooMany_OverflowError : PySem.W.kitOne K (.ref C_TooMany) (.type "OverflowError") = some true
  fk_NothingToUndo_IndexError : PySem.W.kitOne K (.ref C_NothingToUndo) (.type "IndexError") = some false
  fk_NothingToUndo_KeyError : PySem.W.kitOne K (.ref C_NothingToUndo) (.type "KeyError") = some false
  fk_Refused_ArithmeticError : PySem.W.kitOne K (.ref C_Refused) (.type "ArithmeticError") = some true
  fk_NothingToUndo_LookupError : PySem.W.kitOne K (.ref C_NothingToUndo) (.type "LookupError") = some true
  c__law_two_right : Addr
  P__law_two_right : Addr
  hc__law_two_right : d__law_two_right.code = .ref c__law_two_right
  tb__law_two_right : PySem.W.tabIn K "_law_two_right" = some (c__law_two_right, P__law_two_right)
  nk__law_two_right : K.lookup P__law_two_right = none
  c__law_lists_right : Addr
  P__law_lists_right : Addr
  hc__law_lists_right : d__law_lists_right.code = .ref c__law_lists_right
  tb__law_lists_right : PySem.W.tabIn K "_law_lists_right" = some (c__law_lists_right, P__law_lists_right)
  nk__law_lists_right : K.lookup P__law_lists_right = none
  c_law : Addr
  P_law : Addr
  hc_law : d_law.code = .ref c_law
  tb_law : PySem.W.tabIn K "law" = some (c_law, P_law)
  nk_law : K.lookup P_law = none
  n_bool : mg "bool" = none
  n_len : mg "len" = none
  n_min : mg "min" = none
  n_max : mg "max" = none
  n_abs : mg "abs" = none
  n_int : mg "int" = none
  n_isinstance : mg "isinstance" = none
  n_tuple : mg "tuple" = none
  n_list : mg "list" = none
  n_all : mg "all" = none
  n_range : mg "range" = none
  n_repr : mg "repr" = none
  n_enumerate : mg "enumerate" = none
  n_sorted : mg "sorted" = none
  n_divmod : mg "divmod" = none
  n_ValueError : mg "ValueError" = none
  n_KeyError : mg "KeyError" = none
  n_IndexError : mg "IndexError" = none
  n_OverflowError : mg "OverflowError" = none
  n_ArithmeticError : mg "ArithmeticError" = none
  n_LookupError : mg "LookupError" = none
  n_0_1 : P__law_two_right ≠ P__law_lists_right
  n_0_2 : P__law_two_right ≠ P_law
  n_1_2 : P__law_lists_right ≠ P_law
abbrev Txt.tabs {K : PySem.W.Frag} {mg : Str → Option Value} (T : Txt K mg) : List (Addr × Str) := [(T.P__law_two_right, (("_law_two_right" : Str) ++ ".<locals>." ++ "<lambda>")), (T.P__law_lists_right, (("_law_lists_right" : Str) ++ ".<locals>." ++ "<lambda>")), (T.P_law, (("law" : Str) ++ ".<locals>." ++ "<lambda>"))]
abbrev Txt.cs {K : PySem.W.Frag} {mg : Str → Option Value} (T : Txt K mg) : List (Addr × Addr) := [(T.c__law_two_right, T.P__law_two_right), (T.c__law_lists_right, T.P__law_lists_right), (T.c_law, T.P_law)]
theorem Txt.in__law_two_right {K : PySem.W.Frag} {mg : Str → Option Value} (T : Txt K mg) : (T.c__law_two_right, T.P__law_two_right) ∈ T.cs := (.head _)
theorem Txt.on__law_two_right {K : PySem.W.Frag} {mg : Str → Option Value} (T : Txt K mg) : (T.P__law_two_right, (("_law_two_right" : Str) ++ ".<locals>." ++ "<lambda>")) ∈ T.tabs := (.head _)
theorem Txt.un__law_two_right {K : PySem.W.Frag} {mg : Str → Option Value} (T : Txt K mg) : ∀ p ∈ T.tabs, p.1 = T.P__law_two_right → p.2 = (("_law_two_right" : Str) ++ ".<locals>." ++ "<lambda>") := by
  intro p hp e
  rcases List.mem_cons.mp hp with rfl | hp
  · rfl
  rcases List.mem_cons.mp hp with rfl | hp
  · exact absurd e (Ne.symm T.n_0_1)
  rcases List.mem_cons.mp hp with rfl | hp
  · exact absurd e (Ne.symm T.n_0_2)
  cases hp
theorem Txt.in__law_lists_right {K : PySem.W.Frag} {mg : Str → Option Value} (T : Txt K mg) : (T.c__law_lists_right, T.P__law_lists_right) ∈ T.cs := (.tail _ (.head _))
theorem Txt.on__law_lists_right {K : PySem.W.Frag} {mg : Str → Option Value} (T : Txt K mg) : (T.P__law_lists_right, (("_law_lists_right" : Str) ++ ".<locals>." ++ "<lambda>")) ∈ T.tabs := (.tail _ (.head _))
theorem Txt.un__law_lists_right {K : PySem.W.Frag} {mg : Str → Option Value} (T : Txt K mg) : ∀ p ∈ T.tabs, p.1 = T.P__law_lists_right → p.2 = (("_law_lists_right" : Str) ++ ".<locals>." ++ "<lambda>") := by
  intro p hp e
  rcases List.mem_cons.mp hp with rfl | hp
  · exact absurd e T.n_0_1
  rcases List.mem_cons.mp hp with rfl | hp
  · rfl
  rcases List.mem_cons.mp hp with rfl | hp
  · exact absurd e (Ne.symm T.n_1_2)
  cases hp
theorem Txt.in_law {K : PySem.W.Frag} {mg : Str → Option Value} (T : Txt K mg) : (T.c_law, T.P_law) ∈ T.cs := (.tail _ (.tail _ (.head _)))
theorem Txt.on_law {K : PySem.W.Frag} {mg : Str → Option Value} (T : Txt K mg) : (T.P_law, (("law" : Str) ++ ".<locals>." ++ "<lambda>")) ∈ T.tabs := (.tail _ (.tail _ (.head _)))
theorem Txt.un_law {K : PySem.W.Frag} {mg : Str → Option Value} (T : Txt K mg) : ∀ p ∈ T.tabs, p.1 = T.P_law → p.2 = (("law" : Str) ++ ".<locals>." ++ "<lambda>") := by
  intro p hp e
  rcases List.mem_cons.mp hp with rfl | hp
  · exact absurd e T.n_0_2
  rcases List.mem_cons.mp hp with rfl | hp
  · exact absurd e T.n_1_2
  rcases List.mem_cons.mp hp with rfl | hp
  · rfl
  cases hp
theorem tyx_sqt {K : PySem.W.Frag} {H : Hp} {a : Addr} {xs : List V} (h : SqT K H a xs) : TyX K H (.ref a) (.type "tuple") := by
  rcases h with (h | ⟨o, h⟩) | h
  · exact .base (.tup h)
  · exact .fTuple h
  · obtain ⟨o, vs, n, hl, hc, _⟩ := h
    exact .kTuple hl hc
/-! ### the mirrors -/
/-- k letters -/
def okW (k : Int) (ws : List Int) : Prop := ws.length ≤ 200 ∧ ∀ n ∈ ws, 0 ≤ n ∧ n < k
theorem spv_w {K : PySem.W.Frag} {H : Hp} {v : V} {k : Int} (h : SpV K H v k 200 true) : ∃ ws : List Int, IsW K H v ws ∧ okW k ws :=
  let ⟨ws, h1, h2, h3⟩ := h.word; ⟨ws, h1, by omega, h3⟩
theorem spv_of {K : PySem.W.Frag} {H : Hp} {v : V} {k : Int} {ws : List Int} (h : IsW K H v ws) (o : okW k ws) : SpV K H v k 200 true := SpV.of h (by have := o.1; omega) (by have := o.1; omega) o.2
def sp_is_number (K : PySem.W.Frag) : Sp := fun vs H Q _ => ∃ v lo hi, vs = [v, .int lo, .int hi] ∧ NumV K H v ∧ Q (.bl (numB v lo hi)) H
def sp_check_number (K : PySem.W.Frag) (C : Addr) : Sp := fun vs H Q E => ∃ v lo hi, vs = [v, .int lo, .int hi] ∧ NumV K H v ∧ (numB v lo hi = true → Q .non H) ∧ (numB v lo hi = false → rKept C "given" v E H)
def sp_check_count (K : PySem.W.Frag) (C : Addr) : Sp := fun vs H Q E => ∃ v, vs = [v] ∧ NumV K H v ∧ (numB v 0 (10 ^ 60 - 1) = true → Q .non H) ∧ (numB v 0 (10 ^ 60 - 1) = false → rKept C "given" v E H)
def sp_check_letters (K : PySem.W.Frag) (C : Addr) : Sp := fun vs H Q E => ∃ v, vs = [v] ∧ NumV K H v ∧ (numB v 1 4 = true → Q .non H) ∧ (numB v 1 4 = false → rKept C "given" v E H)
def sp_is_spelled (K : PySem.W.Frag) : Sp := fun vs H Q _ => ∃ (k most : Int) (v : V) (b : Bool), vs = [.int k, v, .int most] ∧ SpV K H v k most b ∧ ∀ H', Same H H' → Q (.bl b) H'
def sp_check_word (K : PySem.W.Frag) (C : Addr) : Sp := fun vs H Q E => ∃ (k : Int) (v : V) (b : Bool), vs = [.int k, v] ∧ SpV K H v k 200 b ∧ (b = true → ∀ H', Same H H' → Q .non H') ∧ (b = false → rPlain C E H)
theorem num_k {v : V} {lo hi : Int} (h : numB v lo hi = true) : ∃ k, v = .int k ∧ lo ≤ k ∧ k ≤ hi := by
  cases v with
  | int i =>
    simp only [numB, Bool.and_eq_true, decide_eq_true_eq] at h
    exact ⟨i, rfl, h.1, h.2⟩
  | _ => simp [numB] at h
theorem num_of {k lo hi : Int} (h1 : lo ≤ k) (h2 : k ≤ hi) : numB (.int k) lo hi = true := by
  simp only [numB, Bool.and_eq_true, decide_eq_true_eq]
  exact ⟨h1, h2⟩
theorem numV_int {K : PySem.W.Frag} {H : Hp} (i : Int) : NumV K H (.int i) := .inl ⟨i, rfl⟩
section
variable {P : Program} {w : World} {K : PySem.W.Frag} {mg : Str → Option Value} {base : Heap}
theorem ok_is_number (T : Txt K mg) : FnOk P w K mg base CX0 1 T.a_is_number T.d_is_number ["value", "least", "most"] (sp_is_number K) := by
  refine T.F_is_number.ok sc_is_number (fun vs H Q E h => ?_) (fun cdv A outer s H vs Q E hr h => ?_)
  · obtain ⟨v, lo, hi, rfl, _⟩ := h
    rfl
  · obtain ⟨v, lo, hi, rfl, hv, q⟩ := h
    refine ⟨_, (pss_one (ps_ret (pe_and (pe_callB (call_isiK (K := K) rfl) rfl T.n_isinstance (by decide +kernel) (pa_cons (pv 0) (pa_cons (pe_bltn (v := .ty "int") (u := .type "int") rfl T.n_int (by decide +kernel) rfl) pa_nil))) (pe_and (pe_not (pe_callB (call_isiK (K := K) rfl) rfl T.n_isinstance (by decide +kernel) (pa_cons (pv 0) (pa_cons (pe_bltn (v := .ty "bool") (u := .type "bool") rfl T.n_bool (by decide +kernel) rfl) pa_nil)))) (pe_one (pe_chain op_le op_le (pv 1) (pv 0) (pv 2))))))), ?_⟩
    rcases hv with ⟨i, rfl⟩ | ⟨b, rfl⟩ | ⟨n1, n2, t, ht, hk⟩
    · refine ⟨_, rfl, _, _, _, _, true, rfl, .ty _, .base (.int i), kit_ty (by decide +kernel), _, rfl, iteT ?_⟩
      refine ⟨_, rfl, _, _, _, _, false, rfl, .ty _, .base (.int i), kit_ty (by decide +kernel), _, rfl, _, rfl, iteT ?_⟩
      refine ⟨_, rfl, _, rfl, _, _, rfl, rfl, _, rfl, ?_⟩
      by_cases c : lo ≤ i
      · rw [if_pos (decide_eq_true c)]
        refine ⟨_, rfl, _, _, rfl, rfl, ?_⟩
        have e : numB (.int i) lo hi = decide (i ≤ hi) := by simp [numB, c]
        rw [e] at q
        exact q
      · rw [if_neg (by rw [decide_eq_false c]; exact Bool.false_ne_true)]
        have e : numB (.int i) lo hi = false := by simp [numB, c]
        rw [e] at q
        exact q
    · refine ⟨_, rfl, _, _, _, _, true, rfl, .ty _, .base (.bl b), kit_ty (by decide +kernel), _, rfl, iteT ?_⟩
      exact ⟨_, rfl, _, _, _, _, true, rfl, .ty _, .base (.bl b), kit_ty (by decide +kernel), _, rfl, _, rfl, iteF q⟩
    · refine ⟨_, rfl, _, _, _, _, false, rfl, .ty _, ht, hk, _, rfl, iteF ?_⟩
      have e : numB v lo hi = false := by
        cases v with
        | int i => exact absurd rfl (n1 i)
        | _ => rfl
      rw [e] at q
      exact q
theorem ok_check_number (T : Txt K mg) : FnOk P w K mg base (L2.CX P w) 2 T.a_check_number T.d_check_number ["value", "least", "most"] (sp_check_number K T.C_InvalidNumber) := by
  refine T.F_check_number.okX sc_check_number (fun vs H Q E h => ?_) (fun cdv A outer s H vs Q E hr h => ?_)
  · obtain ⟨v, lo, hi, rfl, _⟩ := h
    rfl
  · obtain ⟨v, lo, hi, rfl, hv, q, e⟩ := h
    refine ⟨_, (pss_one (ps_if (pt_not (pt_val (pe_call (ok_is_number T) (hr.mono (by decide)) rfl T.m_is_number T.F_is_number.kp T.b_is_number .nil pass0 (pa_cons (pv 0) (pa_cons (pv 1) (pa_cons (pv 2) pa_nil)))))) (pss_one (ps_raiseKept rfl T.kp_InvalidNumber PySem.F.store_IndexError PySem.F.excBase_IndexError (hr.mono (by decide) : Room 0 _) (takes_of rfl rfl rfl rfl) (pa_cons (pv 0) pa_nil) rfl)) pss_nil)), ?_⟩
    refine ⟨_, rfl, _, rfl, _, rfl, v, lo, hi, rfl, hv, _, rfl, ?_⟩
    cases hb : numB v lo hi with
    | true => exact iteF (q hb)
    | false => exact iteT ⟨_, rfl, v, rfl, (e hb).mk⟩
theorem ok_check_count (T : Txt K mg) : FnOk P w K mg base (L2.CX P w) 3 T.a_check_count T.d_check_count ["value"] (sp_check_count K T.C_InvalidNumber) := by
  refine T.F_check_count.okX sc_check_count (fun vs H Q E h => ?_) (fun cdv A outer s H vs Q E hr h => ?_)
  · obtain ⟨v, rfl, _⟩ := h
    rfl
  · obtain ⟨v, rfl, hv, q, e⟩ := h
    refine ⟨_, (pss_one (ps_expr (pe_call (ok_check_number T) (hr.mono (by decide)) rfl T.m_check_number T.F_check_number.kp T.b_check_number .nil (passE (takes_of rfl rfl rfl rfl)) (pa_cons (pv 0) (pa_cons pe_int (pa_cons (pe_op op_sub (pe_op op_pow pe_int pe_int) pe_int) pa_nil)))))), ?_⟩
    exact ⟨_, rfl, _, _, rfl, rfl, ⟨by decide, by decide, by decide⟩, _, _, rfl, rfl, v, 0, _, rfl, hv, q, e⟩
theorem ok_check_letters (T : Txt K mg) : FnOk P w K mg base (L2.CX P w) 3 T.a_check_letters T.d_check_letters ["letters"] (sp_check_letters K T.C_InvalidNumber) := by
  refine T.F_check_letters.okX sc_check_letters (fun vs H Q E h => ?_) (fun cdv A outer s H vs Q E hr h => ?_)
  · obtain ⟨v, rfl, _⟩ := h
    rfl
  · obtain ⟨v, rfl, hv, q, e⟩ := h
    refine ⟨_, (pss_one (ps_expr (pe_call (ok_check_number T) (hr.mono (by decide)) rfl T.m_check_number T.F_check_number.kp T.b_check_number .nil (passE (takes_of rfl rfl rfl rfl)) (pa_cons (pv 0) (pa_cons pe_int (pa_cons (pe_glob (v := .int 4) rfl T.g_MAX_LETTERS ⟨_, rfl⟩) pa_nil)))))), ?_⟩
    exact ⟨_, rfl, v, 1, 4, rfl, hv, q, e⟩
theorem ok_is_spelled (T : Txt K mg) : FnOk P w K mg base CX0 2 T.a_is_spelled T.d_is_spelled ["letters", "value", "most"] (sp_is_spelled K) := by
  refine T.F_is_spelled.ok sc_is_spelled (fun vs H Q E h => ?_) (fun cdv A outer s H vs Q E hr h => ?_)
  · obtain ⟨k, most, v, b, rfl, _⟩ := h
    rfl
  · obtain ⟨k, most, v, b, rfl, h, q⟩ := h
    refine ⟨_, (pss_cons (ps_if (PW.pt (pw_or (pt_not (pt_val (pe_callB (call_isiK (K := K) rfl) rfl T.n_isinstance (by decide +kernel) (pa_cons (pv 1) (pa_cons (pe_bltn (v := .ty "tuple") (u := .type "tuple") rfl T.n_tuple (by decide +kernel) rfl) pa_nil))))) (pw_or1 (pt_cmpR op_gt (pe_callB call_len_seq rfl T.n_len (by decide +kernel) (pa_cons (pv 1) pa_nil)) (pv 2) (nomark _))))) (pss_one (ps_ret pe_bl)) pss_nil) (pss_one (ps_ret (pe_callB (cr_all rfl) rfl T.n_all (by decide +kernel) (pa_cons (pe_lc (own := [("letter", 3)]) rfl sc_is_spelled.nd (pi_tup (pv 1)) (blkOk_by (own := [("letter", 3)]) (N := ["letters", "value", "most", "letter"]) (sc := defScope s_is_spelled) (by decide +kernel)) (fun _ _ _ _ _ => (pg_name (i := 3) sc_is_spelled.nd rfl (Or.inl rfl))) (fun _ _ _ _ _ => pts_nil) (fun _ _ _ _ _ => (pe_call (ok_is_number T) (hr.mono (by decide)) rfl T.m_is_number T.F_is_number.kp T.b_is_number .nil pass0 (pa_cons (pv 3) (pa_cons pe_int (pa_cons (pe_op op_sub (pv 0) pe_int) pa_nil)))))) pa_nil))))), ?_⟩
    rcases h with ⟨rfl, t, ht, hk⟩ | ⟨a, xs, rfl, hx, hz, hn, rfl⟩
    · exact ⟨_, rfl, _, _, _, _, false, rfl, .ty _, ht, hk, _, rfl, iteT (iteT (q H (Same.refl H)))⟩
    · refine ⟨_, rfl, _, _, _, _, true, rfl, .ty _, tyx_sqt hx, kit_ty (by decide +kernel), _, rfl, iteF ?_⟩
      refine ⟨_, rfl, _, _, rfl, .inr hx, _, rfl, _, _, rfl, rfl, _, rfl, ?_⟩
      by_cases c : (xs.length : Int) > most
      · refine ifT (decide_eq_true c) ?_
        have e : spelled xs k most = false := by
          unfold spelled
          rw [decide_eq_false (by omega), Bool.false_and]
        rw [e] at q
        exact q H (Same.refl H)
      · refine ifF (decide_eq_false c) ?_
        refine ⟨_, rfl, a, rfl, ⟨_, hx⟩, ?_⟩
        refine lc_tupF (i := 3) (f := fun x => .bl (numB x 0 (k - 1))) hx hz (fun x hm H2 Q2 s2 q2 => ?_) fun H2 p s2 _ hp => ?_
        · exact ⟨_, rfl, _, rfl, _, _, rfl, rfl, _, _, _, rfl, ext_numV (Same.ext s2) (hn x hm), q2 H2 (Same.refl H2)⟩
        · refine ⟨p, xs.map fun x => numB x 0 (k - 1), rfl, SqL.of (by rw [List.map_map]; exact hp), ?_⟩
          have e : spelled xs k most = (xs.map fun x => numB x 0 (k - 1)).all id := by
            unfold spelled
            rw [decide_eq_true (by omega), Bool.true_and, List.all_map]
            rfl
          rw [← e]
          exact q H2 s2
theorem ok_check_word (T : Txt K mg) : FnOk P w K mg base (L2.CX P w) 3 T.a_check_word T.d_check_word ["letters", "word"] (sp_check_word K T.C_InvalidWord) := by
  refine T.F_check_word.okX sc_check_word (fun vs H Q E h => ?_) (fun cdv A outer s H vs Q E hr h => ?_)
  · obtain ⟨k, v, b, rfl, _⟩ := h
    rfl
  · obtain ⟨k, v, b, rfl, hv, q, e⟩ := h
    refine ⟨_, (pss_one (ps_if (pt_not (pt_val (pe_call (ok_is_spelled T) (hr.mono (by decide)) rfl T.m_is_spelled T.F_is_spelled.kp T.b_is_spelled .nil pass0 (pa_cons (pv 0) (pa_cons (pv 1) (pa_cons (pe_glob (v := .int 200) rfl T.g_MAX_WORD ⟨_, rfl⟩) pa_nil)))))) (pss_one (ps_raise rfl (takes_of rfl rfl rfl rfl) (pmk_own PySem.F.excBase_ValueError T.x_InvalidWord T.mC_InvalidWord T.k_InvalidWord (raises_own T.e_InvalidWord T.t_InvalidWord) rfl))) pss_nil)), ?_⟩
    refine ⟨_, rfl, _, rfl, k, 200, v, b, rfl, hv, fun H1 s1 => ⟨_, rfl, ?_⟩⟩
    cases b with
    | true => exact iteF (q rfl H1 s1)
    | false => exact iteT (e rfl H1 s1)
end
end K01
/-! K01b -/
set_option Elab.async false
set_option linter.all false
set_option maxRecDepth 100000
set_option maxHeartbeats 2000000
namespace K01
open PySem PySem.Spec PyProof.Rows L2 PpSet RL LamX
open K00
theorem numV_ints {K : PySem.W.Frag} {H : Hp} {ws : List Int} : ∀ x ∈ ws.map V.int, ∀ H', Same H H' → NumV K H' x := fun x hx H' _ => by
  obtain ⟨n, _, rfl⟩ := List.mem_map.mp hx
  exact .inl ⟨n, rfl⟩
theorem len_small {ws : List Int} (h : ws.length ≤ 100000) : (ws.map V.int).length < sizeLine := by rw [List.length_map, sizeLine_eq]; omega
theorem seqT {K : PySem.W.Frag} {H : Hp} {a : Addr} {xs : List V} (h : SqT K H a xs) : SqL K H a xs ∨ SqT K H a xs := .inr h
/-- the place from the end -/
theorem from_end (ws : List Int) (i : Nat) (h : i < ws.length) : ws[((ws.length : Int) - 1 - (i : Int)).toNat]? = ws.reverse[i]? := by
  have e : ((ws.length : Int) - 1 - (i : Int)).toNat = ws.length - 1 - i := by omega
  rw [e, List.getElem?_reverse h]

def sp_check_both (K : PySem.W.Frag) (Cn Cw : Addr) : Sp := fun vs H Q E => ∃ lv v u, vs = [lv, v, u] ∧ NumV K H lv ∧ (numB lv 1 4 = false → rKept Cn "given" lv E H) ∧
  ∀ k, lv = .int k → 1 ≤ k → k ≤ 4 → ∃ b1, SpV K H v k 200 b1 ∧ (b1 = false → rPlain Cw E H) ∧ (b1 = true → ∃ b2, SpV K H u k 200 b2 ∧ (b2 = false → rPlain Cw E H) ∧ (b2 = true → ∀ H', Same H H' → Q .non H'))
def sp_two (K : PySem.W.Frag) (Cn Cw : Addr) : Sp := fun vs H Q E => ∃ lv v u, vs = [lv, v, u] ∧ NumV K H lv ∧ (numB lv 1 4 = false → rKept Cn "given" lv E H) ∧
  ∀ k, lv = .int k → 1 ≤ k → k ≤ 4 → ∃ b1, SpV K H v k 200 b1 ∧ (b1 = false → rPlain Cw E H) ∧ (b1 = true → ∃ b2, SpV K H u k 200 b2 ∧ (b2 = false → rPlain Cw E H) ∧ (b2 = true → ∀ x H', Same H H' → Q x H'))
def ordW (a b : List Int) : Int := if a = b then 0 else if HT.lexLt a.reverse b.reverse = true then -1 else 1
/-- how many first items agree -/
def cpl : List Int → List Int → Nat
  | x :: xs, y :: ys => if x = y then cpl xs ys + 1 else 0
  | _, _ => 0
theorem cpl_le : ∀ a b : List Int, cpl a b ≤ min a.length b.length
  | [], b => by simp [cpl]
  | x :: xs, [] => by simp [cpl]
  | x :: xs, y :: ys => by
    have ih := cpl_le xs ys
    simp only [cpl, List.length_cons]
    split <;> omega
theorem cpl_at : ∀ (a b : List Int) (i : Nat), i < cpl a b → a[i]? = b[i]?
  | [], b, i, h => by simp [cpl] at h
  | x :: xs, [], i, h => by simp [cpl] at h
  | x :: xs, y :: ys, i, h => by
    simp only [cpl] at h
    split at h
    · rename_i e
      cases i with
      | zero => simp [e]
      | succ i =>
        simp only [List.getElem?_cons_succ]
        exact cpl_at xs ys i (by omega)
    · omega
theorem cpl_ne : ∀ (a b : List Int), cpl a b < min a.length b.length → a[cpl a b]? ≠ b[cpl a b]?
  | [], b, h => by simp at h
  | x :: xs, [], h => by simp at h
  | x :: xs, y :: ys, h => by
    simp only [cpl, List.length_cons] at h ⊢
    split at h
    · rename_i e
      rw [if_pos e]
      simp only [List.getElem?_cons_succ]
      exact cpl_ne xs ys (by omega)
    · rename_i e
      rw [if_neg e]
      simpa using e
def sp_order_words (K : PySem.W.Frag) : Sp := fun vs H Q _ => ∃ (v u : V) (a b : List Int), vs = [v, u] ∧ IsW K H v a ∧ IsW K H u b ∧ ∀ H', Same H H' → Q (.int (ordW a b)) H'
def sp_count_common (K : PySem.W.Frag) : Sp := fun vs H Q _ => ∃ (v u : V) (a b : List Int), vs = [v, u] ∧ IsW K H v a ∧ IsW K H u b ∧ Q (.int (cpl a.reverse b.reverse)) H
def sp_is_word (K : PySem.W.Frag) (Cn : Addr) : Sp := fun vs H Q E => ∃ lv v, vs = [lv, v] ∧ NumV K H lv ∧ (numB lv 1 4 = false → rKept Cn "given" lv E H) ∧
  ∀ k, lv = .int k → 1 ≤ k → k ≤ 4 → ∃ b, SpV K H v k 200 b ∧ ∀ H', Same H H' → Q (.bl b) H'
section
variable {P : Program} {w : World} {K : PySem.W.Frag} {mg : Str → Option Value} {base : Heap}
theorem ok_check_both (T : Txt K mg) : FnOk P w K mg base (L2.CX P w) 4 T.a_check_both T.d_check_both ["letters", "one", "other"] (sp_check_both K T.C_InvalidNumber T.C_InvalidWord) := by
  refine T.F_check_both.okX sc_check_both (fun vs H Q E h => ?_) (fun cdv A outer s H vs Q E hr h => ?_)
  · obtain ⟨lv, v, u, rfl, _⟩ := h
    rfl
  · obtain ⟨lv, v, u, rfl, hl, e1, h⟩ := h
    refine ⟨_, (pss_cons (ps_expr (pe_call (ok_check_letters T) (hr.mono (by decide)) rfl T.m_check_letters T.F_check_letters.kp T.b_check_letters .nil (passE (takes_of rfl rfl rfl rfl)) (pa_cons (pv 0) pa_nil))) (pss_cons (ps_expr (pe_call (ok_check_word T) (hr.mono (by decide)) rfl T.m_check_word T.F_check_word.kp T.b_check_word .nil (passE (takes_of rfl rfl rfl rfl)) (pa_cons (pv 0) (pa_cons (pv 1) pa_nil)))) (pss_one (ps_expr (pe_call (ok_check_word T) (hr.mono (by decide)) rfl T.m_check_word T.F_check_word.kp T.b_check_word .nil (passE (takes_of rfl rfl rfl rfl)) (pa_cons (pv 0) (pa_cons (pv 2) pa_nil))))))), ?_⟩
    refine ⟨_, rfl, lv, rfl, hl, fun hb => ?_, e1⟩
    obtain ⟨k, rfl, k1, k4⟩ := num_k hb
    obtain ⟨b, hv, f1, h⟩ := h k rfl k1 k4
    refine ⟨_, rfl, _, rfl, k, v, b, rfl, hv, fun hb1 H1 s1 => ?_, f1⟩
    obtain ⟨b2, hu, f2, q⟩ := h hb1
    exact ⟨_, rfl, _, rfl, k, u, b2, rfl, hu.ext (Same.ext s1), fun hb2 H2 s2 => q hb2 H2 (Same.trans s1 s2), fun hb2 => (f2 hb2).same s1⟩
theorem ok_order_words (T : Txt K mg) : FnOk P w K mg base CX0 1 T.a_order_words T.d_order_words ["one", "other"] (sp_order_words K) := by
  refine T.F_order_words.ok sc_order_words (fun vs H Q E h => ?_) (fun cdv A outer s H vs Q E hr h => ?_)
  · obtain ⟨v, u, a, b, rfl, _⟩ := h
    rfl
  · obtain ⟨v, u, a, b, rfl, ha, hb, q⟩ := h
    refine ⟨_, (pss_cons (ps_if (pt_cmpR (op_eqD hr.units) (pv 0) (pv 1) (nomark _)) (pss_one (ps_ret pe_int)) pss_nil) (pss_one (ps_ret (pe_ifExp (pt_cmpR (op_ltT hr.units0) (pe_revK (K := K) rfl (pv 0)) (pe_revK (K := K) rfl (pv 1)) (nomark _)) (pe_un un_neg pe_int) pe_int)))), ?_⟩
    refine ⟨_, rfl, _, rfl, _, _, ha.dp, hb.dp, shaped_tup a, shaped_tup b, _, rfl, ?_⟩
    rw [eqv_tup]
    obtain ⟨x, rfl, hx⟩ := ha
    obtain ⟨y, rfl, hy⟩ := hb
    by_cases c : a = b
    · refine ifT (decide_eq_true c) ?_
      have e : ordW a b = 0 := by simp [ordW, c]
      rw [e] at q
      exact q H (Same.refl H)
    · refine ifF (decide_eq_false c) ?_
      refine ⟨_, rfl, x, _, rfl, hx, fun H2 p s2 hp => ⟨_, rfl, y, _, rfl, Same.sqt s2 hy, fun H3 r s3 hr => ⟨p, r, a.reverse, b.reverse, rfl, rfl, by rw [List.map_reverse]; exact Same.sqt s3 hp, by rw [List.map_reverse]; exact hr, _, rfl, ?_⟩⟩⟩
      have e : ordW a b = if HT.lexLt a.reverse b.reverse = true then -1 else 1 := by simp [ordW, c]
      rw [e] at q
      cases hl : HT.lexLt a.reverse b.reverse with
      | true =>
        rw [hl, if_pos rfl] at q
        exact iteT ⟨_, rfl, q H3 (Same.trans s2 s3)⟩
      | false =>
        rw [hl, if_neg Bool.false_ne_true] at q
        exact iteF (q H3 (Same.trans s2 s3))
theorem ok_count_common (T : Txt K mg) : FnOk P w K mg base CX0 1 T.a_count_common T.d_count_common ["one", "other"] (sp_count_common K) := by
  refine T.F_count_common.ok sc_count_common (fun vs H Q E h => ?_) (fun cdv A outer s H vs Q E hr h => ?_)
  · obtain ⟨v, u, a, b, rfl, _⟩ := h
    rfl
  · obtain ⟨v, u, a, b, rfl, ⟨x, rfl, hx⟩, ⟨y, rfl, hy⟩, q⟩ := h
    refine ⟨_, (pss_cons (ps_set (i := 2) sc_count_common.nd rfl (Or.inl rfl) (pe_callB (call_min2 rfl) rfl T.n_min (by decide +kernel) (pa_cons (pe_callB call_len_seq rfl T.n_len (by decide +kernel) (pa_cons (pv 0) pa_nil)) (pa_cons (pe_callB call_len_seq rfl T.n_len (by decide +kernel) (pa_cons (pv 1) pa_nil)) pa_nil)))) (pss_cons (ps_set (i := 3) sc_count_common.nd rfl (Or.inl rfl) pe_int) (pss_cons (ps_while PassesOwn.never (PW.pt (pw_and (pt_cmpR op_lt (pv 3) (pv 2) (nomark _)) (pw_and1 (pt_cmpR op_eq (pe_ix ix_tup (pv 0) (pe_op op_sub (pe_op op_sub (pe_callB call_len_seq rfl T.n_len (by decide +kernel) (pa_cons (pv 0) pa_nil)) pe_int) (pv 3)) (fun _ _ => rfl)) (pe_ix ix_tup (pv 1) (pe_op op_sub (pe_op op_sub (pe_callB call_len_seq rfl T.n_len (by decide +kernel) (pa_cons (pv 1) pa_nil)) pe_int) (pv 3)) (fun _ _ => rfl)) (nomark _))))) (pss_one (ps_aug (i := 3) sc_count_common.nd rfl (Or.inl rfl) pe_int ip_add))) (pss_one (ps_ret (pv 3)))))), ?_⟩
    have la : (a.map V.int).length = a.length := List.length_map _
    have lb : (b.map V.int).length = b.length := List.length_map _
    have cl := cpl_le a.reverse b.reverse
    rw [List.length_reverse, List.length_reverse] at cl
    refine ⟨_, rfl, _, _, rfl, .inr hx, _, rfl, _, _, rfl, .inr hy, _, _, rfl, ?_⟩
    rw [la, lb]
    have em : (if (b.length : Int) < (a.length : Int) then (b.length : Int) else (a.length : Int)) = ((min a.length b.length : Nat) : Int) := by split <;> omega
    rw [em]
    refine ⟨fun m σ H2 => H2 = H ∧ ∃ i : Nat, i ≤ cpl a.reverse b.reverse ∧ m = min a.length b.length - i ∧ σ = [some (.ref x), some (.ref y), some (.int ((min a.length b.length : Nat) : Int)), some (.int (i : Int))], ⟨_, rfl, 0, Nat.zero_le _, rfl, rfl⟩, ?_⟩
    rintro m σ H2 ⟨rfl, i, hi, rfl, rfl⟩
    refine ⟨_, rfl, _, rfl, _, _, rfl, rfl, _, rfl, ?_⟩
    by_cases c : (i : Int) < ((min a.length b.length : Nat) : Int)
    · refine ifT (decide_eq_true c) ?_
      have ia : i < a.length := by omega
      have ib : i < b.length := by omega
      have ea := from_end a i ia
      have eb := from_end b i ib
      have ra : i < a.reverse.length := by rw [List.length_reverse]; exact ia
      have rb : i < b.reverse.length := by rw [List.length_reverse]; exact ib
      rw [List.getElem?_eq_getElem ra] at ea
      rw [List.getElem?_eq_getElem rb] at eb
      refine ⟨_, rfl, _, rfl, _, _, rfl, .inr hx, _, _, rfl, rfl, _, rfl, _, _, rfl, rfl, x, _, _, _, rfl, rfl, hx, at_int (by rw [la]; omega) (by rw [la]; exact ea), ?_⟩
      refine ⟨_, rfl, _, rfl, _, _, rfl, .inr hy, _, _, rfl, rfl, _, rfl, _, _, rfl, rfl, y, _, _, _, rfl, rfl, hy, at_int (by rw [lb]; omega) (by rw [lb]; exact eb), ?_⟩
      refine ⟨rfl, _, rfl, ?_⟩
      by_cases d : a.reverse[i] = b.reverse[i]
      · refine ifT (decide_eq_true (by rw [d])) ⟨_, fun σ' H' z => z, ?_⟩
        refine ⟨_, rfl, _, _, rfl, rfl, ?_⟩
        refine ⟨min a.length b.length - (i + 1), by omega, rfl, i + 1, ?_, rfl, rfl⟩
        refine Nat.lt_of_le_of_ne hi fun z => ?_
        have n := cpl_ne a.reverse b.reverse (by rw [List.length_reverse, List.length_reverse]; omega)
        rw [← z, List.getElem?_eq_getElem ra, List.getElem?_eq_getElem rb, d] at n
        exact n rfl
      · refine ifF (decide_eq_false (fun z => d (by injection z))) ?_
        have e : cpl a.reverse b.reverse = i := by
          refine Nat.le_antisymm (Nat.le_of_not_lt fun z => ?_) hi
          have n := cpl_at _ _ _ z
          rw [List.getElem?_eq_getElem ra, List.getElem?_eq_getElem rb] at n
          exact d (Option.some.inj n)
        rw [e] at q
        exact ⟨_, rfl, q⟩
    · refine ifF (decide_eq_false c) ?_
      have e : cpl a.reverse b.reverse = i := by omega
      rw [e] at q
      exact ⟨_, rfl, q⟩
theorem ok_is_word (T : Txt K mg) : FnOk P w K mg base (L2.CX P w) 4 T.a_is_word T.d_is_word ["letters", "value"] (sp_is_word K T.C_InvalidNumber) := by
  refine T.F_is_word.okX sc_is_word (fun vs H Q E h => ?_) (fun cdv A outer s H vs Q E hr h => ?_)
  · obtain ⟨lv, v, rfl, _⟩ := h
    rfl
  · obtain ⟨lv, v, rfl, hl, e1, h⟩ := h
    refine ⟨_, (pss_cons (ps_expr (pe_call (ok_check_letters T) (hr.mono (by decide)) rfl T.m_check_letters T.F_check_letters.kp T.b_check_letters .nil (passE (takes_of rfl rfl rfl rfl)) (pa_cons (pv 0) pa_nil))) (pss_one (ps_ret (pe_call (ok_is_spelled T) (hr.mono (by decide)) rfl T.m_is_spelled T.F_is_spelled.kp T.b_is_spelled .nil pass0 (pa_cons (pv 0) (pa_cons (pv 1) (pa_cons (pe_glob (v := .int 200) rfl T.g_MAX_WORD ⟨_, rfl⟩) pa_nil))))))), ?_⟩
    refine ⟨_, rfl, lv, rfl, hl, fun hb => ?_, e1⟩
    obtain ⟨k, rfl, k1, k4⟩ := num_k hb
    obtain ⟨b, hv, q⟩ := h k rfl k1 k4
    exact ⟨_, rfl, _, rfl, k, 200, v, b, rfl, hv, q⟩
theorem ok_compare_words (T : Txt K mg) : FnOk P w K mg base (L2.CX P w) 5 T.a_compare_words T.d_compare_words ["letters", "one", "other"] (sp_two K T.C_InvalidNumber T.C_InvalidWord) := by
  refine T.F_compare_words.okX sc_compare_words (fun vs H Q E h => ?_) (fun cdv A outer s H vs Q E hr h => ?_)
  · obtain ⟨lv, v, u, rfl, _⟩ := h
    rfl
  · obtain ⟨lv, v, u, rfl, hl, e1, h⟩ := h
    refine ⟨_, (pss_cons (ps_expr (pe_call (ok_check_both T) (hr.mono (by decide)) rfl T.m_check_both T.F_check_both.kp T.b_check_both .nil (passE (takes_of rfl rfl rfl rfl)) (pa_cons (pv 0) (pa_cons (pv 1) (pa_cons (pv 2) pa_nil))))) (pss_one (ps_ret (pe_call (ok_order_words T) (hr.mono (by decide)) rfl T.m_order_words T.F_order_words.kp T.b_order_words .nil pass0 (pa_cons (pv 1) (pa_cons (pv 2) pa_nil)))))), ?_⟩
    refine ⟨_, rfl, _, rfl, _, rfl, lv, v, u, rfl, hl, e1, fun k ek k1 k4 => ?_⟩
    obtain ⟨b1, hv, f1, h⟩ := h k ek k1 k4
    refine ⟨b1, hv, f1, fun hb1 => ?_⟩
    obtain ⟨b2, hu, f2, q⟩ := h hb1
    refine ⟨b2, hu, f2, fun hb2 H1 s1 => ?_⟩
    subst hb1 hb2
    obtain ⟨a, ha, oa⟩ := spv_w hv
    obtain ⟨b, hb, ob⟩ := spv_w hu
    exact ⟨_, rfl, _, rfl, _, _, a, b, rfl, ha.same s1, hb.same s1, fun H2 s2 => q rfl _ H2 (Same.trans s1 s2)⟩
theorem ok_common_end (T : Txt K mg) : FnOk P w K mg base (L2.CX P w) 5 T.a_common_end T.d_common_end ["letters", "one", "other"] (sp_two K T.C_InvalidNumber T.C_InvalidWord) := by
  refine T.F_common_end.okX sc_common_end (fun vs H Q E h => ?_) (fun cdv A outer s H vs Q E hr h => ?_)
  · obtain ⟨lv, v, u, rfl, _⟩ := h
    rfl
  · obtain ⟨lv, v, u, rfl, hl, e1, h⟩ := h
    refine ⟨_, (pss_cons (ps_expr (pe_call (ok_check_both T) (hr.mono (by decide)) rfl T.m_check_both T.F_check_both.kp T.b_check_both .nil (passE (takes_of rfl rfl rfl rfl)) (pa_cons (pv 0) (pa_cons (pv 1) (pa_cons (pv 2) pa_nil))))) (pss_one (ps_ret (pe_call (ok_count_common T) (hr.mono (by decide)) rfl T.m_count_common T.F_count_common.kp T.b_count_common .nil pass0 (pa_cons (pv 1) (pa_cons (pv 2) pa_nil)))))), ?_⟩
    refine ⟨_, rfl, _, rfl, _, rfl, lv, v, u, rfl, hl, e1, fun k ek k1 k4 => ?_⟩
    obtain ⟨b1, hv, f1, h⟩ := h k ek k1 k4
    refine ⟨b1, hv, f1, fun hb1 => ?_⟩
    obtain ⟨b2, hu, f2, q⟩ := h hb1
    refine ⟨b2, hu, f2, fun hb2 H1 s1 => ?_⟩
    subst hb1 hb2
    obtain ⟨a, ha, oa⟩ := spv_w hv
    obtain ⟨b, hb, ob⟩ := spv_w hu
    exact ⟨_, rfl, _, rfl, _, _, a, b, rfl, ha.same s1, hb.same s1, q rfl _ H1 s1⟩
theorem ok_is_end (T : Txt K mg) : FnOk P w K mg base (L2.CX P w) 5 T.a_is_end T.d_is_end ["letters", "one", "other"] (sp_two K T.C_InvalidNumber T.C_InvalidWord) := by
  refine T.F_is_end.okX sc_is_end (fun vs H Q E h => ?_) (fun cdv A outer s H vs Q E hr h => ?_)
  · obtain ⟨lv, v, u, rfl, _⟩ := h
    rfl
  · obtain ⟨lv, v, u, rfl, hl, e1, h⟩ := h
    refine ⟨_, (pss_cons (ps_expr (pe_call (ok_check_both T) (hr.mono (by decide)) rfl T.m_check_both T.F_check_both.kp T.b_check_both .nil (passE (takes_of rfl rfl rfl rfl)) (pa_cons (pv 0) (pa_cons (pv 1) (pa_cons (pv 2) pa_nil))))) (pss_one (ps_ret (pe_cmpR op_eq (pe_call (ok_count_common T) (hr.mono (by decide)) rfl T.m_count_common T.F_count_common.kp T.b_count_common .nil pass0 (pa_cons (pv 1) (pa_cons (pv 2) pa_nil))) (pe_callB call_len_seq rfl T.n_len (by decide +kernel) (pa_cons (pv 1) pa_nil)) (nomark _))))), ?_⟩
    refine ⟨_, rfl, _, rfl, _, rfl, lv, v, u, rfl, hl, e1, fun k ek k1 k4 => ?_⟩
    obtain ⟨b1, hv, f1, h⟩ := h k ek k1 k4
    refine ⟨b1, hv, f1, fun hb1 => ?_⟩
    obtain ⟨b2, hu, f2, q⟩ := h hb1
    refine ⟨b2, hu, f2, fun hb2 H1 s1 => ?_⟩
    subst hb1 hb2
    obtain ⟨a, ha, oa⟩ := spv_w hv
    obtain ⟨b, hb, ob⟩ := spv_w hu
    refine ⟨_, rfl, _, rfl, _, _, a, b, rfl, ha.same s1, hb.same s1, ?_⟩
    obtain ⟨x, rfl, hx⟩ := ha
    exact ⟨_, rfl, x, _, rfl, .inr (Same.sqt s1 hx), rfl, q rfl _ H1 s1⟩
end
end K01
/-! K01c -/
set_option Elab.async false
set_option linter.all false
set_option maxRecDepth 100000
set_option maxHeartbeats 2000000
namespace K01
open PySem PySem.Spec PyProof.Rows L2 PpSet RL LamX
open K00
theorem isW_of {K : PySem.W.Frag} {H : Hp} {a : Addr} {ws : List Int} (h : SqT K H a (ws.map V.int)) : IsW K H (.ref a) ws := ⟨a, rfl, h⟩
def sp__raised (K : PySem.W.Frag) : Sp := fun vs H Q _ => ∃ (k : Int) (v : V) (ws : List Int), vs = [.int k, v] ∧ IsW K H v ws ∧ ws.length ≤ 1000 ∧
  (raised k ws = none → ∀ H', Same H H' → Q .non H') ∧ ∀ r, raised k ws = some r → ∀ H' u, Same H H' → IsW K H' u r → Q u H'
def sp__sizes : Sp := fun vs H Q _ => ∃ (k : Int) (n : Nat), vs = [.int k, .int n] ∧ 1 ≤ k ∧ k ≤ 4 ∧ n ≤ 60 ∧ NewL H Q ((List.range (n + 1)).map fun i => V.int (sz k i))
def sp_word_place (K : PySem.W.Frag) (Cn Cw Co : Addr) : Sp := fun vs H Q E => ∃ lv mv v, vs = [lv, mv, v] ∧ NumV K H lv ∧ (numB lv 1 4 = false → rKept Cn "given" lv E H) ∧
  ∀ k, lv = .int k → 1 ≤ k → k ≤ 4 → NumV K H mv ∧ (numB mv 0 60 = false → rKept Cn "given" mv E H) ∧ ∀ n : Nat, mv = .int n → n ≤ 60 → ∃ b, SpV K H v k 200 b ∧ (b = false → rPlain Cw E H) ∧
    (b = true → ∃ ws, IsW K H v ws ∧ okW k ws ∧ (n < ws.length → rPlain Co E H) ∧ (ws.length ≤ n → ∀ x H', Same H H' → Q x H'))
def sp_word_at (K : PySem.W.Frag) (Cn Co : Addr) : Sp := fun vs H Q E => ∃ lv mv nv, vs = [lv, mv, nv] ∧ NumV K H lv ∧ (numB lv 1 4 = false → rKept Cn "given" lv E H) ∧
  ∀ k, lv = .int k → 1 ≤ k → k ≤ 4 → NumV K H mv ∧ (numB mv 0 60 = false → rKept Cn "given" mv E H) ∧ ∀ n : Nat, mv = .int n → n ≤ 60 → NumV K H nv ∧ (numB nv 0 (10 ^ 60 - 1) = false → rKept Cn "given" nv E H) ∧
    ∀ m, nv = .int m → 0 ≤ m → m ≤ 10 ^ 60 - 1 → (sz k n ≤ m → rPlain Co E H) ∧ (m < sz k n → ∀ x H', Same H H' → Q x H')
theorem raised_drop (k : Int) : ∀ (ws : List Int) (i : Nat), (∀ j x, j < i → ws[j]? = some x → ¬ x < k - 1) → raised k ws = raised k (ws.drop i)
  | ws, 0, _ => rfl
  | [], i + 1, _ => by simp
  | x :: ws, i + 1, h => by
    have h0 := h 0 x (by omega) rfl
    show (if x < k - 1 then _ else raised k ws) = _
    rw [if_neg h0, List.drop_succ_cons]
    exact raised_drop k ws i fun j y hj e => h (j + 1) y (by omega) (by simpa using e)
section
variable {P : Program} {w : World} {K : PySem.W.Frag} {mg : Str → Option Value} {base : Heap}
theorem ok__raised (T : Txt K mg) : FnOk P w K mg base CX0 1 T.a__raised T.d__raised ["letters", "word"] (sp__raised K) := by
  refine T.F__raised.ok sc__raised (fun vs H Q E h => ?_) (fun cdv A outer s H vs Q E hr h => ?_)
  · obtain ⟨k, v, ws, rfl, _⟩ := h
    rfl
  · obtain ⟨k, v, ws, rfl, ⟨a, rfl, ha⟩, hz, q1, q2⟩ := h
    refine ⟨_, (pss_cons (ps_for PassesOwn.never rfl (pi_enumT rfl T.n_enumerate (pa_cons (pv 1) pa_nil)) (pg_tupK (K := K) (n := 2) rfl rfl (pgs_cons (pg_name (i := 2) sc__raised.nd rfl (Or.inl rfl)) (pgs_cons (pg_name (i := 3) sc__raised.nd rfl (Or.inl rfl)) pgs_nil))) (pss_one (ps_if (pt_cmpR op_lt (pv 3) (pe_op op_sub (pv 0) pe_int) (nomark _)) (pss_one (ps_ret (pe_op (op_catK (K := K) rfl) (pe_tupK (K := K) rfl (pa_cons (pe_op op_add (pv 3) pe_int) pa_nil)) (pe_slice sl_tupU (pv 1) (po_some (pe_op op_add (pv 2) pe_int)) po_none)))) pss_nil))) (pss_one (ps_ret pe_non))), ?_⟩
    refine ⟨_, rfl, a, _, rfl, ha, ?_⟩
    refine ⟨fun i m σ H2 => i ≤ ws.length ∧ m = ws.length - i ∧ Same H H2 ∧ (∀ j x, j < i → ws[j]? = some x → ¬ x < k - 1) ∧ ∃ u1 u2, σ = [some (.int k), some (.ref a), u1, u2],
      ⟨_, Nat.zero_le _, rfl, Same.refl H, fun j x hj => absurd hj (Nat.not_lt_zero _), _, _, rfl⟩, ?_⟩
    rintro i m σ H2 ⟨hi, rfl, s2, hno, u1, u2, rfl⟩
    have ha2 := Same.sqt s2 ha
    rcases Nat.lt_or_ge i ws.length with hlt | hge
    · refine .inr ⟨⟨_, .int ws[i], ha2, by rw [List.getElem?_map, List.getElem?_eq_getElem hlt]; rfl⟩, _, fun σ' H' z => z, fun x H3 y => ?_⟩
      obtain ⟨t, x, rfl, ht, rfl, hx⟩ := y
      have ex : x = .int ws[i] := by
        have q := hx _ ha2
        rw [List.getElem?_map, List.getElem?_eq_getElem hlt] at q
        exact (Option.some.inj q).symm
      subst ex
      have s3 : Same H2 (upd H2 t (.tup [.int (i : Nat), .int ws[i]])) := same_upd ht _
      refine ⟨t, _, rfl, SqT.of upd_same, rfl, _, _, rfl, _, _, rfl, rfl, ?_⟩
      refine ⟨_, rfl, _, rfl, _, _, rfl, rfl, _, _, rfl, rfl, _, rfl, ?_⟩
      by_cases c : ws[i] < k - 1
      · refine ifT (decide_eq_true c) ?_
        have er : raised k ws = some ((ws[i] + 1) :: ws.drop (i + 1)) := by
          rw [raised_drop k ws i hno, List.drop_eq_getElem_cons hlt]
          show (if ws[i] < k - 1 then _ else _) = _
          rw [if_pos c]
        refine ⟨_, rfl, _, _, rfl, rfl, by show 1 ≤ sizeLine; decide, fun H4 p s4 hp => ?_⟩
        refine ⟨_, rfl, _, rfl, _, _, rfl, rfl, _, rfl, a, _, rfl, Same.sqt s4 (Same.sqt s3 ha2), fun H5 r s5 hr => ?_⟩
        rw [cut_from ws (by omega)] at hr
        have et : ((i : Int) + 1).toNat = i + 1 := by omega
        rw [et] at hr
        refine ⟨p, r, _, _, rfl, rfl, Same.sqt s5 hp, hr, ?_, fun H6 o s6 ho => ?_⟩
        · rw [List.length_map, List.length_drop]
          exact size200 (by simp; omega)
        · exact q2 _ er H6 _ (Same.trans s2 (Same.trans s3 (Same.trans s4 (Same.trans s5 s6)))) ⟨o, rfl, ho⟩
      · refine ifF (decide_eq_false c) ?_
        refine ⟨ws.length - (i + 1), by omega, hlt, rfl, Same.trans s2 s3, fun j x hj e => ?_, _, _, rfl⟩
        by_cases ej : j = i
        · subst ej
          rw [List.getElem?_eq_getElem hlt] at e
          rw [← Option.some.inj e]
          exact c
        · exact hno j x (by omega) e
    · refine .inl ⟨⟨_, ha2, by rw [List.length_map]; exact hge⟩, ?_⟩
      have er : raised k ws = none := by
        rw [raised_drop k ws i hno, List.drop_eq_nil_of_le hge]
        rfl
      exact q1 er H2 s2
theorem ok__sizes (T : Txt K mg) : FnOk P w K mg base CX0 1 T.a__sizes T.d__sizes ["letters", "length"] sp__sizes := by
  refine T.F__sizes.ok sc__sizes (fun vs H Q E h => ?_) (fun cdv A outer s H vs Q E hr h => ?_)
  · obtain ⟨k, n, rfl, _⟩ := h
    rfl
  · obtain ⟨k, n, rfl, k1, k4, hn, q⟩ := h
    refine ⟨_, (pss_cons (ps_set (i := 2) sc__sizes.nd rfl (Or.inl rfl) (pe_lstS (pa_cons pe_int pa_nil))) (pss_cons (ps_for PassesOwn.never rfl (pi_range1 rfl T.n_range (pa_cons (pv 1) pa_nil)) (pg_name (i := 3) sc__sizes.nd rfl (Or.inl rfl)) (pss_one (ps_expr (pe_bm PySem.F.plainAttrs_list PySem.F.slot_list_append PySem.F.type_list_append mt_append (pv 2) (pa_cons (pe_op op_add (pe_op op_mul (pe_ix ix_list (pv 2) (pe_un un_neg pe_int) (fun _ _ => rfl)) (pv 0)) pe_int) pa_nil))))) (pss_one (ps_ret (pv 2))))), ?_⟩
    refine ⟨by decide, fun H2 p s2 hp0 hp => ?_⟩
    refine ⟨_, rfl, _, rfl, by omega, by omega, ?_⟩
    refine for_range (fun i σ H3 => Same H H3 ∧ H3 p = some (.lst ((List.range (i + 1)).map fun i => V.int (sz k i))) ∧ ∃ u, σ = [some (.int k), some (.int (n : Int)), some (.ref p), u]) ⟨s2, hp, _, rfl⟩ ?_ ?_
    · rintro i σ H3 hi ⟨s3, hp3, u, rfl⟩
      have hi : i < n := by omega
      refine ⟨_, rfl, .inl ⟨rfl, _, SqL.of hp3⟩, ?_⟩
      refine ⟨_, rfl, _, rfl, p, _, _, .int (sz k i), rfl, rfl, SqL.of hp3, ?_, _, rfl, _, _, rfl, rfl, .inr ⟨by omega, by omega⟩, _, _, rfl, rfl, ?_⟩
      · show atI _ (-1) = _
        unfold atI
        have e : ixN (List.map (fun i => V.int (sz k i)) (List.range (i + 1))).length (-1) = some i := by
          rw [List.length_map, List.length_range]
          unfold ixN
          first
            | (rw [if_neg (by omega), if_pos (by omega)]; congr 1; omega)
            | (simp; omega)
        rw [e]
        simp
      · refine ⟨p, _, _, rfl, rfl, hp3, ?_, ?_⟩
        · rw [List.length_map, List.length_range, sizeLine_eq]
          omega
        · refine ⟨same_mut hp0 s3, ?_, _, rfl⟩
          rw [upd_same]
          exact congrArg (fun l => some (HO.lst l)) (range_more (fun i => V.int (sz k i)) (i + 1)).symm
    · rintro σ H3 ⟨s3, hp3, u, rfl⟩
      have e : (n : Int).toNat = n := by omega
      rw [e] at hp3
      exact ⟨_, rfl, q H3 p s3 hp0 hp3⟩
theorem at_sizes {k : Int} {n i : Nat} {z : Int} (hz : z = (i : Int)) (hi : i ≤ n) : atI ((List.range (n + 1)).map fun i => V.int (sz k i)) z = some (.int (sz k i)) := by
  rw [hz]
  refine atI_nat ?_
  rw [List.getElem?_map, List.getElem?_range (by omega)]
  rfl
theorem plc_snoc (k : Int) : ∀ (r : List Int) (n : Nat) (x : Int), plc k n (r ++ [x]) = plc k n r + (1 + x * sz k (n - r.length - 1))
  | [], n, x => by simp [plc]
  | y :: r, n, x => by
    have ih := plc_snoc k r (n - 1) x
    show 1 + y * sz k (n - 1) + plc k (n - 1) (r ++ [x]) = 1 + y * sz k (n - 1) + plc k (n - 1) r + (1 + x * sz k (n - (y :: r).length - 1))
    have e : n - 1 - r.length - 1 = n - (y :: r).length - 1 := by simp only [List.length_cons]; omega
    rw [ih, e]
    omega
theorem ok_word_place (T : Txt K mg) : FnOk P w K mg base (L2.CX P w) 4 T.a_word_place T.d_word_place ["letters", "length", "word"] (sp_word_place K T.C_InvalidNumber T.C_InvalidWord T.C_InvalidOperation) := by
  refine T.F_word_place.okX sc_word_place (fun vs H Q E h => ?_) (fun cdv A outer s H vs Q E hr h => ?_)
  · obtain ⟨lv, mv, v, rfl, _⟩ := h
    rfl
  · obtain ⟨lv, mv, v, rfl, hl, e1, h⟩ := h
    refine ⟨_, (pss_cons (ps_expr (pe_call (ok_check_letters T) (hr.mono (by decide)) rfl T.m_check_letters T.F_check_letters.kp T.b_check_letters .nil (passE (takes_of rfl rfl rfl rfl)) (pa_cons (pv 0) pa_nil))) (pss_cons (ps_expr (pe_call (ok_check_number T) (hr.mono (by decide)) rfl T.m_check_number T.F_check_number.kp T.b_check_number .nil (passE (takes_of rfl rfl rfl rfl)) (pa_cons (pv 1) (pa_cons pe_int (pa_cons (pe_glob (v := .int 60) rfl T.g_MOST_PLACED ⟨_, rfl⟩) pa_nil))))) (pss_cons (ps_expr (pe_call (ok_check_word T) (hr.mono (by decide)) rfl T.m_check_word T.F_check_word.kp T.b_check_word .nil (passE (takes_of rfl rfl rfl rfl)) (pa_cons (pv 0) (pa_cons (pv 2) pa_nil)))) (pss_cons (ps_if (pt_cmpR op_gt (pe_callB call_len_seq rfl T.n_len (by decide +kernel) (pa_cons (pv 2) pa_nil)) (pv 1) (nomark _)) (pss_one (ps_raise rfl (takes_of rfl rfl rfl rfl) (pmk_own PySem.F.excBase_ValueError T.x_InvalidOperation T.mC_InvalidOperation T.k_InvalidOperation (raises_own T.e_InvalidOperation T.t_InvalidOperation) rfl))) pss_nil) (pss_cons (ps_set (i := 3) sc_word_place.nd rfl (Or.inl rfl) (pe_call (ok__sizes T) (hr.mono (by decide)) rfl T.m__sizes T.F__sizes.kp T.b__sizes .nil pass0 (pa_cons (pv 0) (pa_cons (pv 1) pa_nil)))) (pss_cons (ps_set (i := 4) sc_word_place.nd rfl (Or.inl rfl) pe_int) (pss_cons (ps_for (passes_of rfl) rfl (pi_enumT rfl T.n_enumerate (pa_cons (pe_revK (K := K) rfl (pv 2)) pa_nil)) (pg_tupK (K := K) (n := 2) rfl rfl (pgs_cons (pg_name (i := 5) sc_word_place.nd rfl (Or.inl rfl)) (pgs_cons (pg_name (i := 6) sc_word_place.nd rfl (Or.inl rfl)) pgs_nil))) (pss_one (ps_aug (i := 4) sc_word_place.nd rfl (Or.inl rfl) (pe_op op_add pe_int (pe_op op_mul (pv 6) (pe_ix ix_list (pv 3) (pe_op op_sub (pe_op op_sub (pv 1) (pv 5)) pe_int) (fun _ _ => rfl)))) ip_add))) (pss_one (ps_ret (pv 4)))))))))), ?_⟩
    refine ⟨_, rfl, lv, rfl, hl, fun hb => ?_, e1⟩
    obtain ⟨k, rfl, k1, k4⟩ := num_k hb
    obtain ⟨hm, e2, h⟩ := h k rfl k1 k4
    refine ⟨_, rfl, mv, 0, 60, rfl, hm, fun hb2 => ?_, e2⟩
    obtain ⟨n, rfl, n0, n6⟩ := num_k hb2
    obtain ⟨n, rfl⟩ := Int.eq_ofNat_of_zero_le n0
    have hn : n ≤ 60 := by omega
    obtain ⟨b, hv, f1, h⟩ := h n rfl hn
    refine ⟨_, rfl, _, rfl, k, v, b, rfl, hv, fun hb3 H2 s2 => ?_, f1⟩
    obtain ⟨ws, hw, ho, f2, q⟩ := h hb3
    obtain ⟨a, rfl, ha⟩ := hw
    have ha2 := Same.sqt s2 ha
    refine ⟨_, rfl, a, _, rfl, .inr ha2, _, rfl, _, _, rfl, rfl, _, rfl, ?_⟩
    by_cases hl : n < ws.length
    · exact ifT (decide_eq_true (by rw [List.length_map]; omega)) (f2 hl H2 s2)
    refine ifF (decide_eq_false (by rw [List.length_map]; omega)) ?_
    have hl : ws.length ≤ n := by omega
    refine ⟨_, rfl, _, rfl, k, n, rfl, k1, k4, hn, fun H3 p s3 _ hp => ?_⟩
    refine ⟨_, rfl, a, _, rfl, Same.sqt s3 ha2, fun H4 r s4 hr => ?_⟩
    rw [← List.map_reverse] at hr
    have hlr : ws.reverse.length = ws.length := List.length_reverse
    refine ⟨r, _, rfl, hr, ?_⟩
    refine ⟨fun i m σ H5 => i ≤ ws.length ∧ m = ws.length - i ∧ Same H4 H5 ∧ ∃ u1 u2, σ = [some (.int k), some (.int (n : Int)), some (.ref a), some (.ref p), some (.int (plc k n (ws.reverse.take i))), u1, u2],
      ⟨_, Nat.zero_le _, rfl, Same.refl H4, _, _, rfl⟩, ?_⟩
    rintro i m σ H5 ⟨hi, rfl, s5, u1, u2, rfl⟩
    have hr5 := Same.sqt s5 hr
    rcases Nat.lt_or_ge i ws.length with hlt | hge
    · have hlt' : i < ws.reverse.length := by omega
      refine .inr ⟨⟨_, .int ws.reverse[i], hr5, by rw [List.getElem?_map, List.getElem?_eq_getElem hlt']; rfl⟩, _, fun σ' H' z => z, fun x H6 y => ?_⟩
      obtain ⟨t, x, rfl, ht, rfl, hx⟩ := y
      have ex : x = .int ws.reverse[i] := by
        have q := hx _ hr5
        rw [List.getElem?_map, List.getElem?_eq_getElem hlt'] at q
        exact (Option.some.inj q).symm
      subst ex
      have s6 : Same H5 (upd H5 t (.tup [.int (i : Nat), .int ws.reverse[i]])) := same_upd ht _
      have hp6 := s6 _ _ (s5 _ _ (s4 _ _ hp))
      have lz := ho.2 _ (List.mem_reverse.mp (List.getElem_mem hlt'))
      refine ⟨t, _, rfl, SqT.of upd_same, rfl, _, _, rfl, _, _, rfl, rfl, ?_⟩
      refine ⟨_, rfl, _, rfl, _, rfl, ?_⟩
      refine ⟨_, rfl, _, rfl, _, _, rfl, rfl, _, _, rfl, rfl, p, _, _, _, rfl, rfl, SqL.of hp6, at_sizes (i := n - i - 1) (by omega) (by omega), ?_⟩
      refine ⟨_, _, rfl, rfl, .inl ⟨by omega, by omega⟩, _, _, rfl, rfl, _, _, rfl, rfl, ?_⟩
      refine ⟨ws.length - (i + 1), by omega, hlt, rfl, Same.trans s5 s6, some (.int (i : Nat)), some (.int ws.reverse[i]), ?_⟩
      have et : ws.reverse.take (i + 1) = ws.reverse.take i ++ [ws.reverse[i]] := take_more (List.getElem?_eq_getElem hlt')
      have el : n - (ws.reverse.take i).length - 1 = n - i - 1 := by rw [List.length_take]; omega
      rw [et, plc_snoc, el]
      rfl
    · refine .inl ⟨⟨_, hr5, by rw [List.length_map]; omega⟩, ?_⟩
      have e : ws.reverse.take i = ws.reverse := List.take_of_length_le (by omega)
      rw [e]
      exact ⟨_, rfl, q hl _ H5 (Same.trans s2 (Same.trans s3 (Same.trans s4 s5)))⟩
open PySem.Builtin.Int in
theorem bits_le {i : Int} (h0 : 0 ≤ i) (h : i < 2 ^ 200) : Builtin.Int.intBits i ≤ 200 := by
  exact intBits_le_iff.mpr (by omega)
theorem ok_word_at (T : Txt K mg) : FnOk P w K mg base (L2.CX P w) 4 T.a_word_at T.d_word_at ["letters", "length", "number"] (sp_word_at K T.C_InvalidNumber T.C_InvalidOperation) := by
  refine T.F_word_at.okX sc_word_at (fun vs H Q E h => ?_) (fun cdv A outer s H vs Q E hr h => ?_)
  · obtain ⟨lv, mv, nv, rfl, _⟩ := h
    rfl
  · obtain ⟨lv, mv, nv, rfl, hl, e1, h⟩ := h
    refine ⟨_, (pss_cons (ps_expr (pe_call (ok_check_letters T) (hr.mono (by decide)) rfl T.m_check_letters T.F_check_letters.kp T.b_check_letters .nil (passE (takes_of rfl rfl rfl rfl)) (pa_cons (pv 0) pa_nil))) (pss_cons (ps_expr (pe_call (ok_check_number T) (hr.mono (by decide)) rfl T.m_check_number T.F_check_number.kp T.b_check_number .nil (passE (takes_of rfl rfl rfl rfl)) (pa_cons (pv 1) (pa_cons pe_int (pa_cons (pe_glob (v := .int 60) rfl T.g_MOST_PLACED ⟨_, rfl⟩) pa_nil))))) (pss_cons (ps_expr (pe_call (ok_check_count T) (hr.mono (by decide)) rfl T.m_check_count T.F_check_count.kp T.b_check_count .nil (passE (takes_of rfl rfl rfl rfl)) (pa_cons (pv 2) pa_nil))) (pss_cons (ps_set (i := 3) sc_word_at.nd rfl (Or.inl rfl) (pe_call (ok__sizes T) (hr.mono (by decide)) rfl T.m__sizes T.F__sizes.kp T.b__sizes .nil pass0 (pa_cons (pv 0) (pa_cons (pv 1) pa_nil)))) (pss_cons (ps_if (pt_cmpR op_ge (pv 2) (pe_ix ix_list (pv 3) (pv 1) (fun _ _ => rfl)) (nomark _)) (pss_one (ps_raise rfl (takes_of rfl rfl rfl rfl) (pmk_own PySem.F.excBase_ValueError T.x_InvalidOperation T.mC_InvalidOperation T.k_InvalidOperation (raises_own T.e_InvalidOperation T.t_InvalidOperation) rfl))) pss_nil) (pss_cons (ps_set (i := 4) sc_word_at.nd rfl (Or.inl rfl) (pe_tupK (K := K) rfl pa_nil)) (pss_cons (ps_set (i := 5) sc_word_at.nd rfl (Or.inl rfl) (pv 2)) (pss_cons (ps_while (passes_of rfl) (pt_cmpR op_gt (pv 5) pe_int (nomark _)) (pss_cons (ps_asg (pe_callB call_divmodS rfl T.n_divmod (by decide +kernel) (pa_cons (pe_op op_sub (pv 5) pe_int) (pa_cons (pe_ix ix_list (pv 3) (pe_op op_sub (pe_op op_sub (pv 1) (pe_callB call_len_seq rfl T.n_len (by decide +kernel) (pa_cons (pv 4) pa_nil))) pe_int) (fun _ _ => rfl)) pa_nil))) (pg_tupK (K := K) (n := 2) rfl rfl (pgs_cons (pg_name (i := 6) sc_word_at.nd rfl (Or.inl rfl)) (pgs_cons (pg_name (i := 5) sc_word_at.nd rfl (Or.inl rfl)) pgs_nil)))) (pss_one (ps_set (i := 4) sc_word_at.nd rfl (Or.inl rfl) (pe_op (op_catK (K := K) rfl) (pe_tupK (K := K) rfl (pa_cons (pv 6) pa_nil)) (pv 4)))))) (pss_one (ps_ret (pv 4))))))))))), ?_⟩
    refine ⟨_, rfl, lv, rfl, hl, fun hb => ?_, e1⟩
    obtain ⟨k, rfl, k1, k4⟩ := num_k hb
    obtain ⟨hm, e2, h⟩ := h k rfl k1 k4
    refine ⟨_, rfl, mv, 0, 60, rfl, hm, fun hb2 => ?_, e2⟩
    obtain ⟨n, rfl, n0, n6⟩ := num_k hb2
    obtain ⟨n, rfl⟩ := Int.eq_ofNat_of_zero_le n0
    have hn : n ≤ 60 := by omega
    obtain ⟨hnv, e3, h⟩ := h n rfl hn
    have big := sz_most k1 k4 hn
    refine ⟨_, rfl, nv, rfl, hnv, fun hb3 => ?_, e3⟩
    obtain ⟨m, rfl, m0, m9⟩ := num_k hb3
    obtain ⟨f1, q⟩ := h m rfl m0 m9
    refine ⟨_, rfl, _, rfl, k, n, rfl, k1, k4, hn, fun H3 p s3 _ hp => ?_⟩
    refine ⟨_, rfl, _, rfl, _, rfl, p, _, _, _, rfl, rfl, SqL.of hp, at_sizes (i := n) rfl (Nat.le_refl _), _, _, rfl, rfl, _, rfl, ?_⟩
    by_cases m1 : m < sz k n
    rotate_left
    · exact ifT (decide_eq_true (by omega)) (f1 (by omega) H3 s3)
    refine ifF (decide_eq_false (by omega)) ?_
    refine ⟨Nat.zero_le _, fun H4 a s4 ha => ?_⟩
    refine ⟨_, rfl, ?_⟩
    refine ⟨fun μ σ H5 => Same H4 H5 ∧ ∃ (ws : List Int) (left : Int) (b : Addr) (u : Option V), SqT K H5 b (ws.map V.int) ∧ ws.length ≤ n ∧ 0 ≤ left ∧ left < sz k (n - ws.length) ∧ μ = left.toNat ∧ wat k n m = ws.reverse ++ wat k (n - ws.length) left ∧
        σ = [some (.int k), some (.int (n : Int)), some (.int m), some (.ref p), some (.ref b), some (.int left), u],
      ⟨_, Same.refl H4, [], m, a, none, ha, Nat.zero_le _, m0, m1, rfl, rfl, rfl⟩, ?_⟩
    rintro μ σ H5 ⟨s5, ws, left, b, u, hb, hl, l0, l1, rfl, hw, rfl⟩
    refine ⟨_, rfl, _, _, rfl, rfl, _, rfl, ?_⟩
    by_cases c : left > 0
    · refine ifT (decide_eq_true c) ⟨_, fun σ' H' z => z, ?_⟩
      obtain ⟨j, hj⟩ : ∃ j, n - ws.length = j + 1 := by
        cases e : n - ws.length with
        | zero =>
          rw [e] at l1
          simp only [sz] at l1
          omega
        | succ j => exact ⟨j, rfl⟩
      rw [hj] at l1 hw
      have p1 := sz_pos k1 j
      have bj := sz_most k1 k4 (n := j) (by omega)
      have bj1 := sz_most k1 k4 (n := j + 1) (by omega)
      have hp5 := s5 _ _ (s4 _ _ hp)
      have ew : wat k (j + 1) left = ((left - 1) / sz k j) :: wat k j ((left - 1) % sz k j) := by
        show (if left = 0 then _ else _) = _
        rw [if_neg (by omega)]
      refine ⟨_, rfl, _, _, rfl, rfl, _, rfl, _, rfl, _, rfl, b, _, rfl, .inr hb, _, _, rfl, rfl, _, _, rfl, rfl, p, _, _, _, rfl, rfl, SqL.of hp5, at_sizes (i := j) (by rw [List.length_map]; omega) (by omega), ?_⟩
      refine ⟨_, _, rfl, divp_ok (by omega) (Nat.le_trans (bits_le (by omega) (by omega)) (by omega)), fun H6 t s6 ht => ?_⟩
      refine ⟨t, _, rfl, ht, rfl, _, _, rfl, _, _, rfl, rfl, ?_⟩
      refine ⟨_, rfl, by show 1 ≤ sizeLine; decide, fun H7 o s7 ho => ?_⟩
      refine ⟨_, rfl, o, b, _, _, rfl, rfl, ho, Same.sqt s7 (Same.sqt s6 hb), ?_, fun H8 d s8 hd => ?_⟩
      · rw [List.length_map]
        exact size200 (by simp; omega)
      · have r0 : 0 ≤ (left - 1) % sz k j := Int.emod_nonneg _ (by omega)
        have r1 : (left - 1) % sz k j < sz k j := Int.emod_lt_of_pos _ (by omega)
        have r2 : (left - 1) % sz k j ≤ left - 1 := by
          have e1 := Int.mul_ediv_add_emod (left - 1) (sz k j)
          have e2 : 0 ≤ sz k j * ((left - 1) / sz k j) := Int.mul_nonneg (by omega) (Int.ediv_nonneg (by omega) (by omega))
          omega
        have en : n - (((left - 1) / sz k j) :: ws).length = j := by simp only [List.length_cons]; omega
        refine ⟨((left - 1) % sz k j).toNat, by omega, Same.trans s5 (Same.trans s6 (Same.trans s7 s8)), ((left - 1) / sz k j) :: ws, (left - 1) % sz k j, d, some (.int ((left - 1) / sz k j)), hd, by simp only [List.length_cons]; omega, r0, by rw [en]; exact r1, rfl, ?_, rfl⟩
        rw [hw, en, ew, List.reverse_cons, List.append_assoc]
        rfl
    · refine ifF (decide_eq_false c) ?_
      have e0 : left = 0 := by omega
      have ew : wat k (n - ws.length) left = [] := by
        rw [e0]
        cases n - ws.length with
        | zero => rfl
        | succ j => show (if (0 : Int) = 0 then _ else _) = _; rw [if_pos rfl]
      refine ⟨_, rfl, q m1 _ H5 (Same.trans s3 (Same.trans s4 s5))⟩
end
end K01
/-! K01d -/
set_option Elab.async false
set_option linter.all false
set_option maxRecDepth 100000
set_option maxHeartbeats 2000000
namespace K01
open PySem PySem.Spec PyProof.Rows L2 PpSet RL LamX
open K00
/-- rows of ints stand at the values -/
inductive IsWs (K : PySem.W.Frag) (H : Hp) : List V → List (List Int) → Prop
  | nil : IsWs K H [] []
  | cons {v : V} {k : List Int} {vs : List V} {ks : List (List Int)} : IsW K H v k → IsWs K H vs ks → IsWs K H (v :: vs) (k :: ks)
theorem IsWs.same {K : PySem.W.Frag} {H H' : Hp} (e : Same H H') : ∀ {vs ks}, IsWs K H vs ks → IsWs K H' vs ks
  | _, _, .nil => .nil
  | _, _, .cons h t => .cons (h.same e) (IsWs.same e t)
theorem IsWs.snoc {K : PySem.W.Frag} {H : Hp} {v : V} {k : List Int} (h : IsW K H v k) : ∀ {vs ks}, IsWs K H vs ks → IsWs K H (vs ++ [v]) (ks ++ [k])
  | _, _, .nil => .cons h .nil
  | _, _, .cons q t => .cons q (IsWs.snoc h t)
theorem IsWs.length {K : PySem.W.Frag} {H : Hp} : ∀ {vs ks}, IsWs K H vs ks → vs.length = ks.length
  | _, _, .nil => rfl
  | _, _, .cons _ t => congrArg (· + 1) (IsWs.length t)
theorem IsWs.at {K : PySem.W.Frag} {H : Hp} : ∀ {vs ks} {i : Nat} {v : V}, IsWs K H vs ks → vs[i]? = some v → ∃ k, ks[i]? = some k ∧ IsW K H v k
  | _, _, i, v, .nil, e => by simp at e
  | _, _, 0, v, .cons h _, e => by
    cases Option.some.inj e
    exact ⟨_, rfl, h⟩
  | _, _, i + 1, v, .cons _ t, e => by
    obtain ⟨k, e1, h⟩ := IsWs.at (i := i) t (by simpa using e)
    exact ⟨k, by simpa using e1, h⟩
theorem IsWs.get {K : PySem.W.Frag} {H : Hp} : ∀ {vs ks} {i : Nat} {k : List Int}, IsWs K H vs ks → ks[i]? = some k → ∃ v, vs[i]? = some v ∧ IsW K H v k
  | _, _, i, k, .nil, e => by simp at e
  | _, _, 0, k, .cons h _, e => by
    cases Option.some.inj e
    exact ⟨_, rfl, h⟩
  | _, _, i + 1, k, .cons _ t, e => by
    obtain ⟨v, e1, h⟩ := IsWs.get (i := i) t (by simpa using e)
    exact ⟨v, by simpa using e1, h⟩
def sp_gen (K : PySem.W.Frag) (Cn : Addr) : SpG := fun vs H Q E => ∃ lv mv, vs = [lv, mv] ∧ NumV K H lv ∧ (numB lv 1 4 = false → rKept Cn "given" lv E H) ∧
  ∀ k, lv = .int k → 1 ≤ k → k ≤ 4 → NumV K H mv ∧ (numB mv 0 8 = false → rKept Cn "given" mv E H) ∧ ∀ n : Nat, mv = .int n → n ≤ 8 → (k, n) ∈ combos ∧ ∀ ys H', Same H H' → Q ys H'
section
variable {P : Program} {w : World} {K : PySem.W.Frag} {mg : Str → Option Value} {base : Heap}
theorem zero_word (n : Nat) : (List.replicate n ([.int 0] : List V)).flatten = (List.replicate n (0 : Int)).map V.int := by
  induction n with
  | zero => rfl
  | succ n ih => rw [List.replicate_succ, List.flatten_cons, ih, List.replicate_succ, List.map_cons] <;> rfl
theorem ok_words_of (T : Txt K mg) : GFn P w K mg base 5 T.a_words_of T.d_words_of ["letters", "length"] (sp_gen K T.C_InvalidNumber) := by
  refine fun_gen T.F_words_of sc_words_of (fun vs H Q E h => ?_) fun cdv A outer s H vs Q E pn hr h => ?_
  · obtain ⟨lv, mv, rfl, _⟩ := h
    rfl
  · obtain ⟨lv, mv, rfl, hl, e1, h⟩ := h
    refine ⟨_, gss_cons (gs_ps (ps_expr (pe_call (ok_check_letters T) (hr.mono (by decide)) rfl T.m_check_letters T.F_check_letters.kp T.b_check_letters .nil (passE takes_gcx) (pa_cons (pv 0) pa_nil))))
      (gss_cons (gs_ps (ps_expr (pe_call (ok_check_number T) (hr.mono (by decide)) rfl T.m_check_number T.F_check_number.kp T.b_check_number .nil (passE takes_gcx) (pa_cons (pv 1) (pa_cons pe_int (pa_cons (pe_glob (v := .int 8) rfl T.g_MOST_LISTED ⟨_, rfl⟩) pa_nil))))))
      (gss_cons (gs_ps (ps_set (i := 2) sc_words_of.nd rfl (Or.inl rfl) (pe_op op_repS (pe_tupS (pa_cons pe_int pa_nil)) (pv 1))))
      (gss_cons (gs_while owns_gcx (pt_cmp (pc_notN (pv 2))) (gss_cons (gs_yield (pv 2))
        (gss_pss (pss_cons (ps_set (i := 3) sc_words_of.nd rfl (Or.inl rfl) (pe_call (ok__raised T) (hr.mono (by decide)) rfl T.m__raised T.F__raised.kp T.b__raised .nil pass0 (pa_cons (pv 0) (pa_cons (pv 2) pa_nil))))
          (pss_one (ps_set (i := 2) sc_words_of.nd rfl (Or.inl rfl) (pe_ifExp (pt_cmp (pc_isN (pv 3))) pe_non (pe_op op_catS (pe_op op_repS (pe_tupS (pa_cons pe_int pa_nil)) (pe_op op_sub (pv 1) (pe_callB call_len_seq rfl T.n_len (by decide +kernel) (pa_cons (pv 3) pa_nil)))) (pv 3)))))))))
        gss_nil))), ?_⟩
    refine ⟨_, rfl, lv, rfl, hl, fun hb => ?_, e1⟩
    obtain ⟨k, rfl, k1, k4⟩ := num_k hb
    obtain ⟨hm, e2, h⟩ := h k rfl k1 k4
    refine ⟨_, rfl, mv, 0, 8, rfl, hm, fun hb2 => ?_, e2⟩
    obtain ⟨n, rfl, n0, n8⟩ := num_k hb2
    obtain ⟨n, rfl⟩ := Int.eq_ofNat_of_zero_le n0
    obtain ⟨hc, q⟩ := h n rfl (by omega)
    have n8 : n ≤ 8 := by omega
    have ok := of_ok hc
    refine ⟨by show 1 ≤ sizeLine; decide, fun H2 p s2 hp => ⟨_, rfl, p, _, _, rfl, rfl, hp, by omega, by omega, by show 1 ≤ 1000; decide, fun H3 a s3 ha => ?_⟩⟩
    have et : (n : Int).toNat = n := by omega
    rw [et, zero_word] at ha
    refine ⟨fun m ys σ H4 => Same H3 H4 ∧ ∃ (i : Nat) (v : V) (u : Option V), i ≤ (wdOf k n).length ∧ m = (wdOf k n).length - i ∧ IsWs K H4 ys ((wdOf k n).take i) ∧ ((i = (wdOf k n).length ∧ v = .non) ∨ ∃ ws, (wdOf k n)[i]? = some ws ∧ IsW K H4 v ws) ∧
      σ = [some (.int k), some (.int (n : Int)), some v, u], ⟨_, Same.refl H3, 0, .ref a, none, Nat.zero_le _, rfl, .nil, .inr ⟨_, ok.first, a, rfl, ha⟩, rfl⟩, ?_⟩
    rintro m ys σ H4 ⟨s4, i, v, u, hi, rfl, hys, hv, rfl⟩
    rcases hv with ⟨rfl, rfl⟩ | ⟨ws, ew, hw⟩
    · refine ⟨_, rfl, _, rfl, ifF rfl ?_⟩
      rw [List.take_length] at hys
      exact q ys H4 (Same.trans s2 (Same.trans s3 s4))
    · have hlt : i < (wdOf k n).length := (List.getElem?_eq_some_iff.mp ew).1
      obtain ⟨x, rfl, hx⟩ := id hw
      have okw := ok.okw ws (List.mem_of_getElem? ew)
      have hl := ok.len
      refine ⟨_, rfl, _, rfl, ifT rfl ⟨_, fun ys' σ' H' z => z, ?_⟩⟩
      have hlen := hys.length
      rw [List.length_take] at hlen
      refine ⟨by rw [sizeLine_eq]; omega, _, rfl, ?_⟩
      have hys2 : IsWs K H4 (ys ++ [.ref x]) ((wdOf k n).take (i + 1)) := by
        rw [take_more ew]
        exact hys.snoc hw
      have nx := ok.next i ws ew
      refine ⟨_, rfl, _, rfl, k, _, ws, rfl, hw, by omega, fun er H5 s5 => ?_, fun r er H5 v5 s5 hv5 => ?_⟩
      · have en : (wdOf k n)[i + 1]? = none := by rw [← nx]; simp [nextOf, er]
        have ei : i + 1 = (wdOf k n).length := by
          have := List.getElem?_eq_none_iff.mp en
          omega
        refine ⟨_, rfl, _, rfl, ifT rfl ?_⟩
        exact ⟨(wdOf k n).length - (i + 1), by omega, Same.trans s4 s5, i + 1, .non, some .non, by omega, rfl, hys2.same s5, .inl ⟨ei, rfl⟩, rfl⟩
      · have en : (wdOf k n)[i + 1]? = some (List.replicate (n - r.length) 0 ++ r) := by rw [← nx]; simp [nextOf, er]
        have hi1 : i + 1 < (wdOf k n).length := (List.getElem?_eq_some_iff.mp en).1
        have okr := (ok.okw _ (List.mem_of_getElem? en)).1
        obtain ⟨y, rfl, hy⟩ := id hv5
        have hr1 : r.length ≤ n := by
          rw [List.length_append] at okr
          omega
        refine ⟨_, rfl, _, rfl, ifF rfl ?_⟩
        refine ⟨by show 1 ≤ sizeLine; decide, fun H6 o s6 ho => ?_⟩
        refine ⟨_, rfl, _, rfl, y, _, rfl, .inr (Same.sqt s6 hy), _, _, rfl, rfl, o, _, _, rfl, rfl, ho, by rw [List.length_map]; omega, by rw [List.length_map]; omega, by show 1 ≤ 1000; decide, fun H7 d s7 hd => ?_⟩
        have e7 : ((n : Int) - ((r.map V.int).length : Int)).toNat = n - r.length := by rw [List.length_map]; omega
        rw [e7, zero_word] at hd
        refine ⟨_, rfl, d, y, _, _, rfl, rfl, hd, Same.sqt s7 (Same.sqt s6 hy), by rw [List.length_map, List.length_map, List.length_replicate]; exact size200 (by omega), fun H8 c s8 hc8 => ?_⟩
        rw [← List.map_append] at hc8
        have sAll := Same.trans s5 (Same.trans s6 (Same.trans s7 s8))
        exact ⟨(wdOf k n).length - (i + 1), by omega, Same.trans s4 sAll, i + 1, .ref c, some (.ref y), by omega, rfl, hys2.same sAll, .inr ⟨_, en, c, rfl, hc8⟩, rfl⟩
theorem ok_words_to (T : Txt K mg) : GFn P w K mg base 5 T.a_words_to T.d_words_to ["letters", "length"] (sp_gen K T.C_InvalidNumber) := by
  refine fun_gen T.F_words_to sc_words_to (fun vs H Q E h => ?_) fun cdv A outer s H vs Q E pn hr h => ?_
  · obtain ⟨lv, mv, rfl, _⟩ := h
    rfl
  · obtain ⟨lv, mv, rfl, hl, e1, h⟩ := h
    refine ⟨_, gss_cons (gs_ps (ps_expr (pe_call (ok_check_letters T) (hr.mono (by decide)) rfl T.m_check_letters T.F_check_letters.kp T.b_check_letters .nil (passE takes_gcx) (pa_cons (pv 0) pa_nil))))
      (gss_cons (gs_ps (ps_expr (pe_call (ok_check_number T) (hr.mono (by decide)) rfl T.m_check_number T.F_check_number.kp T.b_check_number .nil (passE takes_gcx) (pa_cons (pv 1) (pa_cons pe_int (pa_cons (pe_glob (v := .int 8) rfl T.g_MOST_LISTED ⟨_, rfl⟩) pa_nil))))))
      (gss_cons (gs_ps (ps_set (i := 2) sc_words_to.nd rfl (Or.inl rfl) (pe_tupS pa_nil)))
      (gss_cons (gs_while owns_gcx (pt_cmp (pc_notN (pv 2))) (gss_cons (gs_yield (pv 2))
        (gss_pss (pss_one (ps_set (i := 2) sc_words_to.nd rfl (Or.inl rfl) (pe_ifExp (pt_cmpR op_lt (pe_callB call_len_seq rfl T.n_len (by decide +kernel) (pa_cons (pv 2) pa_nil)) (pv 1) (nomark _))
          (pe_op op_catS (pe_tupS (pa_cons pe_int pa_nil)) (pv 2)) (pe_call (ok__raised T) (hr.mono (by decide)) rfl T.m__raised T.F__raised.kp T.b__raised .nil pass0 (pa_cons (pv 0) (pa_cons (pv 2) pa_nil)))))))))
        gss_nil))), ?_⟩
    refine ⟨_, rfl, lv, rfl, hl, fun hb => ?_, e1⟩
    obtain ⟨k, rfl, k1, k4⟩ := num_k hb
    obtain ⟨hm, e2, h⟩ := h k rfl k1 k4
    refine ⟨_, rfl, mv, 0, 8, rfl, hm, fun hb2 => ?_, e2⟩
    obtain ⟨n, rfl, n0, n8⟩ := num_k hb2
    obtain ⟨n, rfl⟩ := Int.eq_ofNat_of_zero_le n0
    obtain ⟨hc, q⟩ := h n rfl (by omega)
    have n8 : n ≤ 8 := by omega
    have ok := to_ok hc
    refine ⟨Nat.zero_le _, fun H3 a s3 ha => ?_⟩
    refine ⟨fun m ys σ H4 => Same H3 H4 ∧ ∃ (i : Nat) (v : V), i ≤ (wdTo k n).length ∧ m = (wdTo k n).length - i ∧ IsWs K H4 ys ((wdTo k n).take i) ∧ ((i = (wdTo k n).length ∧ v = .non) ∨ ∃ ws, (wdTo k n)[i]? = some ws ∧ IsW K H4 v ws) ∧
      σ = [some (.int k), some (.int (n : Int)), some v], ⟨_, Same.refl H3, 0, .ref a, Nat.zero_le _, rfl, .nil, .inr ⟨_, ok.first, a, rfl, ha⟩, rfl⟩, ?_⟩
    rintro m ys σ H4 ⟨s4, i, v, hi, rfl, hys, hv, rfl⟩
    rcases hv with ⟨rfl, rfl⟩ | ⟨ws, ew, hw⟩
    · refine ⟨_, rfl, _, rfl, ifF rfl ?_⟩
      rw [List.take_length] at hys
      exact q ys H4 (Same.trans s3 s4)
    · have hlt : i < (wdTo k n).length := (List.getElem?_eq_some_iff.mp ew).1
      obtain ⟨x, rfl, hx⟩ := id hw
      have okw := ok.okw ws (List.mem_of_getElem? ew)
      have hl := ok.len
      refine ⟨_, rfl, _, rfl, ifT rfl ⟨_, fun ys' σ' H' z => z, ?_⟩⟩
      have hlen := hys.length
      rw [List.length_take] at hlen
      refine ⟨by rw [sizeLine_eq]; omega, _, rfl, ?_⟩
      have hys2 : IsWs K H4 (ys ++ [.ref x]) ((wdTo k n).take (i + 1)) := by
        rw [take_more ew]
        exact hys.snoc hw
      have nx := ok.next i ws ew
      refine ⟨_, rfl, _, _, rfl, .inr hx, _, rfl, _, _, rfl, rfl, _, rfl, ?_⟩
      by_cases c : ws.length < n
      · refine ifT (decide_eq_true (by rw [List.length_map]; omega)) ?_
        have en : (wdTo k n)[i + 1]? = some (0 :: ws) := by rw [← nx]; simp [nextTo, c]
        have hi1 : i + 1 < (wdTo k n).length := (List.getElem?_eq_some_iff.mp en).1
        refine ⟨by show 1 ≤ sizeLine; decide, fun H6 o s6 ho => ?_⟩
        refine ⟨_, rfl, o, x, _, _, rfl, rfl, ho, Same.sqt s6 hx, ?_, fun H8 d s8 hd => ?_⟩
        · rw [List.length_map]
          exact size200 (by simp; omega)
        · have sAll := Same.trans s6 s8
          exact ⟨(wdTo k n).length - (i + 1), by omega, Same.trans s4 sAll, i + 1, .ref d, by omega, rfl, hys2.same sAll, .inr ⟨_, en, d, rfl, hd⟩, rfl⟩
      · refine ifF (decide_eq_false (by rw [List.length_map]; omega)) ?_
        refine ⟨_, rfl, _, rfl, k, _, ws, rfl, hw, by omega, fun er H5 s5 => ?_, fun r er H5 v5 s5 hv5 => ?_⟩
        · have en : (wdTo k n)[i + 1]? = none := by rw [← nx]; simp [nextTo, c, er]
          have ei : i + 1 = (wdTo k n).length := by
            have := List.getElem?_eq_none_iff.mp en
            omega
          exact ⟨(wdTo k n).length - (i + 1), by omega, Same.trans s4 s5, i + 1, .non, by omega, rfl, hys2.same s5, .inl ⟨ei, rfl⟩, rfl⟩
        · have en : (wdTo k n)[i + 1]? = some r := by rw [← nx]; simp [nextTo, c, er]
          have hi1 : i + 1 < (wdTo k n).length := (List.getElem?_eq_some_iff.mp en).1
          exact ⟨(wdTo k n).length - (i + 1), by omega, Same.trans s4 s5, i + 1, v5, by omega, rfl, hys2.same s5, .inr ⟨_, en, hv5⟩, rfl⟩
end
end K01
/-! K01e -/
set_option Elab.async false
set_option linter.all false
set_option maxRecDepth 100000
set_option maxHeartbeats 2000000
namespace K01
open PySem PySem.Spec PyProof.Rows L2 PpSet RL LamX
open K00

/-- each of the values is spelled, or not -/
inductive Sps (K : PySem.W.Frag) (H : Hp) (k : Int) : List V → List Bool → Prop
  | nil : Sps K H k [] []
  | cons {x : V} {b : Bool} {xs : List V} {bs : List Bool} : SpV K H x k 200 b → Sps K H k xs bs → Sps K H k (x :: xs) (b :: bs)
theorem Sps.at {K : PySem.W.Frag} {H : Hp} {k : Int} : ∀ {xs bs} {i : Nat} {x : V}, Sps K H k xs bs → xs[i]? = some x → ∃ b, bs[i]? = some b ∧ SpV K H x k 200 b
  | _, _, i, x, .nil, e => by simp at e
  | _, _, 0, x, .cons h _, e => by
    cases Option.some.inj e
    exact ⟨_, rfl, h⟩
  | _, _, i + 1, x, .cons _ t, e => by
    obtain ⟨b, e1, h⟩ := Sps.at (i := i) t (by simpa using e)
    exact ⟨b, by simpa using e1, h⟩
theorem Sps.len {K : PySem.W.Frag} {H : Hp} {k : Int} : ∀ {xs bs}, Sps K H k xs bs → xs.length = bs.length
  | _, _, .nil => rfl
  | _, _, .cons _ t => congrArg (· + 1) t.len
theorem Sps.ext {K : PySem.W.Frag} {H H' : Hp} {k : Int} (s : ExtN H H') : ∀ {xs bs}, Sps K H k xs bs → Sps K H' k xs bs
  | _, _, .nil => .nil
  | _, _, .cons h t => .cons (h.ext s) (t.ext s)
theorem words_one {K : PySem.W.Frag} {H : Hp} {w0 : List Int} : ∀ {xs : List V}, (∀ x ∈ xs, IsW K H x w0) → ∃ wss, IsWs K H xs wss ∧ ∀ ws ∈ wss, ws = w0
  | [], _ => ⟨[], .nil, fun ws h => by cases h⟩
  | x :: xs, h => by
    obtain ⟨wss, h1, h2⟩ := words_one fun y hy => h y (.tail _ hy)
    exact ⟨w0 :: wss, .cons (h x List.mem_cons_self) h1, fun z hz => (List.mem_cons.mp hz).elim id (h2 z)⟩
theorem nodup_one {w : List Int} : ∀ {l : List (List Int)}, l.Nodup → (∀ r ∈ l, r = w) → l.length ≤ 1
  | [], _, _ => by simp
  | [_], _, _ => by simp
  | a :: b :: l, n, h => by
    have e1 := h a List.mem_cons_self
    have e2 := h b (.tail _ List.mem_cons_self)
    rw [e1, e2] at n
    exact absurd List.mem_cons_self (List.nodup_cons.mp n).1
def sp_in_order (K : PySem.W.Frag) : Sp := fun vs H Q _ => ∃ (a : Addr) (xs : List V) (w0 : List Int), vs = [.ref a] ∧ SqT K H a xs ∧ xs.length ≤ 200 ∧ (∀ x ∈ xs, IsW K H x w0) ∧ ∀ x H', Same H H' → Q x H'
def sp_sorted_words (K : PySem.W.Frag) (Cn Cw : Addr) : Sp := fun vs H Q E => ∃ lv v, vs = [lv, v] ∧ NumV K H lv ∧ (numB lv 1 4 = false → rKept Cn "given" lv E H) ∧
  ∀ k, lv = .int k → 1 ≤ k → k ≤ 4 → ((∃ t, TyX K H v t ∧ PySem.W.kitOne K t (.type "tuple") = some false) ∧ rPlain Cw E H) ∨
    ∃ a xs, v = .ref a ∧ SqT K H a xs ∧ (200 < xs.length → rPlain Cw E H) ∧ (xs.length ≤ 200 → ∃ bs, Sps K H k xs bs ∧ (false ∈ bs → rPlain Cw E H) ∧ ((∀ b ∈ bs, b = true) → ∃ w0, (∀ x ∈ xs, IsW K H x w0) ∧ ∀ x H', Same H H' → Q x H'))
theorem IsWs.stay {K : PySem.W.Frag} {H H' : Hp} (e : Stay H H') : ∀ {vs ks}, IsWs K H vs ks → IsWs K H' vs ks
  | _, _, .nil => .nil
  | _, _, .cons h t => .cons (IsW.stay e h) (IsWs.stay e t)
theorem lt_at {α : Type} {l : List α} {i : Nat} {x : α} (h : l[i]? = some x) : i < l.length := (List.getElem?_eq_some_iff.mp h).1
section
variable {P : Program} {w : World} {K : PySem.W.Frag} {mg : Str → Option Value} {base : Heap}
theorem ok_in_order (T : Txt K mg) : FnOk P w K mg base CX0 1 T.a_in_order T.d_in_order ["words"] (sp_in_order K) := by
  refine T.F_in_order.ok sc_in_order (fun vs H Q E h => ?_) (fun cdv A outer s H vs Q E hr h => ?_)
  · obtain ⟨a, xs, w0, rfl, _⟩ := h
    rfl
  · obtain ⟨a, xs, w0, rfl, hx2, hz, hw0, q⟩ := h
    refine ⟨_, (pss_cons (ps_set (i := 1) sc_in_order.nd rfl (Or.inl rfl) (pe_callB (cr_sortedU rfl (Nat.lt_of_le_of_lt (Nat.add_le_add_left (by decide : 8 ≤ 64) _) hr.units)) rfl T.n_sorted (by decide +kernel) (pa_cons (pe_scT (own := [("word", 2)]) rfl (Nat.lt_of_le_of_lt (Nat.add_le_add_left (by decide : 3 ≤ 64) _) hr.units) sc_in_order.nd (pi_tup (pv 0)) (blkOk_by (own := [("word", 2)]) (N := ["words", "backwards", "word"]) (sc := defScope s_in_order) (by decide +kernel)) (fun _ _ _ _ _ => (pg_name (i := 2) sc_in_order.nd rfl (Or.inl rfl))) (fun _ _ _ _ _ => pts_nil) (fun _ _ _ _ _ => (pe_revK (K := K) rfl (pv 2)))) pa_nil))) (pss_one (ps_ret (pe_callTy call_tupS rfl T.n_tuple (by decide +kernel) (pa_cons (pe_lc (own := [("word", 2)]) rfl sc_in_order.nd (pi_list (pv 1)) (blkOk_by (own := [("word", 2)]) (N := ["words", "backwards", "word"]) (sc := defScope s_in_order) (by decide +kernel)) (fun _ _ _ _ _ => (pg_name (i := 2) sc_in_order.nd rfl (Or.inl rfl))) (fun _ _ _ _ _ => pts_nil) (fun _ _ _ _ _ => (pe_revK (K := K) rfl (pv 2)))) pa_nil))))), ?_⟩
    obtain ⟨wss, hw2, hone⟩ := words_one hw0
    have hlen := hw2.length
    -- the set of the words, read from the end
    refine ⟨_, rfl, a, rfl, ⟨_, hx2⟩, fun D hD => sc_tupT (xs := xs) (fun i H3 => Same H H3 ∧ ∃ L, SetTs K P w H3 D L ∧ L.length ≤ i ∧ (L.map (·.2)).Nodup ∧ ∀ r, r ∈ L.map (·.2) ↔ r ∈ (wss.take i).map List.reverse)
      ⟨same_upd hD _, [], ⟨upd_same, fun p hp => by cases hp⟩, Nat.le_refl _, List.nodup_nil, fun r => by simp⟩ (fun i H3 _ p => Same.sqt p.1 hx2) ?_ ?_⟩
    · rintro i x H3 hi ⟨s3, L, hL, hz3, hn, hm⟩
      obtain ⟨ws, ew, hws⟩ := hw2.at hi
      obtain ⟨b, rfl, hb⟩ := hws
      have l1 : L.length ≤ 1 := by
        rw [← List.length_map (f := (·.2))]
        refine nodup_one (w := w0.reverse) hn fun r hr => ?_
        obtain ⟨z, hz, e⟩ := List.mem_map.mp ((hm r).mp hr)
        rw [← e, hone z (List.mem_of_mem_take hz)]
      refine ⟨wipe_one _ _ _, ?_⟩
      dsimp only [tYes]
      rw [if_pos rfl]
      refine ⟨_, rfl, b, _, rfl, Same.sqt s3 hb, fun H4 c s4 hc => ⟨c, ws.reverse, L, rfl, ⟨s4 _ _ hL.1, fun p hp => Same.sqt s4 (hL.2 p hp)⟩, by rw [List.map_reverse]; exact hc, by have := l1; omega, fun L' h1 h2 => ?_⟩⟩
      have hD4 := s4 _ _ hL.1
      have hst : Stay H4 (upd H4 D (SetTO P w D L')) := stay_set hD4
      have hmm : ∀ r, r ∈ (wss.take (i + 1)).map List.reverse ↔ r = ws.reverse ∨ r ∈ (wss.take i).map List.reverse := fun r => by
        rw [take_more ew, List.map_append, List.mem_append]
        simp [or_comm]
      refine ⟨same_mut hD (Same.trans s3 s4), L', ⟨upd_same, fun p hp => ?_⟩, ?_⟩
      · by_cases hk : ws.reverse ∈ L.map (·.2)
        · have e := h1 hk
          subst e
          exact hst.sqt (Same.sqt s4 (hL.2 p hp))
        · rcases List.mem_cons.mp ((h2 hk).mem_iff.mp hp) with e | e
          · subst e
            exact hst.sqt (by rw [List.map_reverse]; exact hc)
          · exact hst.sqt (Same.sqt s4 (hL.2 p e))
      · by_cases hk : ws.reverse ∈ L.map (·.2)
        · have e := h1 hk
          subst e
          refine ⟨by omega, hn, fun r => ?_⟩
          rw [hmm, ← hm]
          exact ⟨.inr, fun z => z.elim (fun z => z ▸ hk) id⟩
        · have pm := h2 hk
          have pk := pm.map (·.2)
          refine ⟨by rw [pm.length_eq]; exact Nat.succ_le_succ hz3, pk.nodup_iff.mpr (List.nodup_cons.mpr ⟨hk, hn⟩), fun r => ?_⟩
          rw [hmm, ← hm, pk.mem_iff]
          exact List.mem_cons
    · rintro H3 ⟨s3, L, hL, hz3, hn, hm⟩
      refine ⟨D, L, rfl, hL, fun L1 p1 n1 H4 p s4 hp4 hp => ?_⟩
      -- the words, turned again
      generalize ho : L1.mergeSort (PySem.W.dataLe false fun q => dTup q.2) = L2 at hp
      have pm : L2.Perm L := (ho ▸ List.mergeSort_perm _ _).trans p1
      have hr2 : (L2.map (·.2)).Pairwise (· < ·) := ho ▸ sorted_rise (fun q : Addr × List Int => q.2) L1 n1
      refine ⟨_, rfl, p, rfl, ⟨_, SqL.of hp⟩, lc_lstA (i := 2) (fun q : Addr × List Int => V.ref q.1) (fun H x y => IsW K H y x.2.reverse) (fun H H' x y e r => r.stay e) (SqL.of hp) (by rw [sizeLine_eq]; have := pm.length_eq; omega) (fun x hm2 H5 Q5 s5 q5 => ?_) fun H5 p5 ys s5 _ hp5 e => ?_⟩
      · refine ⟨_, rfl, x.1, _, rfl, Same.sqt (Same.trans s4 s5) (hL.2 x (pm.mem_iff.mp hm2)), fun H6 c s6 hc => q5 H6 (.ref c) s6 ⟨c, rfl, ?_⟩⟩
        rw [List.map_reverse]
        exact hc
      · refine ⟨p5, ys, rfl, .inl (SqL.of hp5), fun H6 p6 s6 hp6 => ?_⟩
        exact q _ H6 (Same.trans s3 (Same.trans s4 (Same.trans s5 s6)))
theorem ok_sorted_words (T : Txt K mg) : FnOk P w K mg base (L2.CX P w) 4 T.a_sorted_words T.d_sorted_words ["letters", "words"] (sp_sorted_words K T.C_InvalidNumber T.C_InvalidWord) := by
  refine T.F_sorted_words.okX sc_sorted_words (fun vs H Q E h => ?_) (fun cdv A outer s H vs Q E hr h => ?_)
  · obtain ⟨lv, v, rfl, _⟩ := h
    rfl
  · obtain ⟨lv, v, rfl, hl, e1, h⟩ := h
    refine ⟨_, (pss_cons (ps_expr (pe_call (ok_check_letters T) (hr.mono (by decide)) rfl T.m_check_letters T.F_check_letters.kp T.b_check_letters .nil (passE (takes_of rfl rfl rfl rfl)) (pa_cons (pv 0) pa_nil))) (pss_cons (ps_if (PW.pt (pw_or (pt_not (pt_val (pe_callB (call_isiK (K := K) rfl) rfl T.n_isinstance (by decide +kernel) (pa_cons (pv 1) (pa_cons (pe_bltn (v := .ty "tuple") (u := .type "tuple") rfl T.n_tuple (by decide +kernel) rfl) pa_nil))))) (pw_or1 (pt_cmpR op_gt (pe_callB call_len_seq rfl T.n_len (by decide +kernel) (pa_cons (pv 1) pa_nil)) (pe_glob (v := .int 200) rfl T.g_MOST_SORTED ⟨_, rfl⟩) (nomark _))))) (pss_one (ps_raise rfl (takes_of rfl rfl rfl rfl) (pmk_own PySem.F.excBase_ValueError T.x_InvalidWord T.mC_InvalidWord T.k_InvalidWord (raises_own T.e_InvalidWord T.t_InvalidWord) rfl))) pss_nil) (pss_cons (ps_for (passes_of rfl) rfl (pi_tup (pv 1)) (pg_name (i := 2) sc_sorted_words.nd rfl (Or.inl rfl)) (pss_one (ps_expr (pe_call (ok_check_word T) (hr.mono (by decide)) rfl T.m_check_word T.F_check_word.kp T.b_check_word .nil (passE (takes_of rfl rfl rfl rfl)) (pa_cons (pv 0) (pa_cons (pv 2) pa_nil)))))) (pss_one (ps_ret (pe_call (ok_in_order T) (hr.mono (by decide)) rfl T.m_in_order T.F_in_order.kp T.b_in_order .nil pass0 (pa_cons (pv 1) pa_nil))))))), ?_⟩
    refine ⟨_, rfl, lv, rfl, hl, fun hb => ?_, e1⟩
    obtain ⟨k, rfl, k1, k4⟩ := num_k hb
    rcases h k rfl k1 k4 with ⟨⟨t, ht, hk⟩, f⟩ | ⟨a, xs, rfl, hx, f1, h⟩
    · exact ⟨_, rfl, _, _, _, _, false, rfl, .ty _, ht, hk, _, rfl, iteT (iteT (f H (Same.refl H)))⟩
    refine ⟨_, rfl, _, _, _, _, true, rfl, .ty _, tyx_sqt hx, kit_ty (by decide +kernel), _, rfl, iteF ?_⟩
    refine ⟨_, rfl, _, _, rfl, .inr hx, _, _, rfl, rfl, _, rfl, ?_⟩
    by_cases c : 200 < xs.length
    · exact ifT (decide_eq_true (by omega)) (f1 c H (Same.refl H))
    refine ifF (decide_eq_false (by omega)) ?_
    obtain ⟨bs, hsp, f2, q⟩ := h (by omega)
    have hz : xs.length ≤ 200 := by omega
    -- each of the words is looked at
    refine ⟨_, rfl, a, rfl, ⟨_, hx⟩, for_tup (xs := xs) (fun i σ H2 => Same H H2 ∧ (∀ j b, j < i → bs[j]? = some b → b = true) ∧ ∃ u1, σ = [some (.int k), some (.ref a), u1]) ⟨Same.refl H, fun j b hj => absurd hj (Nat.not_lt_zero _), _, rfl⟩ (fun i σ H2 _ p => Same.sqt p.1 hx) ?_ ?_⟩
    · rintro i x σ H2 hi ⟨s2, hpre, u1, rfl⟩
      obtain ⟨b, eb, hbx⟩ := hsp.at hi
      refine ⟨_, rfl, _, rfl, k, x, b, rfl, hbx.ext (Same.ext s2), fun hb H3 s3 => ⟨Same.trans s2 s3, fun j b' hj e => ?_, _, rfl⟩, fun hb => ?_⟩
      · by_cases ej : j = i
        · subst ej
          rw [eb] at e
          rw [← Option.some.inj e]
          exact hb
        · exact hpre j b' (by omega) e
      · subst hb
        exact (f2 (List.mem_of_getElem? eb)).same s2
    rintro σ H2 ⟨s2, hpre, u1, rfl⟩
    have hlb := hsp.len
    have hall : ∀ x ∈ bs, x = true := fun x hx0 => by
      rcases (List.mem_iff_getElem?.mp hx0) with ⟨i, hi⟩
      exact hpre i x (by have := lt_at hi; omega) hi
    obtain ⟨w0, hw0, q⟩ := q hall
    exact ⟨_, rfl, a, xs, w0, rfl, Same.sqt s2 hx, hz, fun x hx => (hw0 x hx).same s2, fun x H' s => q x H' (Same.trans s2 s)⟩
end
end K01
/-! K01f -/
set_option Elab.async false
set_option linter.all false
set_option maxRecDepth 100000
set_option maxHeartbeats 2000000
namespace K01
open PySem PySem.Spec PyProof.Rows L2 PpSet RL LamX
/-- the bag: three whole numbers -/
def Bag (b : Addr) (H : Hp) : Prop := ∃ x y z : Int, H b = some (.lst [.int x, .int y, .int z])
/-- all but the bag stands -/
def Kp (b : Addr) (H H' : Hp) : Prop := Bag b H' ∧ ∀ a u, a ≠ b → H a = some u → H' a = some u
theorem Kp.refl {b : Addr} {H : Hp} (h : Bag b H) : Kp b H H := ⟨h, fun _ _ _ z => z⟩
theorem Kp.trans {b : Addr} {H H1 H2 : Hp} (h : Kp b H H1) (k : Kp b H1 H2) : Kp b H H2 := ⟨k.1, fun a u n z => k.2 a u n (h.2 a u n z)⟩
theorem Bag.same {b : Addr} {H H' : Hp} (h : Bag b H) (s : Same H H') : Bag b H' := let ⟨x, y, z, e⟩ := h; ⟨x, y, z, s _ _ e⟩
theorem Kp.of {b : Addr} {H H' : Hp} (h : Bag b H) (s : Same H H') : Kp b H H' := ⟨h.same s, fun a u _ z => s a u z⟩
theorem Kp.more {b : Addr} {H H1 H2 : Hp} (h : Kp b H H1) (s : Same H1 H2) : Kp b H H2 := h.trans (Kp.of h.1 s)
theorem Kp.stay {b : Addr} {H H' : Hp} (h : Bag b H) (k : Kp b H H') : Stay H H' := by
  obtain ⟨x, y, z, e⟩ := h
  exact ⟨fun a xs q => k.2 a _ (fun c => by subst c; rw [e] at q; cases q) q, fun a o u q => k.2 a _ (fun c => by subst c; rw [e] at q; cases q) q⟩
theorem Bag.upd {b D : Addr} {H : Hp} {o : HO} (h : Bag b H) (n : D ≠ b) : Bag b (upd H D o) := by
  obtain ⟨x, y, z, e⟩ := h
  exact ⟨x, y, z, by rw [upd_ne (Ne.symm n)]; exact e⟩
theorem Kp.mut {b D : Addr} {H H' : Hp} {o : HO} (hD : H D = none) (n : D ≠ b) (k : Kp b H H') : Kp b H (upd H' D o) :=
  ⟨k.1.upd n, fun a u na z => by rw [upd_ne (fun c => by subst c; rw [hD] at z; cases z)]; exact k.2 a u na z⟩
theorem Kp.set {b : Addr} {H : Hp} {x y z : Int} : Kp b H (upd H b (.lst [.int x, .int y, .int z])) := ⟨⟨x, y, z, upd_same⟩, fun a u n e => by rw [upd_ne n]; exact e⟩
theorem ne_bag {b p : Addr} {H : Hp} (h : Bag b H) (hp : H p = none) : p ≠ b := fun e => by
  obtain ⟨x, y, z, q⟩ := h
  rw [← e, hp] at q
  cases q
/-- [e for _ in range(n)], e draws from the bag -/
theorem lc_rngB {te : TE} {σ : L2.St} {H1 : Hp} {i : Nat} {b : Addr} {Qd : Addr → Hp → Prop} {lo : Int} {n : Nat} (R : Hp → V → Prop) (mono : ∀ H H' y, Stay H H' → R H y → R H' y) (hb : Bag b H1) (hz : n < sizeLine)
    (el : ∀ j, j < n → ∀ (H : Hp) (Q : VK), Kp b H1 H → (∀ H' y, Kp b H H' → R H' y → Q y H') → te ((wipe σ [i]).set i (some (.int (lo + j)))) H Q)
    (fin : ∀ H' p ys, Kp b H1 H' → H1 p = none → H' p = some (.lst ys) → ys.length = n → (∀ y ∈ ys, R H' y) → Qd p H') :
    ∀ D, H1 D = none → ∃ W : Nat → Nat → Hp → Prop, (∃ m, W 0 m (upd H1 D (.lst []))) ∧ ∀ j m H, W j m H →
      ((Itr lo n).stop j H ∧ Qd D H) ∨ ((Itr lo n).go j H ∧ ∃ Nx : Hp → Prop, (∀ H', Nx H' → ∃ m', m' < m ∧ W (j + 1) m' H') ∧ ∀ x H', (Itr lo n).yld j H x H' → gName i x (wipe σ [i]) H' fun σ2 H2 => wipe σ2 [i] = wipe σ [i] ∧ tYes σ2 H2 fun b H3 =>
        if b = true then te σ2 H3 fun y H4 => ∃ acc, H4 D = some (.lst acc) ∧ acc.length < sizeLine ∧ Nx (upd H4 D (.lst (acc ++ [y]))) else Nx H3) := by
  intro D hD
  have nD := ne_bag hb hD
  refine lc_range (Qd := fun H => Qd D H) (fun j H => j ≤ n ∧ Kp b H1 H ∧ ∃ ys, H D = some (.lst ys) ∧ ys.length = j ∧ ∀ y ∈ ys, R H y) ⟨Nat.zero_le _, Kp.of hb (same_upd hD _), [], upd_same, rfl, fun y hy => by cases hy⟩ (fun j H hj p => ?_) fun H p => ?_
  · obtain ⟨_, s, ys, hys, hl, e⟩ := p
    refine ⟨wipe_one _ _ _, ?_⟩
    dsimp only [tYes]
    rw [if_pos rfl]
    refine el j hj H _ s fun H' y s2 r => ?_
    have h := s2.2 _ _ nD hys
    have st := stay_lst (o' := .lst (ys ++ [y])) h
    refine ⟨ys, h, by omega, hj, (Kp.trans s s2).mut hD nD, _, upd_same, by simp [hl], fun z hz => ?_⟩
    rcases List.mem_append.mp hz with hz | hz
    · exact mono _ _ _ (Stay.trans (Kp.stay s.1 s2) st) (e z hz)
    · rw [List.mem_singleton.mp hz]
      exact mono _ _ _ st r
  · obtain ⟨_, s, ys, hys, hl, e⟩ := p
    exact fin H D ys s hD hys hl e
theorem ints_of {ys : List V} {P : Int → Prop} (h : ∀ y ∈ ys, ∃ r, y = .int r ∧ P r) : ∃ ws : List Int, ys = ws.map V.int ∧ ∀ x ∈ ws, P x := by
  induction ys with
  | nil => exact ⟨[], rfl, fun x hx => by cases hx⟩
  | cons y ys ih =>
    obtain ⟨ws, rfl, hw⟩ := ih fun z hz => h z (List.mem_cons_of_mem _ hz)
    obtain ⟨r, rfl, hr⟩ := h y List.mem_cons_self
    exact ⟨r :: ws, rfl, fun x hx => (List.mem_cons.mp hx).elim (fun e => e ▸ hr) (hw x)⟩
def sp__law_bag (K : PySem.W.Frag) : Sp := fun vs H Q _ => ∃ (a : Addr) (xs : List Int) (j : Nat), vs = [.ref a, .int j] ∧ SqL K H a (xs.map V.int) ∧ j < 1000 ∧ ∀ H' p, Same H H' → Bag p H' → H p = none → Q (.ref p) H'
def sp__law_grab : Sp := fun vs H Q _ => ∃ (b : Addr) (n : Int), vs = [.ref b, .int n] ∧ Bag b H ∧ 0 < n ∧ n < 2 ^ 64 ∧ ∀ H' r, Kp b H H' → 0 ≤ r → r < n → Q (.int r) H'
def sp__law_one_of : Sp := fun vs H Q _ => ∃ (b a : Addr) (xs : List V), vs = [.ref b, .ref a] ∧ Bag b H ∧ a ≠ b ∧ H a = some (.lst xs) ∧ 0 < xs.length ∧ xs.length < 1000 ∧ ∀ H' v, Kp b H H' → v ∈ xs → Q v H'
section
variable {P : Program} {w : World} {K : PySem.W.Frag} {mg : Str → Option Value} {base : Heap}
theorem ok__law_bag (T : Txt K mg) : FnOk P w K mg base CX0 1 T.a__law_bag T.d__law_bag ["script", "spot"] (sp__law_bag K) := by
  refine T.F__law_bag.ok sc__law_bag (fun vs H Q E h => ?_) (fun cdv A outer s H vs Q E hr h => ?_)
  · obtain ⟨a, xs, j, rfl, _⟩ := h
    rfl
  · obtain ⟨a, xs, j, rfl, hx, hj, q⟩ := h
    refine ⟨_, (pss_cons (ps_set (i := 2) sc__law_bag.nd rfl (Or.inl rfl) (pe_ifExp (pt_cmpR op_lt (pv 1) (pe_callB call_len_seq rfl T.n_len (by decide +kernel) (pa_cons (pv 0) pa_nil)) (nomark _)) (pe_ix ix_list (pv 0) (pv 1) (fun _ _ => rfl)) (pe_op op_add (pe_op op_mul pe_int (pv 1)) pe_int))) (pss_cons (ps_set (i := 3) sc__law_bag.nd rfl (Or.inl rfl) (pe_op op_mod (pe_callTy call_int1 rfl T.n_int (by decide +kernel) (pa_cons (pe_callB call_abs rfl T.n_abs (by decide +kernel) (pa_cons (pv 2) pa_nil)) pa_nil)) (pe_op op_mulW (pe_op op_pow pe_int pe_int) (pe_op op_pow pe_int pe_int)))) (pss_cons (ps_set (i := 4) sc__law_bag.nd rfl (Or.inl rfl) (pe_op op_add (pe_op op_add (pe_op op_add (pe_op op_mul (pe_op op_mod (pv 3) pe_int) pe_int) (pe_op op_mul pe_int (pv 1))) (pe_op op_mul pe_int (pe_callTy call_int1 rfl T.n_int (by decide +kernel) (pa_cons (pe_cmpR op_lt (pv 2) pe_int (nomark _)) pa_nil)))) pe_int)) (pss_one (ps_ret (pe_lstS (pa_cons (pe_callB (call_max2 rfl) rfl T.n_max (by decide +kernel) (pa_cons pe_int (pa_cons (pe_op op_sub (pv 3) (pe_op op_pow pe_int pe_int)) pa_nil))) (pa_cons (pe_op op_mod (pe_callTy call_int1 rfl T.n_int (by decide +kernel) (pa_cons (pv 4) pa_nil)) pe_int) (pa_cons pe_int pa_nil))))))))), ?_⟩
    have pw : ∀ n : Nat, n ≤ 60 → CPow 10 n := fun n hn => ⟨by omega, by omega, by decide⟩
    refine ⟨_, rfl, _, rfl, _, _, rfl, .inl hx, _, _, rfl, rfl, _, rfl, ?_⟩
    by_cases c : j < xs.length
    · refine ifT (decide_eq_true (by rw [List.length_map]; omega)) ⟨_, rfl, _, rfl, a, _, _, _, rfl, rfl, hx, at_int (by omega) (by rw [Int.toNat_natCast]; exact List.getElem?_eq_getElem c), ?_⟩
      refine ⟨_, rfl, _, rfl, .inl ⟨_, rfl, _, _, rfl, rfl, pw _ (by decide), _, _, rfl, rfl, pw _ (by decide), _, _, rfl, rfl, (by show _ < 1000000; decide +kernel), _, _, rfl, rfl, (by show (0 : Int) < _; decide +kernel), ?_⟩⟩
      refine ⟨_, rfl, _, _, rfl, rfl, (by show (0 : Int) < _; decide), _, _, rfl, rfl, .inr (by decide), _, rfl, _, _, rfl, rfl, .inl (by decide), _, _, rfl, rfl, ?_⟩
      refine ⟨_, rfl, _, _, rfl, rfl, .inr ⟨_, rfl, _, _, rfl, rfl, .inl (by decide), _, _, rfl, rfl, _, _, rfl, rfl, ?_⟩⟩
      refine ⟨_, rfl, _, _, rfl, rfl, pw _ (by decide), _, _, rfl, rfl, _, _, rfl, ?_⟩
      refine ⟨_, rfl, .inl ⟨_, rfl, _, _, rfl, rfl, (by show (0 : Int) < _; decide), (by show 3 ≤ sizeLine; decide), fun H2 p s2 hp h2 => q H2 p s2 ⟨_, _, _, h2⟩ hp⟩⟩
    · refine ifF (decide_eq_false (by rw [List.length_map]; omega)) ?_
      refine ⟨_, rfl, _, _, rfl, rfl, .inl (by decide), _, _, rfl, rfl, ?_⟩
      refine ⟨_, rfl, _, rfl, .inl ⟨_, rfl, _, _, rfl, rfl, pw _ (by decide), _, _, rfl, rfl, pw _ (by decide), _, _, rfl, rfl, (by show _ < 1000000; decide +kernel), _, _, rfl, rfl, (by show (0 : Int) < _; decide +kernel), ?_⟩⟩
      refine ⟨_, rfl, _, _, rfl, rfl, (by show (0 : Int) < _; decide), _, _, rfl, rfl, .inr (by decide), _, rfl, _, _, rfl, rfl, .inl (by decide), _, _, rfl, rfl, ?_⟩
      refine ⟨_, rfl, _, _, rfl, rfl, .inr ⟨_, rfl, _, _, rfl, rfl, .inl (by decide), _, _, rfl, rfl, _, _, rfl, rfl, ?_⟩⟩
      refine ⟨_, rfl, _, _, rfl, rfl, pw _ (by decide), _, _, rfl, rfl, _, _, rfl, ?_⟩
      refine ⟨_, rfl, .inl ⟨_, rfl, _, _, rfl, rfl, (by show (0 : Int) < _; decide), (by show 3 ≤ sizeLine; decide), fun H2 p s2 hp h2 => q H2 p s2 ⟨_, _, _, h2⟩ hp⟩⟩
theorem ok__law_grab (T : Txt K mg) : FnOk P w K mg base CX0 1 T.a__law_grab T.d__law_grab ["bag", "total"] sp__law_grab := by
  refine T.F__law_grab.ok sc__law_grab (fun vs H Q E h => ?_) (fun cdv A outer s H vs Q E hr h => ?_)
  · obtain ⟨b, n, rfl, _⟩ := h
    rfl
  · obtain ⟨b, n, rfl, ⟨x, y, z, hb⟩, h0, h1, q⟩ := h
    refine ⟨_, (pss_cons (ps_if (pt_cmpR op_gt (pe_ix ix_list (pv 0) pe_int (fun _ _ => rfl)) pe_int (nomark _)) (pss_cons (ps_set (i := 2) sc__law_grab.nd rfl (Or.inl rfl) (pe_op op_mod (pe_callTy call_int1 rfl T.n_int (by decide +kernel) (pa_cons (pe_ix ix_list (pv 0) pe_int (fun _ _ => rfl)) pa_nil)) (pv 1))) (pss_cons (ps_asg (pe_op op_fdivW (pe_ix ix_list (pv 0) pe_int (fun _ _ => rfl)) (pv 1)) (pg_sub (pv 0) pe_int set_list)) (pss_one (ps_ret (pv 2))))) pss_nil) (pss_cons (ps_asg (pe_op op_add (pe_ix ix_list (pv 0) pe_int (fun _ _ => rfl)) pe_int) (pg_sub (pv 0) pe_int set_list)) (pss_cons (ps_set (i := 3) sc__law_grab.nd rfl (Or.inl rfl) (pe_op op_mod (pe_callTy call_int1 rfl T.n_int (by decide +kernel) (pa_cons (pe_op op_add (pe_ix ix_list (pv 0) pe_int (fun _ _ => rfl)) (pe_op op_mul pe_int (pe_ix ix_list (pv 0) pe_int (fun _ _ => rfl)))) pa_nil)) pe_int)) (pss_cons (ps_set (i := 4) sc__law_grab.nd rfl (Or.inl rfl) (pe_op op_add (pe_op op_mul (pe_op op_mod (pe_callTy call_int1 rfl T.n_int (by decide +kernel) (pa_cons (pe_op op_add (pe_op op_mul (pv 3) (pv 3)) (pe_op op_mul pe_int (pe_ix ix_list (pv 0) pe_int (fun _ _ => rfl)))) pa_nil)) pe_int) pe_int) (pv 3))) (pss_one (ps_ret (pe_op op_mod (pe_callTy call_int1 rfl T.n_int (by decide +kernel) (pa_cons (pe_op op_fdivW (pv 4) pe_int) pa_nil)) (pv 1)))))))), ?_⟩
    have hl := SqL.of (K := K) hb
    refine ⟨_, rfl, b, _, _, _, rfl, rfl, hl, rfl, _, _, rfl, rfl, _, rfl, ?_⟩
    by_cases c : x > 0
    · refine ifT (decide_eq_true c) ?_
      refine ⟨_, rfl, b, _, _, _, rfl, rfl, hl, rfl, .inl ⟨_, rfl, _, rfl, _, _, rfl, rfl, h0, ?_⟩⟩
      refine ⟨_, rfl, b, _, _, _, rfl, rfl, hl, rfl, _, rfl, _, _, rfl, rfl, wide_div (b := 64) h0 (by omega) (by decide) (by decide), ?_⟩
      refine ⟨_, rfl, b, _, _, _, rfl, rfl, hb, rfl, _, rfl, ?_⟩
      exact q _ _ Kp.set (Int.emod_nonneg _ (by omega)) (Int.emod_lt_of_pos _ h0)
    · refine ifF (decide_eq_false c) ?_
      refine ⟨_, rfl, b, _, _, _, rfl, rfl, hl, rfl, _, _, rfl, rfl, ?_⟩
      refine ⟨_, rfl, b, _, _, _, rfl, rfl, hb, rfl, ?_⟩
      have hl2 : SqL K (upd H b (.lst [.int x, .int y, .int (z + 1)])) b [.int x, .int y, .int (z + 1)] := SqL.of upd_same
      refine ⟨_, rfl, b, _, _, _, rfl, rfl, hl2, rfl, _, rfl, b, _, _, _, rfl, rfl, hl2, rfl, _, _, rfl, rfl, .inl (by decide), _, _, rfl, rfl, .inl ⟨_, rfl, _, _, rfl, rfl, (by show (0 : Int) < _; decide), ?_⟩⟩
      generalize ho : (y + 67867967 * (z + 1)) % 2305843009213693951 = one
      have o0 : 0 ≤ one := ho ▸ Int.emod_nonneg _ (by decide)
      have o1 : one < 2305843009213693951 := ho ▸ Int.emod_lt_of_pos _ (by decide)
      refine ⟨_, rfl, _, rfl, _, _, rfl, rfl, .inl (by omega), _, rfl, b, _, _, _, rfl, rfl, hl2, rfl, _, _, rfl, rfl, .inl (by decide), _, _, rfl, rfl, .inl ⟨_, rfl, _, _, rfl, rfl, (by show (0 : Int) < _; decide), ?_⟩⟩
      refine ⟨_, _, rfl, rfl, .inr (by decide), _, rfl, _, _, rfl, rfl, ?_⟩
      refine ⟨_, rfl, _, _, rfl, rfl, wide_div (b := 64) (by decide) (by decide) (by decide) (by decide), .inl ⟨_, rfl, _, rfl, _, _, rfl, rfl, h0, ?_⟩⟩
      exact q _ _ Kp.set (Int.emod_nonneg _ (by omega)) (Int.emod_lt_of_pos _ h0)
theorem ok__law_one_of (T : Txt K mg) : FnOk P w K mg base CX0 2 T.a__law_one_of T.d__law_one_of ["bag", "items"] sp__law_one_of := by
  refine T.F__law_one_of.ok sc__law_one_of (fun vs H Q E h => ?_) (fun cdv A outer s H vs Q E hr h => ?_)
  · obtain ⟨b, a, xs, rfl, _⟩ := h
    rfl
  · obtain ⟨b, a, xs, rfl, hb, hne, ha, z0, z1, q⟩ := h
    refine ⟨_, (pss_one (ps_ret (pe_ix ix_list (pv 1) (pe_call (ok__law_grab T) (hr.mono (by decide)) rfl T.m__law_grab T.F__law_grab.kp T.b__law_grab .nil pass0 (pa_cons (pv 0) (pa_cons (pe_callB call_len_seq rfl T.n_len (by decide +kernel) (pa_cons (pv 1) pa_nil)) pa_nil))) (fun _ _ => rfl)))), ?_⟩
    refine ⟨_, rfl, _, rfl, _, rfl, _, _, rfl, .inl (SqL.of ha), b, _, rfl, hb, by omega, by omega, fun H2 r k2 r0 r1 => ?_⟩
    obtain ⟨v, hv⟩ : ∃ v, xs[r.toNat]? = some v := ⟨_, List.getElem?_eq_getElem (by omega)⟩
    refine ⟨a, _, _, v, rfl, rfl, SqL.of (k2.2 _ _ hne ha), at_v r0 hv, q H2 v k2 (List.mem_of_getElem? hv)⟩
end
end K01
/-! K01g -/
set_option Elab.async false
set_option linter.all false
set_option maxRecDepth 100000
set_option maxHeartbeats 2000000
namespace K01
open PySem PySem.Spec PyProof.Rows L2 PpSet RL LamX
open K00
/-- what the law's def makes of an error -/
def Met {K : PySem.W.Frag} {mg : Str → Option Value} (T : Txt K mg) (Q : VK) : XK := fun cls d H =>
  (cls = .ref T.C_InvalidWord ∧ Got K Q H ["refused", "word"]) ∨
  (cls = .ref T.C_InvalidOperation ∧ Got K Q H ["refused", "operation"]) ∨
  (cls = .ref T.C_InvalidNumber ∧ ∃ dd v z, d = some dd ∧ H dd = some (.xd [("given", v)]) ∧ Dp K H v z ∧ Shows z ∧ Got K Q H ["refused", "number", z.shown])
abbrev TTm {K : PySem.W.Frag} {mg : Str → Option Value} (T : Txt K mg) : (XK → Hp → VK → Prop) → Hp → VK → Prop := fun tl H Q => tl (Met T Q) H fun _ H' => 1 ≤ sizeLine ∧ Got K Q H' ["let"]
theorem takes_len {X : Cx} {W : WX} {n : Nat} (h : X.N.length = n) (tk : Takes X W) : Takes X (fun cls d σ H => σ.length = n → W cls d σ H) :=
  fun u s' ⟨a, B, sI, pins, σ, H, cls, d, e, I, nb, up, sky, na, os, ag, w⟩ => tk u s' ⟨a, B, sI, pins, σ, H, cls, d, e, I, nb, up, sky, na, os, ag, w (I.len.trans h)⟩
theorem set1 {α : Type} {l : List α} (x : α) (h : l.length = 2) : (l.set 1 x)[1]? = some x := by rw [List.getElem?_set_self (by omega)]
theorem two_fits : 2 ≤ sizeLine := by rw [sizeLine_eq]; omega
theorem met_gives {X : Cx} {K : PySem.W.Frag} {mg : Str → Option Value} (T : Txt K mg) (hK : X.K = K) (hM : X.mg = mg) {q : Str} (hg : X.A.guards = some []) {kk : Nat} (hr : Room kk X.A) (cdg : Value) : GivesTo X ["call", "error"] "_law_fault" (defScope s__law_fault) T.a__law_fault cdg (defBody s__law_fault) "call" q (TTm T) := by
  subst hK
  subst hM
  intro f c' s H Q tl act hc h
  have hu : X.A.units + 67 < cLine := by have := hr.un; omega
  refine ⟨_, pss_cons (ps_try_cl (X := (cxOf C8.CX0 X.prog X.w X.K X.mg X.base ["call", "error"] "_law_fault" (defScope s__law_fault) T.a__law_fault cdg X.A X.stack s H C8.E0).nox)
      (tb := fun W D σ H => ∃ Ech : XK, (∀ cls d σ' H', Ech cls d H' → σ'.length = 2 → W cls d σ' H') ∧ σ[0]? = some (some (.ref f)) ∧ H c' = some (CodeO c' q) ∧ tl Ech H fun _ H' => D.nx σ H')
      rfl rfl sc__law_fault.nd LamX.takes0 (fun W pn xe tk _ => ?_)
      (.only ⟨rfl, by decide, .inl T.mC_InvalidWord⟩ (fun a oe cls d pn hz hf => pss_one (ps_ret (pe_tupK (K := X.K) (by rfl) (pa_cons pe_str (pa_cons pe_str pa_nil)))))
      (.only ⟨rfl, by decide, .inl T.mC_InvalidOperation⟩ (fun a oe cls d pn hz hf => pss_one (ps_ret (pe_tupK (K := X.K) (by rfl) (pa_cons pe_str (pa_cons pe_str pa_nil)))))
      (.named (i := 1) ⟨rfl, by decide, .inl T.mC_InvalidNumber⟩ rfl rfl (fun a oe cls d pn hz hf => pss_one (ps_ret (pe_tupK (K := X.K) (by rfl) (pa_cons pe_str (pa_cons pe_str (pa_cons
        (pe_callB (r := rReprD X.K) (call_reprD (X := (cxOf C8.CX0 X.prog X.w X.K X.mg X.base ["call", "error"] "_law_fault" (defScope s__law_fault) T.a__law_fault cdg X.A X.stack s H C8.E0).nox.suite a ((a, oe) :: pn)) hg hu) rfl T.n_repr (by decide +kernel) (pa_cons (pe_xf T.xf_InvalidNumber T.kp_InvalidNumber.noN hz hf (pv 1)) pa_nil)) pa_nil)))))) .nil))))
      (pss_one (ps_ret (pe_tupK (K := X.K) (by rfl) (pa_cons pe_str pa_nil)))), ?_⟩
  · refine ⟨fun pins s' σ H' D I h' => ?_⟩
    obtain ⟨Ech, hW, h1, h2, h3⟩ := h'
    exact (pss_one (ps_expr (act (fun cls d σ H => σ.length = 2 → W cls d σ H) pn xe Ech _ _ (takes_len rfl tk) hW))).run pins s' σ H' D I ⟨h1, h2, h3⟩
  · refine ⟨Met T Q, fun cls d σ H1 hm hl => ?_, rfl, hc, ?_⟩
    · rcases hm with ⟨rfl, g⟩ | ⟨rfl, g⟩ | ⟨rfl, dd, v, z, rfl, hd, hz, hs, g⟩
      · exact ⟨true, T.em_InvalidWord_InvalidWord, fun _ a ha => ⟨two_fits, fun H2 p s2 hp => g H2 p s2 hp⟩, fun y => by cases y⟩
      · refine ⟨false, T.em_InvalidOperation_InvalidWord, fun y => (by cases y), fun _ => ?_⟩
        exact ⟨true, T.em_InvalidOperation_InvalidOperation, fun _ a ha => ⟨two_fits, fun H2 p s2 hp => g H2 p s2 hp⟩, fun y => by cases y⟩
      · refine ⟨false, T.em_InvalidNumber_InvalidWord, fun y => (by cases y), fun _ => ?_⟩
        refine ⟨false, T.em_InvalidNumber_InvalidOperation, fun y => (by cases y), fun _ => ?_⟩
        refine ⟨true, T.em_InvalidNumber_InvalidNumber, fun _ a ha => ?_, fun y => by cases y⟩
        exact ⟨_, set1 _ hl, rfl, rfl, dd, _, v, rfl, hd, by simp [List.lookup], v, z, rfl, hz, hs, by rw [sizeLine_eq]; show 3 ≤ _; omega, fun H2 p s2 hp => g H2 p s2 hp⟩
    · exact h
section
variable {K : PySem.W.Frag} {mg : Str → Option Value} {T : Txt K mg} {Q : VK} {H : Hp} {v : V} {z : PyData}
theorem mNum (t : Tabs T.tabs H) (hz : Dp K H v z) (hs : Shows z) (g : GotN K T.tabs Q H ["refused", "number", z.shown]) : rKept T.C_InvalidNumber "given" v (Met T Q) H := fun d H' s hd =>
  .inr (.inr ⟨rfl, d, v, z, rfl, hd, ext_dp (Same.ext s) hz, hs, g H' (Same.ext s) (t.ext s)⟩)
theorem mWord (t : Tabs T.tabs H) (g : GotN K T.tabs Q H ["refused", "word"]) : rPlain T.C_InvalidWord (Met T Q) H := fun H' s => .inl ⟨rfl, g H' (Same.ext s) (t.ext s)⟩
theorem mOpr (t : Tabs T.tabs H) (g : GotN K T.tabs Q H ["refused", "operation"]) : rPlain T.C_InvalidOperation (Met T Q) H := fun H' s => .inr (.inl ⟨rfl, g H' (Same.ext s) (t.ext s)⟩)
end
theorem GotN.to {K : PySem.W.Frag} {tabs : List (Addr × Str)} {Q : VK} {H H1 : Hp} {l : List Str} (g : GotN K tabs Q H l) (e : ExtN H H1) : GotN K tabs Q H1 l := fun H2 e2 t2 => g H2 (e.trans e2) t2
theorem GotN.fine {K : PySem.W.Frag} {tabs : List (Addr × Str)} {Q : VK} {H H1 : Hp} {l : List Str} (g : GotN K tabs Q H l) (e : ExtN H H1) (t : Tabs tabs H1) : 1 ≤ sizeLine ∧ Got K Q H1 l := ⟨by rw [sizeLine_eq]; omega, g H1 e t⟩
end K01
/-! K01k -/
set_option Elab.async false
set_option linter.all false
set_option maxRecDepth 100000
set_option maxHeartbeats 2000000
namespace K01
open PySem PySem.Spec PyProof.Rows L2 PpSet RL LamX
open K00
section
variable {K : PySem.W.Frag} {H H' : Hp} {k m : Int}
theorem sv_non : SpV K H .non k m false := .inl ⟨rfl, _, .base .non, kit_ty (by decide +kernel)⟩
theorem sv_int (i : Int) : SpV K H (.int i) k m false := .inl ⟨rfl, _, .base (.int i), kit_ty (by decide +kernel)⟩
theorem sv_str (x : Str) : SpV K H (.str x) k m false := .inl ⟨rfl, _, .base (.str x), kit_ty (by decide +kernel)⟩
theorem sv_lst {a : Addr} {xs : List V} (e : H a = some (.lst xs)) : SpV K H (.ref a) k m false := .inl ⟨rfl, _, .base (.lst e), kit_ty (by decide +kernel)⟩
theorem sv_dK {a : Addr} {xs : List (Key × V)} (e : H a = some (.dK xs)) : SpV K H (.ref a) k m false := .inl ⟨rfl, _, .base (.dK e), kit_ty (by decide +kernel)⟩
theorem nv_int (i : Int) : NumV K H (.int i) := .inl ⟨i, rfl⟩
theorem nv_bl (i : Bool) : NumV K H (.bl i) := .inr (.inl ⟨i, rfl⟩)
theorem nv_non : NumV K H .non := .inr (.inr ⟨nofun, nofun, _, .base .non, kit_ty (by decide +kernel)⟩)
theorem nv_str (x : Str) : NumV K H (.str x) := .inr (.inr ⟨nofun, nofun, _, .base (.str x), kit_ty (by decide +kernel)⟩)
theorem nv_tup {a : Addr} {xs : List V} (h : SqT K H a xs) : NumV K H (.ref a) := .inr (.inr ⟨nofun, nofun, _, tyx_sqt h, kit_ty (by decide +kernel)⟩)
theorem sv_tup {a : Addr} {xs : List V} (h : SqT K H a xs) (hz : xs.length ≤ 1000) (hn : ∀ x ∈ xs, NumV K H x) (e : spelled xs k m = false) : SpV K H (.ref a) k m false :=
  .inr ⟨a, xs, rfl, h, by rw [sizeLine_eq]; omega, hn, e.symm⟩
theorem spelled_bad {xs : List V} {x : V} (hx : x ∈ xs) (e : numB x 0 (k - 1) = false) : spelled xs k m = false := by
  unfold spelled
  rw [Bool.and_eq_false_iff]
  refine .inr ?_
  rw [List.all_eq_false]
  exact ⟨x, hx, by rw [e]; exact Bool.false_ne_true⟩
theorem spelled_long {xs : List V} (e : m < (xs.length : Int)) : spelled xs k m = false := by
  unfold spelled
  rw [decide_eq_false (by omega), Bool.false_and]
theorem numB_top (k : Int) : numB (.int k) 0 (k - 1) = false := by
  simp only [numB]
  by_cases h : k ≤ k - 1
  · omega
  · rw [decide_eq_false h, Bool.and_false]
theorem zeros_v (n : Nat) : (List.replicate n [V.int 0]).flatten = (List.replicate n (0 : Int)).map V.int := by
  induction n with
  | zero => rfl
  | succ n ih =>
    rw [List.replicate_succ, List.flatten_cons, ih, List.replicate_succ]
    rfl
theorem zeros_len (n : Nat) : ((List.replicate n (0 : Int)).map V.int).length = n := by rw [List.length_map, List.length_replicate]
end
/-- all but the bag and tables stands -/
def KpN (b : Addr) (H H' : Hp) : Prop := Bag b H' ∧ ∀ a u, a ≠ b → H a = some u → (∀ ps, u ≠ .tbl ps) → H' a = some u
theorem KpN.trans {b : Addr} {H H1 H2 : Hp} (h : KpN b H H1) (k : KpN b H1 H2) : KpN b H H2 := ⟨k.1, fun a u n z t => k.2 a u n (h.2 a u n z t) t⟩
theorem KpN.of {b : Addr} {H H' : Hp} (k : Kp b H H') : KpN b H H' := ⟨k.1, fun a u n z _ => k.2 a u n z⟩
theorem KpN.ext {b : Addr} {H H' : Hp} (h : Bag b H) (e : ExtN H H') : KpN b H H' := ⟨let ⟨x, y, z, q⟩ := h; ⟨x, y, z, e _ _ q fun ps z => by cases z⟩, fun a u _ z t => e a u z t⟩
theorem KpN.sqt {K : PySem.W.Frag} {b : Addr} {H H' : Hp} (h : Bag b H) (k : KpN b H H') {a : Addr} {xs : List V} (q : SqT K H a xs) : SqT K H' a xs := by
  obtain ⟨x, y, z, e⟩ := h
  rcases q with (q | ⟨o, q⟩) | q
  · exact .inl (.inl (k.2 _ _ (fun c => by subst c; rw [e] at q; cases q) q fun ps z => by cases z))
  · exact .inl (.inr ⟨o, k.2 _ _ (fun c => by subst c; rw [e] at q; cases q) q fun ps z => by cases z⟩)
  · exact .inr q
theorem KpN.isW {K : PySem.W.Frag} {b : Addr} {H H' : Hp} (h : Bag b H) (k : KpN b H H') {v : V} {ws : List Int} (q : IsW K H v ws) : IsW K H' v ws := let ⟨a, e, s⟩ := q; ⟨a, e, k.sqt h s⟩
theorem tabs_kp {T : List (Addr × Str)} {b : Addr} {H H' : Hp} (h : Bag b H) (k : Kp b H H') (t : Tabs T H) : Tabs T H' := by
  obtain ⟨x, y, z, e⟩ := h
  intro p hp
  obtain ⟨ps, h1, h2, h3⟩ := t p hp
  refine ⟨ps, k.2 _ _ (fun c => by rw [c, e] at h1; cases h1) h1, h2, fun pos cv hc => ?_⟩
  obtain ⟨c, e1, e2⟩ := h3 pos cv hc
  exact ⟨c, e1, k.2 _ _ (fun c' => by rw [c', e] at e2; unfold CodeO at e2; cases e2) e2⟩
/-- no number from lo to hi, whose text is that of z -/
structure BadN (K : PySem.W.Frag) (b : Addr) (H : Hp) (v : V) (lo hi : Int) (z : PyData) : Prop where
  num : ∀ H', KpN b H H' → NumV K H' v
  dp : ∀ H', KpN b H H' → Dp K H' v z
  no : numB v lo hi = false
  sh : Shows z
theorem BadN.to {K : PySem.W.Frag} {b : Addr} {H H1 : Hp} {v : V} {lo hi : Int} {z : PyData} (h : BadN K b H v lo hi z) (k : KpN b H H1) : BadN K b H1 v lo hi z :=
  ⟨fun H' k' => h.num H' (k.trans k'), fun H' k' => h.dp H' (k.trans k'), h.no, h.sh⟩
/-- some value that is no number from lo to hi, and its text -/
def BadS (K : PySem.W.Frag) (b : Addr) (H : Hp) (v : V) (lo hi : Int) : Prop := ∃ z, BadN K b H v lo hi z
section
variable {K : PySem.W.Frag} {b : Addr} {H H' : Hp} {lo hi : Int}
theorem bs_non : BadS K b H .non lo hi := ⟨_, fun _ _ => nv_non, fun _ _ => .non, rfl, by decide +kernel⟩
theorem bs_bl : BadS K b H (.bl true) lo hi := ⟨_, fun _ _ => nv_bl _, fun _ _ => .bl _, rfl, by decide +kernel⟩
theorem bs_str {x : Str} (h : Shows (.str x)) : BadS K b H (.str x) lo hi := ⟨_, fun _ _ => nv_str _, fun _ _ => .str _, rfl, h⟩
theorem bs_int {i : Int} (h : Shows (.int i)) (n : numB (.int i) lo hi = false) : BadS K b H (.int i) lo hi := ⟨_, fun _ _ => nv_int _, fun _ _ => .int _, n, h⟩
theorem bs_tup {a : Addr} {i : Int} (hb : Bag b H) (e : SqT K H a [.int i]) (h : Shows (.tuple [.int i])) : BadS K b H (.ref a) lo hi :=
  ⟨_, fun _ k => nv_tup (k.sqt hb e), fun _ k => .tup (k.sqt hb e) (.cons (.int i) .nil), rfl, h⟩
theorem bs_lst {a : Addr} {i : Int} (n : a ≠ b) (e : H a = some (.lst [.int i])) (h : Shows (.list [.int i])) : BadS K b H (.ref a) lo hi := by
  have st : ∀ G, KpN b H G → G a = some (.lst [.int i]) := fun G k => k.2 _ _ n e fun ps z => by cases z
  exact ⟨_, fun G k => .inr (.inr ⟨nofun, nofun, _, .base (.lst (st G k)), kit_ty (by decide +kernel)⟩), fun G k => .lst (SqL.of (st G k)) (.cons (.int i) .nil), rfl, h⟩
end
section
variable {K : PySem.W.Frag} {mg : Str → Option Value} {H : Hp} {k : Int}
theorem sv_1k {a : Addr} (h : SqT K H a [.int k]) : SpV K H (.ref a) k 200 false := sv_tup h (by show 1 ≤ 1000; decide) (by intro x hx; rw [List.mem_singleton.mp hx]; exact nv_int _) (spelled_bad List.mem_cons_self (numB_top k))
theorem sv_1b {a : Addr} (h : SqT K H a [.bl true]) : SpV K H (.ref a) k 200 false := sv_tup h (by decide) (by intro x hx; rw [List.mem_singleton.mp hx]; exact nv_bl _) (spelled_bad List.mem_cons_self rfl)
theorem sv_0n {a : Addr} (h : SqT K H a [.int 0, .non]) : SpV K H (.ref a) k 200 false := by
  refine sv_tup h (by decide) (fun x hx => ?_) (spelled_bad (.tail _ List.mem_cons_self) rfl)
  rcases List.mem_cons.mp hx with rfl | hx
  · exact nv_int _
  · rw [List.mem_singleton.mp hx]; exact nv_non
theorem sv_201 {a : Addr} (h : SqT K H a (List.replicate (Int.toNat 201) [V.int 0]).flatten) : SpV K H (.ref a) k 200 false := by
  rw [zeros_v] at h
  refine sv_tup h (by rw [zeros_len]; decide) (fun x hx => ?_) (spelled_long (by rw [zeros_len]; decide))
  obtain ⟨i, _, rfl⟩ := List.mem_map.mp hx
  exact nv_int _
end
/-- the heap without l -/
def noL (l : Addr) (H : Hp) : Hp := fun a => if a = l then none else H a
theorem noL_ext {l : Addr} {H H' : Hp} (n : H l = none) (s : Same H H') : ExtN H (noL l H') := fun a o e _ => by
  have : a ≠ l := ne_of_none e n
  unfold noL
  rw [if_neg this]
  exact s a o e
theorem noL_of {l : Addr} {H : Hp} : ExtN (noL l H) H := fun a o e _ => by
  unfold noL at e
  split at e
  · cases e
  · exact e
theorem noL_sqt {K : PySem.W.Frag} {l : Addr} {H : Hp} {xs : List V} (hl : H l = some (.lst xs)) {a : Addr} {ys : List V} (h : SqT K H a ys) : SqT K (noL l H) a ys := by
  have key : ∀ o, H a = some o → o ≠ .lst xs → noL l H a = some o := fun o e n => by
    unfold noL
    rw [if_neg fun z => by rw [z, hl] at e; exact n (Option.some.inj e).symm]
    exact e
  rcases h with (h | ⟨o, h⟩) | h
  · exact .inl (.inl (key _ h fun z => by cases z))
  · exact .inl (.inr ⟨o, key _ h fun z => by cases z⟩)
  · exact .inr h
theorem noL_tl {K : PySem.W.Frag} {tabs : List (Addr × Str)} {l : Addr} {H : Hp} {xs : List V} {ls : List (List Str)} (hl : H l = some (.lst xs)) (h : IsSts K H xs ls) (t : Tabs tabs H) : Tl K tabs (noL l H) l H ls :=
  ⟨noL_of, fun o ho _ => (by unfold noL at ho; rw [if_pos rfl] at ho; cases ho), ⟨xs, hl, h⟩, t⟩
end K01
/-! K01h -/
set_option Elab.async false
set_option linter.all false
set_option maxRecDepth 100000
set_option maxHeartbeats 4000000
namespace K01
open PySem PySem.Spec PyProof.Rows L2 PpSet RL LamX
open K00
/-- the numbers of answers -/
abbrev flagV (bs : List Bool) : List V := bs.map fun b => V.int (if b then 1 else 0)
theorem none_back {H H' : Hp} {p : Addr} (s : Same H H') (n : H' p = none) : H p = none := by
  cases e : H p with
  | none => rfl
  | some o =>
    have z := s _ _ e
    rw [n] at z
    cases z
def sp_flags {K : PySem.W.Frag} {mg : Str → Option Value} (T : Txt K mg) : Sp := fun vs H Q _ => ∃ (a C : Addr) (d : Option Addr) (b0 b1 b2 b3 b4 b5 b6 b7 b8 b9 : Bool), vs = [.ref a] ∧ IsEx H a C d ∧ ExcC K C ∧ Fl K C [(T.C_InvalidWord, b0), (T.C_InvalidHeight, b1), (T.C_InvalidMachine, b2), (T.C_InvalidReader, b3), (T.C_InvalidRooms, b4), (T.C_InvalidLines, b5), (T.C_InvalidOrder, b6), (T.C_InvalidOperation, b7), (T.C_InvalidName, b8), (T.C_ParseError, b9)] ∧
  ∀ H' p, Same H H' → H p = none → H' p = some (.lst (flagV [b0, b1, b2, b3, b4, b5, b6, b7, b8, b9])) → Q (.ref p) H'
section
variable {P : Program} {w : World} {K : PySem.W.Frag} {mg : Str → Option Value} {base : Heap}
theorem ok__law_flags (T : Txt K mg) : FnOk P w K mg base CX0 1 T.a__law_flags T.d__law_flags ["error"] (sp_flags T) := by
  refine T.F__law_flags.ok sc__law_flags (fun vs H Q E h => ?_) (fun cdv A outer s H vs Q E hr h => ?_)
  · obtain ⟨a, C, d, b0, b1, b2, b3, b4, b5, b6, b7, b8, b9, rfl, _⟩ := h
    rfl
  · obtain ⟨a, C, d, b0, b1, b2, b3, b4, b5, b6, b7, b8, b9, rfl, hx, cc, ⟨f0, ⟨f1, ⟨f2, ⟨f3, ⟨f4, ⟨f5, ⟨f6, ⟨f7, ⟨f8, ⟨f9, _⟩⟩⟩⟩⟩⟩⟩⟩⟩⟩, q⟩ := h
    refine ⟨_, (pss_cons (ps_set (i := 1) sc__law_flags.nd rfl (Or.inl rfl) (pe_lstS (pa_cons (pe_callTy call_int1 rfl T.n_int (by decide +kernel) (pa_cons (pe_callB (call_isVK (K := K) rfl) rfl T.n_isinstance (by decide +kernel) (pa_cons (pv 0) (pa_cons (pe_glob (v := .ref T.C_InvalidWord) rfl T.mC_InvalidWord rfl) pa_nil))) pa_nil)) (pa_cons (pe_callTy call_int1 rfl T.n_int (by decide +kernel) (pa_cons (pe_callB (call_isVK (K := K) rfl) rfl T.n_isinstance (by decide +kernel) (pa_cons (pv 0) (pa_cons (pe_glob (v := .ref T.C_InvalidHeight) rfl T.mC_InvalidHeight rfl) pa_nil))) pa_nil)) (pa_cons (pe_callTy call_int1 rfl T.n_int (by decide +kernel) (pa_cons (pe_callB (call_isVK (K := K) rfl) rfl T.n_isinstance (by decide +kernel) (pa_cons (pv 0) (pa_cons (pe_glob (v := .ref T.C_InvalidMachine) rfl T.mC_InvalidMachine rfl) pa_nil))) pa_nil)) pa_nil))))) (pss_cons (ps_set (i := 1) sc__law_flags.nd rfl (Or.inl rfl) (pe_op op_catL (pv 1) (pe_lstS (pa_cons (pe_callTy call_int1 rfl T.n_int (by decide +kernel) (pa_cons (pe_callB (call_isVK (K := K) rfl) rfl T.n_isinstance (by decide +kernel) (pa_cons (pv 0) (pa_cons (pe_glob (v := .ref T.C_InvalidReader) rfl T.mC_InvalidReader rfl) pa_nil))) pa_nil)) (pa_cons (pe_callTy call_int1 rfl T.n_int (by decide +kernel) (pa_cons (pe_callB (call_isVK (K := K) rfl) rfl T.n_isinstance (by decide +kernel) (pa_cons (pv 0) (pa_cons (pe_glob (v := .ref T.C_InvalidRooms) rfl T.mC_InvalidRooms rfl) pa_nil))) pa_nil)) (pa_cons (pe_callTy call_int1 rfl T.n_int (by decide +kernel) (pa_cons (pe_callB (call_isVK (K := K) rfl) rfl T.n_isinstance (by decide +kernel) (pa_cons (pv 0) (pa_cons (pe_glob (v := .ref T.C_InvalidLines) rfl T.mC_InvalidLines rfl) pa_nil))) pa_nil)) pa_nil)))))) (pss_cons (ps_set (i := 1) sc__law_flags.nd rfl (Or.inl rfl) (pe_op op_catL (pv 1) (pe_lstS (pa_cons (pe_callTy call_int1 rfl T.n_int (by decide +kernel) (pa_cons (pe_callB (call_isVK (K := K) rfl) rfl T.n_isinstance (by decide +kernel) (pa_cons (pv 0) (pa_cons (pe_glob (v := .ref T.C_InvalidOrder) rfl T.mC_InvalidOrder rfl) pa_nil))) pa_nil)) (pa_cons (pe_callTy call_int1 rfl T.n_int (by decide +kernel) (pa_cons (pe_callB (call_isVK (K := K) rfl) rfl T.n_isinstance (by decide +kernel) (pa_cons (pv 0) (pa_cons (pe_glob (v := .ref T.C_InvalidOperation) rfl T.mC_InvalidOperation rfl) pa_nil))) pa_nil)) (pa_cons (pe_callTy call_int1 rfl T.n_int (by decide +kernel) (pa_cons (pe_callB (call_isVK (K := K) rfl) rfl T.n_isinstance (by decide +kernel) (pa_cons (pv 0) (pa_cons (pe_glob (v := .ref T.C_InvalidName) rfl T.mC_InvalidName rfl) pa_nil))) pa_nil)) pa_nil)))))) (pss_one (ps_ret (pe_op op_catL (pv 1) (pe_lstS (pa_cons (pe_callTy call_int1 rfl T.n_int (by decide +kernel) (pa_cons (pe_callB (call_isVK (K := K) rfl) rfl T.n_isinstance (by decide +kernel) (pa_cons (pv 0) (pa_cons (pe_glob (v := .ref T.C_ParseError) rfl T.mC_ParseError rfl) pa_nil))) pa_nil)) pa_nil)))))))), ?_⟩
    refine ⟨_, rfl, a, C, d, _, _, _, rfl, hx, cc, fun _ z => z, f0, .inr ⟨_, rfl, ⟨_, rfl, a, C, d, _, _, _, rfl, hx, cc, fun _ z => z, f1, .inr ⟨_, rfl, ⟨_, rfl, a, C, d, _, _, _, rfl, hx, cc, fun _ z => z, f2, .inr ⟨_, rfl, by show 3 ≤ sizeLine; decide, fun H1 p1 s1 n1 e1 => ?_⟩⟩⟩⟩⟩⟩
    have x1 := hx.same s1
    refine ⟨_, rfl, ⟨_, rfl, a, C, d, _, _, _, rfl, x1, cc, fun _ z => z, f3, .inr ⟨_, rfl, ⟨_, rfl, a, C, d, _, _, _, rfl, x1, cc, fun _ z => z, f4, .inr ⟨_, rfl, ⟨_, rfl, a, C, d, _, _, _, rfl, x1, cc, fun _ z => z, f5, .inr ⟨_, rfl, by show 3 ≤ sizeLine; decide, fun H2 p2 s2 n2 e2 => ?_⟩⟩⟩⟩⟩⟩⟩
    refine ⟨p1, p2, _, _, rfl, rfl, s2 _ _ e1, e2, by show 6 ≤ sizeLine; decide, fun H3 p3 s3 n3 e3 => ?_⟩
    have x3 := x1.same (Same.trans s2 s3)
    refine ⟨_, rfl, ⟨_, rfl, a, C, d, _, _, _, rfl, x3, cc, fun _ z => z, f6, .inr ⟨_, rfl, ⟨_, rfl, a, C, d, _, _, _, rfl, x3, cc, fun _ z => z, f7, .inr ⟨_, rfl, ⟨_, rfl, a, C, d, _, _, _, rfl, x3, cc, fun _ z => z, f8, .inr ⟨_, rfl, by show 3 ≤ sizeLine; decide, fun H4 p4 s4 n4 e4 => ?_⟩⟩⟩⟩⟩⟩⟩
    refine ⟨p3, p4, _, _, rfl, rfl, s4 _ _ e3, e4, by show 9 ≤ sizeLine; decide, fun H5 p5 s5 n5 e5 => ?_⟩
    have x5 := x3.same (Same.trans s4 s5)
    refine ⟨_, rfl, ⟨_, rfl, a, C, d, _, _, _, rfl, x5, cc, fun _ z => z, f9, .inr ⟨_, rfl, by show 1 ≤ sizeLine; decide, fun H6 p6 s6 n6 e6 => ?_⟩⟩⟩
    have s15 := Same.trans s1 (Same.trans s2 (Same.trans s3 (Same.trans s4 s5)))
    have s06 := Same.trans s15 s6
    exact ⟨p5, p6, _, _, rfl, rfl, s6 _ _ e5, e6, by show 10 ≤ sizeLine; decide, fun H7 p7 s7 n7 e7 => q H7 p7 (Same.trans s06 s7) (none_back s06 n7) e7⟩
end
end K01
/-! K01i -/
set_option Elab.async false
set_option linter.all false
set_option maxRecDepth 100000
set_option maxHeartbeats 4000000
namespace K01
open PySem PySem.Spec PyProof.Rows L2 PpSet RL LamX
open K00
def sp_kept : Sp := fun vs H Q _ => ∃ b, vs = [.ref b] ∧ Bag b H ∧ ∀ H', Kp b H H' → Q (.bl true) H'
/-- lists of answers stand at the values, apart from D -/
inductive Rows (D : Addr) (H : Hp) : List V → List (List Bool) → Prop
  | nil : Rows D H [] []
  | cons {p : Addr} {r : List Bool} {ys : List V} {rs : List (List Bool)} (n : p ≠ D) (h : H p = some (.lst (flagV r))) (t : Rows D H ys rs) : Rows D H (.ref p :: ys) (r :: rs)
theorem Rows.to {D : Addr} {H H' : Hp} (s : ∀ p o, p ≠ D → H p = some o → H' p = some o) : ∀ {ys rs}, Rows D H ys rs → Rows D H' ys rs
  | _, _, .nil => .nil
  | _, _, .cons n h t => .cons n (s _ _ n h) (t.to s)
theorem Rows.snoc {D : Addr} {H : Hp} {p : Addr} {r : List Bool} (n : p ≠ D) (h : H p = some (.lst (flagV r))) : ∀ {ys rs}, Rows D H ys rs → Rows D H (ys ++ [.ref p]) (rs ++ [r])
  | _, _, .nil => .cons n h .nil
  | _, _, .cons n1 h1 t => .cons n1 h1 (t.snoc n h)
theorem Rows.len {D : Addr} {H : Hp} : ∀ {ys rs}, Rows D H ys rs → ys.length = rs.length
  | _, _, .nil => rfl
  | _, _, .cons _ _ t => congrArg (· + 1) t.len
abbrev rowD (r : List Bool) : PyData := .list (r.map fun b => PyData.int (if b then 1 else 0))
theorem row_dp {K : PySem.W.Frag} {H : Hp} : ∀ r : List Bool, DpAll K H (flagV r) (r.map fun b => PyData.int (if b then 1 else 0))
  | [] => .nil
  | b :: r => .cons (.int _) (row_dp r)
theorem Rows.dp {K : PySem.W.Frag} {D : Addr} {H : Hp} : ∀ {ys rs}, Rows D H ys rs → DpAll K H ys (rs.map rowD)
  | _, _, .nil => .nil
  | _, _, .cons _ h t => .cons (.lst (SqL.of h) (row_dp _)) t.dp
/-- [e for x in l], e a new list of answers -/
theorem lc_lstB {te : TE} {σ : L2.St} {H1 : Hp} {i : Nat} {K : PySem.W.Frag} {a : Addr} {Qd : Addr → Hp → Prop} (zs : List (V × List Bool)) (hx : SqL K H1 a (zs.map (·.1))) (hz : zs.length < sizeLine)
    (el : ∀ z ∈ zs, ∀ (H : Hp) (Q : VK), Same H1 H → (∀ H' p, Same H H' → H p = none → H' p = some (.lst (flagV z.2)) → Q (.ref p) H') → te ((wipe σ [i]).set i (some z.1)) H Q)
    (fin : ∀ H' D ys, Same H1 H' → H1 D = none → H' D = some (.lst ys) → Rows D H' ys (zs.map (·.2)) → Qd D H') :
    ∀ D, H1 D = none → ∃ W : Nat → Nat → Hp → Prop, (∃ m, W 0 m (upd H1 D (.lst []))) ∧ ∀ j m H, W j m H →
      ((Itl K a).stop j H ∧ Qd D H) ∨ ((Itl K a).go j H ∧ ∃ Nx : Hp → Prop, (∀ H', Nx H' → ∃ m', m' < m ∧ W (j + 1) m' H') ∧ ∀ x H', (Itl K a).yld j H x H' → gName i x (wipe σ [i]) H' fun σ2 H2 => wipe σ2 [i] = wipe σ [i] ∧ tYes σ2 H2 fun b H3 =>
        if b = true then te σ2 H3 fun y H4 => ∃ acc, H4 D = some (.lst acc) ∧ acc.length < sizeLine ∧ Nx (upd H4 D (.lst (acc ++ [y]))) else Nx H3) := by
  intro D hD
  refine lc_list (xs := zs.map (·.1)) (Qd := fun H => Qd D H) (fun j H => Same H1 H ∧ ∃ ys, H D = some (.lst ys) ∧ Rows D H ys ((zs.take j).map (·.2))) ⟨same_upd hD _, [], upd_same, .nil⟩ (fun j H _ p => p.1.seq hx) (fun j x H hj p => ?_) fun H p => ?_
  · obtain ⟨s, ys, hys, hr⟩ := p
    rw [List.getElem?_map] at hj
    obtain ⟨z, hzj, rfl⟩ := Option.map_eq_some_iff.mp hj
    refine ⟨wipe_one _ _ _, ?_⟩
    dsimp only [tYes]
    rw [if_pos rfl]
    refine el z (List.mem_of_getElem? hzj) H _ s fun H' p s2 n2 e2 => ?_
    have hD2 := s2 _ _ hys
    have np : p ≠ D := fun c => by rw [c, hys] at n2; cases n2
    have hl := hr.len
    rw [List.length_map, List.length_take] at hl
    refine ⟨ys, hD2, by omega, same_mut hD (Same.trans s s2), _, upd_same, ?_⟩
    rw [take_more hzj, List.map_append]
    refine Rows.snoc np (by rw [upd_ne np]; exact e2) (hr.to fun q o n h => by rw [upd_ne n]; exact s2 _ _ h)
  · obtain ⟨s, ys, hys, hr⟩ := p
    rw [List.length_map, List.take_length] at hr
    exact fin H D ys s hD hys hr
def Kin {K : PySem.W.Frag} {mg : Str → Option Value} (T : Txt K mg) (H : Hp) (x : V) : Prop := ∃ (a C : Addr) (d : Option Addr), x = .ref a ∧ IsEx H a C d ∧ ExcC K C ∧ PySem.W.kitOne K (.ref C) (.ref T.C_RoomError) = some true ∧ PySem.W.kitOne K (.ref C) (.type "ValueError") = some true
def Off {K : PySem.W.Frag} {mg : Str → Option Value} (T : Txt K mg) (H : Hp) (x : V) : Prop := ∃ (a C : Addr) (d : Option Addr), x = .ref a ∧ IsEx H a C d ∧ ExcC K C ∧ PySem.W.kitOne K (.ref C) (.ref T.C_RoomError) = some false ∧ Fl K C [(T.C_InvalidWord, false), (T.C_InvalidHeight, false), (T.C_InvalidMachine, false), (T.C_InvalidReader, false), (T.C_InvalidRooms, false), (T.C_InvalidLines, false), (T.C_InvalidOrder, false), (T.C_InvalidOperation, false), (T.C_InvalidName, false), (T.C_ParseError, false)]
/-- the row of the class i -/
def rw01 (i : Nat) : List Bool := (List.range 10).map fun j => decide (i = j)
section
variable {P : Program} {w : World} {K : PySem.W.Frag} {mg : Str → Option Value} {base : Heap}
theorem ok__law_kept_right (T : Txt K mg) : FnOk P w K mg base CX0 3 T.a__law_kept_right T.d__law_kept_right ["bag"] sp_kept := by
  refine T.F__law_kept_right.ok sc__law_kept_right (fun vs H Q E h => ?_) (fun cdv A outer s H vs Q E hr h => ?_)
  · obtain ⟨b, rfl, _⟩ := h
    rfl
  · obtain ⟨b, rfl, hb, q⟩ := h
    refine ⟨_, (pss_cons (ps_set (i := 1) sc__law_kept_right.nd rfl (Or.inl rfl) (pe_call (ok__law_one_of T) (hr.mono (by decide)) rfl T.m__law_one_of T.F__law_one_of.kp T.b__law_one_of .nil pass0 (pa_cons (pv 0) (pa_cons (pe_lstS (pa_cons pe_non (pa_cons pe_int (pa_cons pe_str (pa_cons (pe_tupK (K := K) rfl (pa_cons pe_int (pa_cons pe_int pa_nil))) (pa_cons (pe_disp (pps_cons pe_str pe_int pps_nil) (by rfl) (by rfl) (by simp) (by decide)) (pa_cons pe_bl (pa_cons (pe_lstS (pa_cons pe_int pa_nil)) (pa_cons (pe_op op_pow pe_int pe_int) pa_nil))))))))) pa_nil)))) (pss_cons (ps_if (PW.pt (pw_or (pt_cmpR (op_orR (op_neD hr.units) (op_ne_dictA hr.units0)) (pe_exf T.xf_ParseError T.kp_ParseError.noN (pe_kept T.kp_ParseError PySem.F.store_ValueError PySem.F.excBase_ValueError m3_ParseError (hr.mono (by decide) : Room 0 _) (pa_cons (pv 1) pa_nil) rfl)) (pv 1) (nomark _)) (pw_or (pt_cmpR (op_orR (op_neD hr.units) (op_ne_dictA hr.units0)) (pe_exf T.xf_InvalidNumber T.kp_InvalidNumber.noN (pe_kept T.kp_InvalidNumber PySem.F.store_IndexError PySem.F.excBase_IndexError m3_IndexError (hr.mono (by decide) : Room 0 _) (pa_cons (pv 1) pa_nil) rfl)) (pv 1) (nomark _)) (pw_or1 (pt_cmpR (op_orR (op_neD hr.units) (op_ne_dictA hr.units0)) (pe_exf T.xf_UnknownName T.kp_UnknownName.noN (pe_kept T.kp_UnknownName store_KeyError PySem.F.excBase_LookupError m3_KeyError (hr.mono (by decide) : Room 0 _) (pa_cons (pv 1) pa_nil) rfl)) (pv 1) (nomark _)))))) (pss_one (ps_ret pe_bl)) pss_nil) (pss_cons (ps_if (PW.pt (pw_or (pt_cmpR (op_orR (op_neD hr.units) (op_ne_dictA hr.units0)) (pe_exf T.xf_TooMany T.kp_TooMany.noN (pe_kept T.kp_TooMany PySem.F.store_OverflowError PySem.F.excBase_OverflowError m3_OverflowError (hr.mono (by decide) : Room 0 _) (pa_cons (pv 1) pa_nil) rfl)) (pv 1) (nomark _)) (pw_or (pt_cmpR (op_orR (op_neD hr.units) (op_ne_dictA hr.units0)) (pe_exf T.xf_Refused T.kp_Refused.noN (pe_kept T.kp_Refused PySem.F.store_ArithmeticError PySem.F.excBase_ArithmeticError m3_ArithmeticError (hr.mono (by decide) : Room 0 _) (pa_cons (pv 1) pa_nil) rfl)) (pv 1) (nomark _)) (pw_or1 (pt_cmpR (op_orR (op_neD hr.units) (op_ne_dictA hr.units0)) (pe_exf T.xf_NothingToUndo T.kp_NothingToUndo.noN (pe_kept T.kp_NothingToUndo PySem.F.store_LookupError PySem.F.excBase_LookupError m3_LookupError (hr.mono (by decide) : Room 0 _) (pa_cons (pv 1) pa_nil) rfl)) (pv 1) (nomark _)))))) (pss_one (ps_ret pe_bl)) pss_nil) (pss_cons (ps_set (i := 2) sc__law_kept_right.nd rfl (Or.inl rfl) (pe_lstS (pa_cons (pe_exc1 PySem.F.excBase_ValueError T.x_InvalidWord T.mC_InvalidWord T.k_InvalidWord rfl pe_str) (pa_cons (pe_exc1 PySem.F.excBase_ValueError T.x_InvalidHeight T.mC_InvalidHeight T.k_InvalidHeight rfl pe_str) (pa_cons (pe_exc1 PySem.F.excBase_ValueError T.x_InvalidMachine T.mC_InvalidMachine T.k_InvalidMachine rfl pe_str) (pa_cons (pe_exc1 PySem.F.excBase_ValueError T.x_InvalidReader T.mC_InvalidReader T.k_InvalidReader rfl pe_str) (pa_cons (pe_exc1 PySem.F.excBase_ValueError T.x_InvalidRooms T.mC_InvalidRooms T.k_InvalidRooms rfl pe_str) (pa_cons (pe_exc1 PySem.F.excBase_ValueError T.x_InvalidLines T.mC_InvalidLines T.k_InvalidLines rfl pe_str) pa_nil)))))))) (pss_cons (ps_set (i := 2) sc__law_kept_right.nd rfl (Or.inl rfl) (pe_op op_catL (pv 2) (pe_lstS (pa_cons (pe_exc1 PySem.F.excBase_ValueError T.x_InvalidOrder T.mC_InvalidOrder T.k_InvalidOrder rfl pe_str) (pa_cons (pe_exc1 PySem.F.excBase_ValueError T.x_InvalidOperation T.mC_InvalidOperation T.k_InvalidOperation rfl pe_str) (pa_cons (pe_exc1 PySem.F.excBase_ValueError T.x_InvalidName T.mC_InvalidName T.k_InvalidName rfl pe_str) (pa_cons (pe_kept T.kp_ParseError PySem.F.store_ValueError PySem.F.excBase_ValueError m3_ParseError (hr.mono (by decide) : Room 0 _) (pa_cons pe_int pa_nil) rfl) pa_nil))))))) (pss_cons (ps_if (pt_cmpR (op_neD hr.units) (pe_lc (own := [("one", 4)]) rfl sc__law_kept_right.nd (pi_list (pv 2)) (blkOk_by (own := [("one", 4)]) (N := ["bag", "odd", "some", "far", "one", "at", "to"]) (sc := defScope s__law_kept_right) (by decide +kernel)) (fun _ _ _ _ _ => (pg_name (i := 4) sc__law_kept_right.nd rfl (Or.inl rfl))) (fun _ _ _ _ _ => (pts_one (PW.pt (pw_or (pt_not (pt_val (pe_callB (call_isVK (K := K) rfl) rfl T.n_isinstance (by decide +kernel) (pa_cons (pv 4) (pa_cons (pe_glob (v := .ref T.C_RoomError) rfl T.mC_RoomError rfl) pa_nil))))) (pw_or1 (pt_not (pt_val (pe_callB (call_isVK (K := K) rfl) rfl T.n_isinstance (by decide +kernel) (pa_cons (pv 4) (pa_cons (pe_bltn (v := .ty "ValueError") (u := .type "ValueError") rfl T.n_ValueError (by decide +kernel) rfl) pa_nil)))))))))) (fun _ _ _ _ _ => (pv 4))) (pe_lstS pa_nil) (nomark _)) (pss_one (ps_ret pe_bl)) pss_nil) (pss_cons (ps_if (pt_cmpR (op_neD hr.units) (pe_lc (own := [("one", 4)]) rfl sc__law_kept_right.nd (pi_list (pv 2)) (blkOk_by (own := [("one", 4)]) (N := ["bag", "odd", "some", "far", "one", "at", "to"]) (sc := defScope s__law_kept_right) (by decide +kernel)) (fun _ _ _ _ _ => (pg_name (i := 4) sc__law_kept_right.nd rfl (Or.inl rfl))) (fun _ _ _ _ _ => pts_nil) (fun _ _ _ _ _ => (pe_call (ok__law_flags T) (hr.mono (by decide)) rfl T.m__law_flags T.F__law_flags.kp T.b__law_flags .nil pass0 (pa_cons (pv 4) pa_nil)))) (pe_lc (own := [("at", 5)]) rfl sc__law_kept_right.nd (pi_list (pe_lstS (pa_cons pe_int (pa_cons pe_int (pa_cons pe_int (pa_cons pe_int (pa_cons pe_int (pa_cons pe_int (pa_cons pe_int (pa_cons pe_int (pa_cons pe_int (pa_cons pe_int pa_nil)))))))))))) (blkOk_by (own := [("at", 5)]) (N := ["bag", "odd", "some", "far", "one", "at", "to"]) (sc := defScope s__law_kept_right) (by decide +kernel)) (fun _ _ _ _ _ => (pg_name (i := 5) sc__law_kept_right.nd rfl (Or.inr rfl))) (fun _ _ _ _ _ => pts_nil) (fun _ _ _ _ _ => (pe_lc (own := [("to", 6)]) rfl sc__law_kept_right.nd (pi_range1 rfl T.n_range (pa_cons pe_int pa_nil)) (blkOk_by (own := [("to", 6)]) (N := ["bag", "odd", "some", "far", "one", "at", "to"]) (sc := { kind := .function, names := [(".0", .local), ("at", .cell), ("range", .globalImplicit)], isGenerator := false, isCoroutine := false }) (by decide +kernel)) (fun _ _ _ _ _ => (pg_name (i := 6) sc__law_kept_right.nd rfl (Or.inl rfl))) (fun _ _ _ _ _ => pts_nil) (fun _ _ _ _ _ => (pe_callTy call_int1 rfl T.n_int (by decide +kernel) (pa_cons (pe_cmpR op_eq (pv 5) (pv 6) (nomark _)) pa_nil)))))) (nomark _)) (pss_one (ps_ret pe_bl)) pss_nil) (pss_cons (ps_set (i := 3) sc__law_kept_right.nd rfl (Or.inl rfl) (pe_lstS (pa_cons (pe_kept T.kp_InvalidNumber PySem.F.store_IndexError PySem.F.excBase_IndexError m3_IndexError (hr.mono (by decide) : Room 0 _) (pa_cons pe_int pa_nil) rfl) (pa_cons (pe_kept T.kp_UnknownName store_KeyError PySem.F.excBase_LookupError m3_KeyError (hr.mono (by decide) : Room 0 _) (pa_cons pe_int pa_nil) rfl) (pa_cons (pe_kept T.kp_TooMany PySem.F.store_OverflowError PySem.F.excBase_OverflowError m3_OverflowError (hr.mono (by decide) : Room 0 _) (pa_cons pe_int pa_nil) rfl) (pa_cons (pe_kept T.kp_Refused PySem.F.store_ArithmeticError PySem.F.excBase_ArithmeticError m3_ArithmeticError (hr.mono (by decide) : Room 0 _) (pa_cons pe_int pa_nil) rfl) (pa_cons (pe_kept T.kp_NothingToUndo PySem.F.store_LookupError PySem.F.excBase_LookupError m3_LookupError (hr.mono (by decide) : Room 0 _) (pa_cons pe_int pa_nil) rfl) pa_nil))))))) (pss_cons (ps_if (PW.pt (pw_or (pt_cmpR (op_neD hr.units) (pe_lc (own := [("one", 4)]) rfl sc__law_kept_right.nd (pi_list (pv 3)) (blkOk_by (own := [("one", 4)]) (N := ["bag", "odd", "some", "far", "one", "at", "to"]) (sc := defScope s__law_kept_right) (by decide +kernel)) (fun _ _ _ _ _ => (pg_name (i := 4) sc__law_kept_right.nd rfl (Or.inl rfl))) (fun _ _ _ _ _ => (pts_one (PW.pt (pw_or (pt_val (pe_callB (call_isVK (K := K) rfl) rfl T.n_isinstance (by decide +kernel) (pa_cons (pv 4) (pa_cons (pe_glob (v := .ref T.C_RoomError) rfl T.mC_RoomError rfl) pa_nil)))) (pw_or1 (pt_cmpR (op_inK (K := K) rfl) pe_int (pe_call (ok__law_flags T) (hr.mono (by decide)) rfl T.m__law_flags T.F__law_flags.kp T.b__law_flags .nil pass0 (pa_cons (pv 4) pa_nil)) rfl)))))) (fun _ _ _ _ _ => (pv 4))) (pe_lstS pa_nil) (nomark _)) (pw_or1 (pt_val (pe_callB (call_isVK (K := K) rfl) rfl T.n_isinstance (by decide +kernel) (pa_cons (pe_ix ix_list (pv 3) pe_int (fun _ _ => rfl)) (pa_cons (pe_bltn (v := .ty "KeyError") (u := .type "KeyError") rfl T.n_KeyError (by decide +kernel) rfl) pa_nil))))))) (pss_one (ps_ret pe_bl)) pss_nil) (pss_cons (ps_if (PW.pt (pw_or (pt_not (pt_val (pe_callB (call_isVK (K := K) rfl) rfl T.n_isinstance (by decide +kernel) (pa_cons (pe_ix ix_list (pv 3) pe_int (fun _ _ => rfl)) (pa_cons (pe_bltn (v := .ty "IndexError") (u := .type "IndexError") rfl T.n_IndexError (by decide +kernel) rfl) pa_nil))))) (pw_or (pt_not (pt_val (pe_callB (call_isVK (K := K) rfl) rfl T.n_isinstance (by decide +kernel) (pa_cons (pe_ix ix_list (pv 3) pe_int (fun _ _ => rfl)) (pa_cons (pe_bltn (v := .ty "KeyError") (u := .type "KeyError") rfl T.n_KeyError (by decide +kernel) rfl) pa_nil))))) (pw_or1 (pt_not (pt_val (pe_callB (call_isVK (K := K) rfl) rfl T.n_isinstance (by decide +kernel) (pa_cons (pe_ix ix_list (pv 3) pe_int (fun _ _ => rfl)) (pa_cons (pe_bltn (v := .ty "OverflowError") (u := .type "OverflowError") rfl T.n_OverflowError (by decide +kernel) rfl) pa_nil))))))))) (pss_one (ps_ret pe_bl)) pss_nil) (pss_cons (ps_if (PW.pt (pw_or (pt_val (pe_callB (call_isVK (K := K) rfl) rfl T.n_isinstance (by decide +kernel) (pa_cons (pe_ix ix_list (pv 3) pe_int (fun _ _ => rfl)) (pa_cons (pe_bltn (v := .ty "IndexError") (u := .type "IndexError") rfl T.n_IndexError (by decide +kernel) rfl) pa_nil)))) (pw_or1 (pt_val (pe_callB (call_isVK (K := K) rfl) rfl T.n_isinstance (by decide +kernel) (pa_cons (pe_ix ix_list (pv 3) pe_int (fun _ _ => rfl)) (pa_cons (pe_bltn (v := .ty "KeyError") (u := .type "KeyError") rfl T.n_KeyError (by decide +kernel) rfl) pa_nil))))))) (pss_one (ps_ret pe_bl)) pss_nil) (pss_one (ps_ret (pe_and (pe_callB (call_isVK (K := K) rfl) rfl T.n_isinstance (by decide +kernel) (pa_cons (pe_ix ix_list (pv 3) pe_int (fun _ _ => rfl)) (pa_cons (pe_bltn (v := .ty "ArithmeticError") (u := .type "ArithmeticError") rfl T.n_ArithmeticError (by decide +kernel) rfl) pa_nil))) (pe_one (pe_callB (call_isVK (K := K) rfl) rfl T.n_isinstance (by decide +kernel) (pa_cons (pe_ix ix_list (pv 3) pe_int (fun _ _ => rfl)) (pa_cons (pe_bltn (v := .ty "LookupError") (u := .type "LookupError") rfl T.n_LookupError (by decide +kernel) rfl) pa_nil)))))))))))))))))), ?_⟩
    refine ⟨_, rfl, by show 2 ≤ sizeLine; decide, fun H1 p1 s1 h1 => ?_⟩
    intro d hd
    refine ⟨upd_same, [(.inr "a", .int 1)], rfl, by decide, ?_⟩
    rw [upd_upd]
    have sd : Same H1 (upd H1 d (.dK (mergeK [] [(.inr "a", .int 1)]))) := same_upd hd _
    refine ⟨by show 1 ≤ sizeLine; decide, fun H2 l2 s2 n2 e2 => ?_⟩
    refine ⟨_, _, rfl, rfl, ⟨by decide, by decide, by decide⟩, by show 8 ≤ sizeLine; decide, fun HA la sA nA eA => ?_⟩
    have c2 := Same.trans sd (Same.trans s2 sA)
    have s1A := Same.trans s1 c2
    have bA : Bag b HA := hb.same s1A
    have s02 := Same.trans s1 (Same.trans sd s2)
    refine ⟨b, la, _, rfl, bA, ne_bag (hb.same s02) nA, eA, by show 0 < 8; decide, by show 8 < 1000; decide, fun HB v kB hv => ?_⟩
    have kt := KpN.of kB
    have xs {a : Addr} {xs : List V} {G : Hp} (s : Same G HA) (h : SqT K G a xs) : SqT K HB a xs := kt.sqt bA (Same.sqt s h)
    have old {a : Addr} {G : Hp} (s : Same H G) (n : G a = none) : a ≠ b := ne_bag (hb.same s) n
    have ov : OddV K HB v := by
      simp only [List.mem_cons, List.not_mem_nil, or_false] at hv
      rcases hv with rfl | rfl | rfl | rfl | rfl | rfl | rfl | rfl
      · exact .inl ⟨_, .non, by decide +kernel⟩
      · exact .inl ⟨_, .int _, by decide +kernel⟩
      · exact .inl ⟨_, .str _, by decide +kernel⟩
      · exact .inl ⟨.tuple [.int 1, .int 2], .tup (xs c2 h1) (.cons (.int _) (.cons (.int _) .nil)), by decide +kernel⟩
      · exact .inr ⟨d, _, rfl, kB.2 _ _ (old s1 hd) (Same.trans s2 sA _ _ upd_same), fun p hp => by rw [List.mem_singleton.mp hp]; exact ⟨rfl, rfl⟩⟩
      · exact .inl ⟨_, .bl _, by decide +kernel⟩
      · exact .inl ⟨.list [.int 1], .lst (SqL.of (kB.2 _ _ (old (Same.trans s1 sd) n2) (sA _ _ e2))) (.cons (.int _) .nil), by decide +kernel⟩
      · exact .inl ⟨_, .int _, by decide +kernel⟩
    have k0 : Kp b H HB := (Kp.of hb s1A).trans kB
    clear hv xs kt old c2 s1A s02 bA nA eA sA n2 e2 s2 sd hd
    -- the kept values
    refine ⟨_, rfl, v, rfl, fun e1 d1 G1 s1 x1 y1 => ⟨e1, d1, _, v, rfl, x1, y1, by simp [List.lookup], _, rfl, (ov.ext (Same.ext s1)).ne ?_⟩⟩
    have z1 := s1
    refine ⟨_, rfl, iteF ?_⟩
    refine ⟨_, rfl, v, rfl, fun e2 d2 G2 s2 x2 y2 => ⟨e2, d2, _, v, rfl, x2, y2, by simp [List.lookup], _, rfl, (ov.ext (Same.ext (Same.trans z1 s2))).ne ?_⟩⟩
    have z2 := Same.trans z1 s2
    refine ⟨_, rfl, iteF ?_⟩
    refine ⟨_, rfl, v, rfl, fun e3 d3 G3 s3 x3 y3 => ⟨e3, d3, _, v, rfl, x3, y3, by simp [List.lookup], _, rfl, (ov.ext (Same.ext (Same.trans z2 s3))).ne ?_⟩⟩
    have z3 := Same.trans z2 s3
    refine ⟨_, rfl, iteF ?_⟩
    refine ⟨_, rfl, v, rfl, fun e4 d4 G4 s4 x4 y4 => ⟨e4, d4, _, v, rfl, x4, y4, by simp [List.lookup], _, rfl, (ov.ext (Same.ext (Same.trans z3 s4))).ne ?_⟩⟩
    have z4 := Same.trans z3 s4
    refine ⟨_, rfl, iteF ?_⟩
    refine ⟨_, rfl, v, rfl, fun e5 d5 G5 s5 x5 y5 => ⟨e5, d5, _, v, rfl, x5, y5, by simp [List.lookup], _, rfl, (ov.ext (Same.ext (Same.trans z4 s5))).ne ?_⟩⟩
    have z5 := Same.trans z4 s5
    refine ⟨_, rfl, iteF ?_⟩
    refine ⟨_, rfl, v, rfl, fun e6 d6 G6 s6 x6 y6 => ⟨e6, d6, _, v, rfl, x6, y6, by simp [List.lookup], _, rfl, (ov.ext (Same.ext (Same.trans z5 s6))).ne ?_⟩⟩
    have z6 := Same.trans z5 s6
    refine ⟨_, rfl, iteF ?_⟩
    refine fun a0 m0 => ?_
    have w0 := same_upd m0 (ExO (.ref T.C_InvalidWord) a0)
    have u0 : IsEx (upd G6 a0 (ExO (.ref T.C_InvalidWord) a0)) a0 T.C_InvalidWord none := isEx_new
    generalize upd G6 a0 (ExO (.ref T.C_InvalidWord) a0) = W0 at w0 u0 ⊢
    refine fun a1 m1 => ?_
    have w1 := same_upd m1 (ExO (.ref T.C_InvalidHeight) a1)
    have u1 : IsEx (upd W0 a1 (ExO (.ref T.C_InvalidHeight) a1)) a1 T.C_InvalidHeight none := isEx_new
    generalize upd W0 a1 (ExO (.ref T.C_InvalidHeight) a1) = W1 at w1 u1 ⊢
    refine fun a2 m2 => ?_
    have w2 := same_upd m2 (ExO (.ref T.C_InvalidMachine) a2)
    have u2 : IsEx (upd W1 a2 (ExO (.ref T.C_InvalidMachine) a2)) a2 T.C_InvalidMachine none := isEx_new
    generalize upd W1 a2 (ExO (.ref T.C_InvalidMachine) a2) = W2 at w2 u2 ⊢
    refine fun a3 m3 => ?_
    have w3 := same_upd m3 (ExO (.ref T.C_InvalidReader) a3)
    have u3 : IsEx (upd W2 a3 (ExO (.ref T.C_InvalidReader) a3)) a3 T.C_InvalidReader none := isEx_new
    generalize upd W2 a3 (ExO (.ref T.C_InvalidReader) a3) = W3 at w3 u3 ⊢
    refine fun a4 m4 => ?_
    have w4 := same_upd m4 (ExO (.ref T.C_InvalidRooms) a4)
    have u4 : IsEx (upd W3 a4 (ExO (.ref T.C_InvalidRooms) a4)) a4 T.C_InvalidRooms none := isEx_new
    generalize upd W3 a4 (ExO (.ref T.C_InvalidRooms) a4) = W4 at w4 u4 ⊢
    refine fun a5 m5 => ?_
    have w5 := same_upd m5 (ExO (.ref T.C_InvalidLines) a5)
    have u5 : IsEx (upd W4 a5 (ExO (.ref T.C_InvalidLines) a5)) a5 T.C_InvalidLines none := isEx_new
    generalize upd W4 a5 (ExO (.ref T.C_InvalidLines) a5) = W5 at w5 u5 ⊢
    refine ⟨by show 6 ≤ sizeLine; decide, fun J1 l1 t1 q1 j1 => ?_⟩
    refine ⟨_, rfl, ?_⟩
    refine fun a6 m6 => ?_
    have w6 := same_upd m6 (ExO (.ref T.C_InvalidOrder) a6)
    have u6 : IsEx (upd J1 a6 (ExO (.ref T.C_InvalidOrder) a6)) a6 T.C_InvalidOrder none := isEx_new
    generalize upd J1 a6 (ExO (.ref T.C_InvalidOrder) a6) = W6 at w6 u6 ⊢
    refine fun a7 m7 => ?_
    have w7 := same_upd m7 (ExO (.ref T.C_InvalidOperation) a7)
    have u7 : IsEx (upd W6 a7 (ExO (.ref T.C_InvalidOperation) a7)) a7 T.C_InvalidOperation none := isEx_new
    generalize upd W6 a7 (ExO (.ref T.C_InvalidOperation) a7) = W7 at w7 u7 ⊢
    refine fun a8 m8 => ?_
    have w8 := same_upd m8 (ExO (.ref T.C_InvalidName) a8)
    have u8 : IsEx (upd W7 a8 (ExO (.ref T.C_InvalidName) a8)) a8 T.C_InvalidName none := isEx_new
    generalize upd W7 a8 (ExO (.ref T.C_InvalidName) a8) = W8 at w8 u8 ⊢
    refine ⟨.int 3, rfl, fun a9 d9 W9 w9 u9 y9 => ?_⟩
    refine ⟨by show 4 ≤ sizeLine; decide, fun J2 l2 t2 q2 j2 => ?_⟩
    refine ⟨l1, l2, _, _, rfl, rfl, Same.trans w6 (Same.trans w7 (Same.trans w8 (Same.trans w9 t2))) _ _ j1, j2, by show 10 ≤ sizeLine; decide, fun J3 l3 t3 q3 j3 => ?_⟩
    have b9 := Same.trans t2 t3
    have b8 := Same.trans w9 b9
    have b7 := Same.trans w8 b8
    have b6 := Same.trans w7 b7
    have b5 := Same.trans t1 (Same.trans w6 b6)
    have b4 := Same.trans w5 b5
    have b3 := Same.trans w4 b4
    have b2 := Same.trans w3 b3
    have b1 := Same.trans w2 b2
    have b0 := Same.trans w1 b1
    have zJ : Same HB J3 := Same.trans z6 (Same.trans w0 b0)
    have X0 := u0.same b0
    have X1 := u1.same b1
    have X2 := u2.same b2
    have X3 := u3.same b3
    have X4 := u4.same b4
    have X5 := u5.same b5
    have X6 := u6.same b6
    have X7 := u7.same b7
    have X8 := u8.same b8
    have X9 := u9.same b9
    have kin : ∀ x ∈ [V.ref a0, V.ref a1, V.ref a2, V.ref a3, V.ref a4, V.ref a5, V.ref a6, V.ref a7, V.ref a8, V.ref a9], Kin T J3 x := fun x hx => by
      simp only [List.mem_cons, List.not_mem_nil, or_false] at hx
      rcases hx with rfl | rfl | rfl | rfl | rfl | rfl | rfl | rfl | rfl | rfl
      · exact ⟨_, _, _, rfl, X0, T.ec_InvalidWord, T.rm_InvalidWord, T.ve_InvalidWord⟩
      · exact ⟨_, _, _, rfl, X1, T.ec_InvalidHeight, T.rm_InvalidHeight, T.ve_InvalidHeight⟩
      · exact ⟨_, _, _, rfl, X2, T.ec_InvalidMachine, T.rm_InvalidMachine, T.ve_InvalidMachine⟩
      · exact ⟨_, _, _, rfl, X3, T.ec_InvalidReader, T.rm_InvalidReader, T.ve_InvalidReader⟩
      · exact ⟨_, _, _, rfl, X4, T.ec_InvalidRooms, T.rm_InvalidRooms, T.ve_InvalidRooms⟩
      · exact ⟨_, _, _, rfl, X5, T.ec_InvalidLines, T.rm_InvalidLines, T.ve_InvalidLines⟩
      · exact ⟨_, _, _, rfl, X6, T.ec_InvalidOrder, T.rm_InvalidOrder, T.ve_InvalidOrder⟩
      · exact ⟨_, _, _, rfl, X7, T.ec_InvalidOperation, T.rm_InvalidOperation, T.ve_InvalidOperation⟩
      · exact ⟨_, _, _, rfl, X8, T.ec_InvalidName, T.rm_InvalidName, T.ve_InvalidName⟩
      · exact ⟨_, _, _, rfl, X9, T.ec_ParseError, T.rm_ParseError, T.ve_ParseError⟩
    refine ⟨_, rfl, l3, rfl, ⟨_, SqL.of j3⟩, lc_lstP (i := 4) (fun x => x) (fun _ => false) (SqL.of j3) (by rw [sizeLine_eq]; show 10 < _; omega) (fun x hm H' Q' s' q' => ?_) (fun x _ hp => by cases hp) fun J4 l4 t4 _ j4 => ?_⟩
    · obtain ⟨a, C, d, rfl, hx, cc, k1, k2⟩ := kin x hm
      have hx := hx.same s'
      refine ⟨_, rfl, a, C, d, _, _, true, rfl, hx, cc, fun _ z => z, k1, ?_⟩
      refine ⟨_, rfl, iteF ?_⟩
      exact ⟨_, rfl, a, C, d, _, _, true, rfl, hx, cc, fun _ z => z, k2, _, rfl, q' H' (Same.refl H')⟩
    replace j4 : J4 l4 = some (.lst []) := j4
    refine ⟨by show 0 ≤ sizeLine; decide, fun J5 l5 t5 q5 j5 => ?_⟩
    refine ⟨.list [], .list [], .lst (SqL.of (t5 _ _ j4)) .nil, .lst (SqL.of j5) .nil, by decide +kernel, by decide +kernel, _, rfl, iteF ?_⟩
    have t45 := Same.trans t4 t5
    refine ⟨_, rfl, l3, rfl, ⟨_, SqL.of (t45 _ _ j3)⟩, lc_lstB (i := 4) [(V.ref a0, rw01 0), (V.ref a1, rw01 1), (V.ref a2, rw01 2), (V.ref a3, rw01 3), (V.ref a4, rw01 4), (V.ref a5, rw01 5), (V.ref a6, rw01 6), (V.ref a7, rw01 7), (V.ref a8, rw01 8), (V.ref a9, rw01 9)] (SqL.of (t45 _ _ j3)) (by rw [sizeLine_eq]; show 10 < _; omega) (fun z hm H' Q' s' q' => ?_) fun J6 l6 ys t6 _ j6 r6 => ?_⟩
    · simp only [List.mem_cons, List.not_mem_nil, or_false] at hm
      have sz := Same.trans t45 s'
      rcases hm with rfl | rfl | rfl | rfl | rfl | rfl | rfl | rfl | rfl | rfl
      · exact ⟨_, rfl, _, _, _, true, false, false, false, false, false, false, false, false, false, rfl, X0.same sz, T.ec_InvalidWord, T.fl_InvalidWord, fun H2 p s2 n2 e2 => q' H2 p s2 n2 e2⟩
      · exact ⟨_, rfl, _, _, _, false, true, false, false, false, false, false, false, false, false, rfl, X1.same sz, T.ec_InvalidHeight, T.fl_InvalidHeight, fun H2 p s2 n2 e2 => q' H2 p s2 n2 e2⟩
      · exact ⟨_, rfl, _, _, _, false, false, true, false, false, false, false, false, false, false, rfl, X2.same sz, T.ec_InvalidMachine, T.fl_InvalidMachine, fun H2 p s2 n2 e2 => q' H2 p s2 n2 e2⟩
      · exact ⟨_, rfl, _, _, _, false, false, false, true, false, false, false, false, false, false, rfl, X3.same sz, T.ec_InvalidReader, T.fl_InvalidReader, fun H2 p s2 n2 e2 => q' H2 p s2 n2 e2⟩
      · exact ⟨_, rfl, _, _, _, false, false, false, false, true, false, false, false, false, false, rfl, X4.same sz, T.ec_InvalidRooms, T.fl_InvalidRooms, fun H2 p s2 n2 e2 => q' H2 p s2 n2 e2⟩
      · exact ⟨_, rfl, _, _, _, false, false, false, false, false, true, false, false, false, false, rfl, X5.same sz, T.ec_InvalidLines, T.fl_InvalidLines, fun H2 p s2 n2 e2 => q' H2 p s2 n2 e2⟩
      · exact ⟨_, rfl, _, _, _, false, false, false, false, false, false, true, false, false, false, rfl, X6.same sz, T.ec_InvalidOrder, T.fl_InvalidOrder, fun H2 p s2 n2 e2 => q' H2 p s2 n2 e2⟩
      · exact ⟨_, rfl, _, _, _, false, false, false, false, false, false, false, true, false, false, rfl, X7.same sz, T.ec_InvalidOperation, T.fl_InvalidOperation, fun H2 p s2 n2 e2 => q' H2 p s2 n2 e2⟩
      · exact ⟨_, rfl, _, _, _, false, false, false, false, false, false, false, false, true, false, rfl, X8.same sz, T.ec_InvalidName, T.fl_InvalidName, fun H2 p s2 n2 e2 => q' H2 p s2 n2 e2⟩
      · exact ⟨_, rfl, _, _, _, false, false, false, false, false, false, false, false, false, true, rfl, X9.same sz, T.ec_ParseError, T.fl_ParseError, fun H2 p s2 n2 e2 => q' H2 p s2 n2 e2⟩
    refine ⟨by show 10 ≤ sizeLine; decide, fun J7 l7 t7 q7 j7 => ?_⟩
    refine ⟨l7, rfl, ⟨_, SqL.of j7⟩, lc_lstB (i := 5) [(V.int 0, rw01 0), (V.int 1, rw01 1), (V.int 2, rw01 2), (V.int 3, rw01 3), (V.int 4, rw01 4), (V.int 5, rw01 5), (V.int 6, rw01 6), (V.int 7, rw01 7), (V.int 8, rw01 8), (V.int 9, rw01 9)] (SqL.of j7) (by rw [sizeLine_eq]; show 10 < _; omega) (fun z hm H' Q' s' q' => ?_) fun J8 l8 yt t8 _ j8 r8 => ?_⟩
    · obtain ⟨m, rfl, hm10⟩ : ∃ m : Nat, z = (V.int m, rw01 m) ∧ m < 10 := by
        simp only [List.mem_cons, List.not_mem_nil, or_false] at hm
        rcases hm with rfl | rfl | rfl | rfl | rfl | rfl | rfl | rfl | rfl | rfl
        · exact ⟨0, rfl, by decide⟩
        · exact ⟨1, rfl, by decide⟩
        · exact ⟨2, rfl, by decide⟩
        · exact ⟨3, rfl, by decide⟩
        · exact ⟨4, rfl, by decide⟩
        · exact ⟨5, rfl, by decide⟩
        · exact ⟨6, rfl, by decide⟩
        · exact ⟨7, rfl, by decide⟩
        · exact ⟨8, rfl, by decide⟩
        · exact ⟨9, rfl, by decide⟩
      refine ⟨_, rfl, by decide, by decide, lc_rngF (i := 6) (f := fun j => V.int (if decide (m = j) then 1 else 0)) (by rw [sizeLine_eq]; show 10 < _; omega) (fun j hj H2 Q2 s2 q2 => ?_) fun H2 p s2 n2 e2 => q' H2 p s2 n2 ?_⟩
      · refine ⟨_, rfl, _, rfl, rfl, .inr ⟨_, rfl, ?_⟩⟩
        have eq : decide (V.int (m : Int) = V.int (0 + (j : Int))) = decide (m = j) := by
          refine decide_eq_decide.mpr ⟨fun z => ?_, fun z => by rw [z, Int.zero_add]⟩
          injection z with z
          omega
        show Q2 (V.int (if decide (V.int (m : Int) = V.int (0 + (j : Int))) = true then 1 else 0)) H2
        rw [eq]
        exact q2 H2 (Same.refl H2)
      · rw [e2]
        rfl
    have t78 := Same.trans t7 t8
    have r6 : Rows l6 J8 ys [rw01 0, rw01 1, rw01 2, rw01 3, rw01 4, rw01 5, rw01 6, rw01 7, rw01 8, rw01 9] := r6.to fun p o _ h => t78 _ _ h
    have r8 : Rows l8 J8 yt [rw01 0, rw01 1, rw01 2, rw01 3, rw01 4, rw01 5, rw01 6, rw01 7, rw01 8, rw01 9] := r8
    refine ⟨_, _, .lst (SqL.of (t78 _ _ j6)) r6.dp, .lst (SqL.of j8) r8.dp, by decide +kernel, by decide +kernel, _, rfl, ifF (by decide +kernel) ?_⟩
    have zJ8 := Same.trans zJ (Same.trans t45 (Same.trans t6 t78))
    clear r6 r8 j6 j8 j7
    refine ⟨.int 1, rfl, fun f0 g0 F0 o0 v0 _ => ?_⟩
    refine ⟨.int 1, rfl, fun f1 g1 F1 o1 v1 _ => ?_⟩
    refine ⟨.int 1, rfl, fun f2 g2 F2 o2 v2 _ => ?_⟩
    refine ⟨.int 1, rfl, fun f3 g3 F3 o3 v3 _ => ?_⟩
    refine ⟨.int 1, rfl, fun f4 g4 F4 o4 v4 _ => ?_⟩
    refine ⟨by show 5 ≤ sizeLine; decide, fun J9 l9 t9 _ j9 => ?_⟩
    have c4 := t9
    have c3 := Same.trans o4 c4
    have c2 := Same.trans o3 c3
    have c1 := Same.trans o2 c2
    have c0 := Same.trans o1 c1
    have Y0 := v0.same c0
    have Y1 := v1.same c1
    have Y2 := v2.same c2
    have Y3 := v3.same c3
    have Y4 := v4.same c4
    have zJ9 := Same.trans zJ8 (Same.trans o0 c0)
    have off : ∀ x ∈ [V.ref f0, V.ref f1, V.ref f2, V.ref f3, V.ref f4], Off T J9 x := fun x hx => by
      simp only [List.mem_cons, List.not_mem_nil, or_false] at hx
      rcases hx with rfl | rfl | rfl | rfl | rfl
      · exact ⟨_, _, _, rfl, Y0, T.ec_InvalidNumber, T.rm_InvalidNumber, T.fl_InvalidNumber⟩
      · exact ⟨_, _, _, rfl, Y1, T.ec_UnknownName, T.rm_UnknownName, T.fl_UnknownName⟩
      · exact ⟨_, _, _, rfl, Y2, T.ec_TooMany, T.rm_TooMany, T.fl_TooMany⟩
      · exact ⟨_, _, _, rfl, Y3, T.ec_Refused, T.rm_Refused, T.fl_Refused⟩
      · exact ⟨_, _, _, rfl, Y4, T.ec_NothingToUndo, T.rm_NothingToUndo, T.fl_NothingToUndo⟩
    refine ⟨_, rfl, l9, rfl, ⟨_, SqL.of j9⟩, lc_lstP (i := 4) (fun x => x) (fun _ => false) (SqL.of j9) (by rw [sizeLine_eq]; show 5 < _; omega) (fun x hm H' Q' s' q' => ?_) (fun x _ hp => by cases hp) fun JA lA tA _ jA => ?_⟩
    · obtain ⟨a, C, d, rfl, hx, cc, k1, k2⟩ := off x hm
      have hx := hx.same s'
      refine ⟨_, rfl, a, C, d, _, _, false, rfl, hx, cc, fun _ z => z, k1, ?_⟩
      refine ⟨_, rfl, iteF ?_⟩
      refine ⟨_, rfl, a, C, d, false, false, false, false, false, false, false, false, false, false, rfl, hx, cc, k2, fun H2 p s2 n2 e2 => ?_⟩
      exact ⟨p, _, rfl, .inl (SqL.of e2), rfl, rfl, _, rfl, q' H2 s2⟩
    replace jA : JA lA = some (.lst []) := jA
    refine ⟨by show 0 ≤ sizeLine; decide, fun JB lB tB _ jB => ?_⟩
    refine ⟨.list [], .list [], .lst (SqL.of (tB _ _ jA)) .nil, .lst (SqL.of jB) .nil, by decide +kernel, by decide +kernel, _, rfl, iteF ?_⟩
    have tAB := Same.trans tA tB
    have j9 := tAB _ _ j9
    have Y0 := Y0.same tAB
    have Y1 := Y1.same tAB
    have Y2 := Y2.same tAB
    have Y3 := Y3.same tAB
    have Y4 := Y4.same tAB
    have zJB := Same.trans zJ9 tAB
    have fin := q JB (k0.more zJB)
    refine ⟨_, rfl, l9, _, 0, V.ref f0, rfl, rfl, SqL.of j9, rfl, f0, _, _, _, _, _, rfl, Y0, T.ec_InvalidNumber, (fun _ z => z), T.fk_InvalidNumber_KeyError, _, rfl, iteF ?_⟩
    refine ⟨_, rfl, l9, _, 0, V.ref f0, rfl, rfl, SqL.of j9, rfl, f0, _, _, _, _, _, rfl, Y0, T.ec_InvalidNumber, (fun _ z => z), T.fk_InvalidNumber_IndexError, _, rfl, iteF ?_⟩
    refine ⟨_, rfl, l9, _, 1, V.ref f1, rfl, rfl, SqL.of j9, rfl, f1, _, _, _, _, _, rfl, Y1, T.ec_UnknownName, (fun _ z => z), T.fk_UnknownName_KeyError, _, rfl, iteF ?_⟩
    refine ⟨_, rfl, l9, _, 2, V.ref f2, rfl, rfl, SqL.of j9, rfl, f2, _, _, _, _, _, rfl, Y2, T.ec_TooMany, (fun _ z => z), T.fk_TooMany_OverflowError, _, rfl, iteF ?_⟩
    refine ⟨_, rfl, l9, _, 4, V.ref f4, rfl, rfl, SqL.of j9, rfl, f4, _, _, _, _, _, rfl, Y4, T.ec_NothingToUndo, (fun _ z => z), T.fk_NothingToUndo_IndexError, _, rfl, iteF ?_⟩
    refine ⟨_, rfl, l9, _, 4, V.ref f4, rfl, rfl, SqL.of j9, rfl, f4, _, _, _, _, _, rfl, Y4, T.ec_NothingToUndo, (fun _ z => z), T.fk_NothingToUndo_KeyError, _, rfl, iteF ?_⟩
    exact ⟨_, rfl, l9, _, 3, V.ref f3, rfl, rfl, SqL.of j9, rfl, f3, _, _, _, _, _, rfl, Y3, T.ec_Refused, (fun _ z => z), T.fk_Refused_ArithmeticError, _, rfl, iteT ⟨_, rfl, l9, _, 4, V.ref f4, rfl, rfl, SqL.of j9, rfl, f4, _, _, _, _, _, rfl, Y4, T.ec_NothingToUndo, (fun _ z => z), T.fk_NothingToUndo_LookupError, fin⟩⟩
end
end K01
/-! K01m -/
set_option Elab.async false
set_option linter.all false
set_option maxRecDepth 100000
set_option maxHeartbeats 4000000
namespace K01
open PySem PySem.Spec PyProof.Rows L2 PpSet RL LamX
open K00
/-- texts that can be laid -/
def okL (ls : List (List Str)) : Prop := ∀ l ∈ ls, ∀ x ∈ l, (PyData.str x).canLay0 = true
theorem okL_nil : okL [] := fun l h => by cases h
theorem okL_cons {l : List Str} {ls : List (List Str)} (h : ∀ x ∈ l, (PyData.str x).canLay0 = true) (t : okL ls) : okL (l :: ls) := fun m hm => (List.mem_cons.mp hm).elim (fun e => e ▸ h) (t m)
theorem lN {z : PyData} (h : Shows z) : ∀ x ∈ (["refused", "number", z.shown] : List Str), (PyData.str x).canLay0 = true := by
  have e1 : (PyData.str "refused").canLay0 = true := by decide +kernel
  have e2 : (PyData.str "number").canLay0 = true := by decide +kernel
  have e3 := h.2.2.2.2
  intro x hx
  rcases List.mem_cons.mp hx with rfl | hx
  · exact e1
  rcases List.mem_cons.mp hx with rfl | hx
  · exact e2
  rw [List.mem_singleton.mp hx]
  exact e3
theorem lW : ∀ x ∈ (["refused", "word"] : List Str), (PyData.str x).canLay0 = true := by decide +kernel
theorem lO : ∀ x ∈ (["refused", "operation"] : List Str), (PyData.str x).canLay0 = true := by decide +kernel
theorem lL : ∀ x ∈ (["let"] : List Str), (PyData.str x).canLay0 = true := by decide +kernel
abbrev tN (z : PyData) : List Str := ["refused", "number", z.shown]
abbrev tW : List Str := ["refused", "word"]
abbrev tO : List Str := ["refused", "operation"]
abbrev tL : List Str := ["let"]
/-- the three defs that the loop calls -/
def heldC {K : PySem.W.Frag} {mg : Str → Option Value} (T : Txt K mg) (f : Addr) (sp : Sp) : Prop := (f = T.a_compare_words ∨ f = T.a_common_end ∨ f = T.a_is_end) ∧ sp = sp_two K T.C_InvalidNumber T.C_InvalidWord
theorem heldC_ok {P : Program} {w : World} {K : PySem.W.Frag} {mg : Str → Option Value} {base : Heap} (T : Txt K mg) : ∀ f sp, heldC T f sp → HeldX P w K mg base 5 f sp := by
  rintro f sp ⟨rfl | rfl | rfl, rfl⟩
  · exact ⟨_, _, (ok_compare_words T).mono (by decide), T.F_compare_words.kp, T.b_compare_words⟩
  · exact ⟨_, _, (ok_common_end T).mono (by decide), T.F_common_end.kp, T.b_common_end⟩
  · exact ⟨_, _, (ok_is_end T).mono (by decide), T.F_is_end.kp, T.b_is_end⟩
theorem sv_0s {K : PySem.W.Frag} {H : Hp} {k : Int} {a : Addr} {x : Str} (h : SqT K H a [.int 0, .str x]) : SpV K H (.ref a) k 200 false := by
  refine sv_tup h (by show 2 ≤ 1000; decide) (fun x hx => ?_) (spelled_bad (.tail _ List.mem_cons_self) rfl)
  rcases List.mem_cons.mp hx with rfl | hx
  · exact nv_int _
  · rw [List.mem_singleton.mp hx]; exact nv_str _
theorem sv_1i {K : PySem.W.Frag} {H : Hp} {k i : Int} {a : Addr} (n : numB (.int i) 0 (k - 1) = false) (h : SqT K H a [.int i]) : SpV K H (.ref a) k 200 false := sv_tup h (by show 1 ≤ 1000; decide) (by intro x hx; rw [List.mem_singleton.mp hx]; exact nv_int _) (spelled_bad List.mem_cons_self n)
theorem num_big {k : Int} (h : k ≤ 4) : numB (.int (10 ^ (Int.toNat 60))) 0 (k - 1) = false := by
  have e : ((10 : Int) ^ (60 : Int).toNat) = 10 ^ 60 := rfl
  rw [e]
  simp only [numB, Bool.and_eq_false_iff, decide_eq_false_iff_not]
  exact .inr (by omega)
theorem sv_1t {K : PySem.W.Frag} {H : Hp} {k : Int} {a p : Addr} {xs : List V} (h : SqT K H a [.ref p]) (hp : SqT K H p xs) : SpV K H (.ref a) k 200 false := sv_tup h (by show 1 ≤ 1000; decide) (by intro x hx; rw [List.mem_singleton.mp hx]; exact nv_tup hp) (spelled_bad List.mem_cons_self rfl)
def sp_tworight {K : PySem.W.Frag} {mg : Str → Option Value} (T : Txt K mg) : Sp := fun vs H Q _ => ∃ (b : Addr) (k : Int) (bv : V) (z : PyData), vs = [.ref b, bv, .int k] ∧ Bag b H ∧ 1 ≤ k ∧ k ≤ 4 ∧ BadN K b H bv 1 4 z ∧ Tabs T.tabs H ∧
  ∀ H', KpN b H H' → Tabs T.tabs H' → Q (.bl true) H'
section
variable {P : Program} {w : World} {K : PySem.W.Frag} {mg : Str → Option Value} {base : Heap}
theorem ok__law_two_right (T : Txt K mg) (TB : ∀ p ∈ T.cs, TabB base mg p.1 p.2) : FnG P w K mg base CX0 8 T.a__law_two_right T.d__law_two_right ["bag", "bad", "letters"] (sp_tworight T) := by
  refine Fun.okG T.F__law_two_right sc__law_two_right (fun vs H Q E h => ?_) (fun cdv A outer s H vs Q E hcd hg hr h => ?_)
  · obtain ⟨b, k, bv, z, rfl, _⟩ := h
    rfl
  · obtain ⟨b, k, bv, z, rfl, hb, k1, k4, hbad, ht, q⟩ := h
    refine ⟨_, (pss_cons (ps_set (i := 3) sc__law_two_right.nd rfl (Or.inl rfl) (pe_lstS (pa_cons pe_non (pa_cons pe_int (pa_cons pe_str (pa_cons (pe_lstS (pa_cons pe_int pa_nil)) (pa_cons (pe_tupK (K := K) rfl (pa_cons (pv 2) pa_nil)) (pa_cons (pe_tupK (K := K) rfl (pa_cons (pe_un un_neg pe_int) pa_nil)) (pa_cons (pe_tupK (K := K) rfl (pa_cons pe_bl pa_nil)) (pa_cons (pe_tupK (K := K) rfl (pa_cons pe_int (pa_cons pe_non pa_nil))) (pa_cons (pe_op op_repS (pe_tupK (K := K) rfl (pa_cons pe_int pa_nil)) pe_int) (pa_cons (pe_tupK (K := K) rfl (pa_cons (pe_tupK (K := K) rfl (pa_cons pe_int pa_nil)) pa_nil)) (pa_cons pe_dnewK (pa_cons (pe_tupK (K := K) rfl (pa_cons (pe_op op_pow pe_int pe_int) pa_nil)) (pa_cons (pe_tupK (K := K) rfl (pa_cons pe_int (pa_cons pe_str pa_nil))) pa_nil))))))))))))))) (pss_cons (ps_asg (pe_tupK (K := K) rfl (pa_cons (pe_call (ok__law_one_of T) (hr.mono (by decide)) rfl T.m__law_one_of T.F__law_one_of.kp T.b__law_one_of .nil pass0 (pa_cons (pv 0) (pa_cons (pv 3) pa_nil))) (pa_cons (pe_call (ok__law_one_of T) (hr.mono (by decide)) rfl T.m__law_one_of T.F__law_one_of.kp T.b__law_one_of .nil pass0 (pa_cons (pv 0) (pa_cons (pv 3) pa_nil))) pa_nil))) (pg_tupK (K := K) (n := 2) rfl rfl (pgs_cons (pg_name (i := 4) sc__law_two_right.nd rfl (Or.inr rfl)) (pgs_cons (pg_name (i := 5) sc__law_two_right.nd rfl (Or.inr rfl)) pgs_nil)))) (pss_cons (ps_for PassesOwn.never rfl (pi_tup (pe_tupK (K := K) rfl (pa_cons (pe_glob (v := .ref T.a_compare_words) rfl T.m_compare_words rfl) (pa_cons (pe_glob (v := .ref T.a_common_end) rfl T.m_common_end rfl) (pa_cons (pe_glob (v := .ref T.a_is_end) rfl T.m_is_end rfl) pa_nil))))) (pg_name (i := 6) sc__law_two_right.nd rfl (Or.inr rfl)) (pss_cons (ps_set (i := 7) sc__law_two_right.nd rfl (Or.inl rfl) (pe_lstS (pa_cons (pe_lamF (k := 5) (T := T.tabs) (TT := TTm T) rfl T.m__law_fault T.F__law_fault T.b__law_fault sc__law_fault rfl (Or.inl rfl) (by refine met_gives (kk := 1) T rfl rfl ?_ ?_; exact hg; exact hr.mono (by decide)) (TB _ T.in__law_two_right) (hcd.symm.trans T.hc__law_two_right) T.on__law_two_right T.un__law_two_right (hr.mono (by decide)) (by exact lamS_by (sc := defScope s__law_two_right) (by decide +kernel)) (fun A outer s H E f c' hr => (pe_callAX (i := 6) (k := 5) (S := heldC T) (heldC_ok T) (hr.mono (by decide)) rfl (Or.inr (Or.inr rfl)) (passE (takes_of rfl rfl rfl rfl)) (pa_cons (pv 1) (pa_cons (pv 4) (pa_cons (pv 5) pa_nil)))))) pa_nil))) (pss_cons (ps_expr (pe_bm PySem.F.plainAttrs_list PySem.F.slot_list_append PySem.F.type_list_append mt_append (pv 7) (pa_cons (pe_lamF (k := 5) (T := T.tabs) (TT := TTm T) rfl T.m__law_fault T.F__law_fault T.b__law_fault sc__law_fault rfl (Or.inl rfl) (by refine met_gives (kk := 1) T rfl rfl ?_ ?_; exact hg; exact hr.mono (by decide)) (TB _ T.in__law_two_right) (hcd.symm.trans T.hc__law_two_right) T.on__law_two_right T.un__law_two_right (hr.mono (by decide)) (by exact lamS_by (sc := defScope s__law_two_right) (by decide +kernel)) (fun A outer s H E f c' hr => (pe_callAX (i := 6) (k := 5) (S := heldC T) (heldC_ok T) (hr.mono (by decide)) rfl (Or.inr (Or.inr rfl)) (passE (takes_of rfl rfl rfl rfl)) (pa_cons (pv 2) (pa_cons (pv 4) (pa_cons (pv 5) pa_nil)))))) pa_nil))) (pss_cons (ps_expr (pe_bm PySem.F.plainAttrs_list PySem.F.slot_list_append PySem.F.type_list_append mt_append (pv 7) (pa_cons (pe_lamF (k := 5) (T := T.tabs) (TT := TTm T) rfl T.m__law_fault T.F__law_fault T.b__law_fault sc__law_fault rfl (Or.inl rfl) (by refine met_gives (kk := 1) T rfl rfl ?_ ?_; exact hg; exact hr.mono (by decide)) (TB _ T.in__law_two_right) (hcd.symm.trans T.hc__law_two_right) T.on__law_two_right T.un__law_two_right (hr.mono (by decide)) (by exact lamS_by (sc := defScope s__law_two_right) (by decide +kernel)) (fun A outer s H E f c' hr => (pe_callAX (i := 6) (k := 5) (S := heldC T) (heldC_ok T) (hr.mono (by decide)) rfl (Or.inr (Or.inr rfl)) (passE (takes_of rfl rfl rfl rfl)) (pa_cons (pv 2) (pa_cons (pe_tupK (K := K) rfl (pa_cons pe_int pa_nil)) (pa_cons (pv 5) pa_nil)))))) pa_nil))) (pss_cons (ps_expr (pe_bm PySem.F.plainAttrs_list PySem.F.slot_list_append PySem.F.type_list_append mt_append (pv 7) (pa_cons (pe_lamF (k := 5) (T := T.tabs) (TT := TTm T) rfl T.m__law_fault T.F__law_fault T.b__law_fault sc__law_fault rfl (Or.inl rfl) (by refine met_gives (kk := 1) T rfl rfl ?_ ?_; exact hg; exact hr.mono (by decide)) (TB _ T.in__law_two_right) (hcd.symm.trans T.hc__law_two_right) T.on__law_two_right T.un__law_two_right (hr.mono (by decide)) (by exact lamS_by (sc := defScope s__law_two_right) (by decide +kernel)) (fun A outer s H E f c' hr => (pe_callAX (i := 6) (k := 5) (S := heldC T) (heldC_ok T) (hr.mono (by decide)) rfl (Or.inr (Or.inr rfl)) (passE (takes_of rfl rfl rfl rfl)) (pa_cons (pv 2) (pa_cons (pv 4) (pa_cons (pe_tupK (K := K) rfl pa_nil) pa_nil)))))) pa_nil))) (pss_cons (ps_expr (pe_bm PySem.F.plainAttrs_list PySem.F.slot_list_append PySem.F.type_list_append mt_append (pv 7) (pa_cons (pe_lamF (k := 5) (T := T.tabs) (TT := TTm T) rfl T.m__law_fault T.F__law_fault T.b__law_fault sc__law_fault rfl (Or.inl rfl) (by refine met_gives (kk := 1) T rfl rfl ?_ ?_; exact hg; exact hr.mono (by decide)) (TB _ T.in__law_two_right) (hcd.symm.trans T.hc__law_two_right) T.on__law_two_right T.un__law_two_right (hr.mono (by decide)) (by exact lamS_by (sc := defScope s__law_two_right) (by decide +kernel)) (fun A outer s H E f c' hr => (pe_callAX (i := 6) (k := 5) (S := heldC T) (heldC_ok T) (hr.mono (by decide)) rfl (Or.inr (Or.inr rfl)) (passE (takes_of rfl rfl rfl rfl)) (pa_cons (pv 2) (pa_cons (pe_op (op_repK (K := K) rfl) (pe_tupK (K := K) rfl (pa_cons pe_int pa_nil)) pe_int) (pa_cons (pe_tupK (K := K) rfl pa_nil) pa_nil)))))) pa_nil))) (pss_one (ps_if (pt_cmpR (op_neD hr.units) (pv 7) (pe_op op_catL (pe_op op_catL (pe_lstS (pa_cons (pe_tupK (K := K) rfl (pa_cons pe_str (pa_cons pe_str (pa_cons (pe_callB (call_reprD hg hr.units) rfl T.n_repr (by decide +kernel) (pa_cons (pv 1) pa_nil)) pa_nil)))) pa_nil)) (pe_op op_repL (pe_lstS (pa_cons (pe_tupK (K := K) rfl (pa_cons pe_str (pa_cons pe_str pa_nil))) pa_nil)) pe_int)) (pe_lstS (pa_cons (pe_tupK (K := K) rfl (pa_cons pe_str pa_nil)) pa_nil))) (nomark _)) (pss_one (ps_ret pe_bl)) pss_nil)))))))) (pss_one (ps_ret pe_bl))))), ?_⟩
    refine ⟨by show 1 ≤ sizeLine; decide, fun A1 l1 a1 n1 e1 => ?_⟩
    refine ⟨_, rfl, by show 1 ≤ sizeLine; decide, fun A2 q2 a2 g2 => ?_⟩
    refine ⟨_, rfl, by show 1 ≤ sizeLine; decide, fun A3 q3 a3 g3 => ?_⟩
    refine ⟨by show 1 ≤ sizeLine; decide, fun A4 q4 a4 g4 => ?_⟩
    refine ⟨by show 2 ≤ sizeLine; decide, fun A5 q5 a5 g5 => ?_⟩
    refine ⟨by show 1 ≤ sizeLine; decide, fun A6 q6 a6 g6 => ?_⟩
    refine ⟨q6, _, _, rfl, rfl, g6, by decide, by decide, by decide, fun A7 q7 a7 g7 => ?_⟩
    refine ⟨by show 1 ≤ sizeLine; decide, fun A8 q8 a8 g8 => ?_⟩
    refine ⟨by show 1 ≤ sizeLine; decide, fun A9 q9 a9 g9 => ?_⟩
    intro d hd
    refine ⟨_, _, rfl, rfl, ⟨by decide, by decide, by decide⟩, by show 1 ≤ sizeLine; decide, fun B1 r1 b1 h1 => ?_⟩
    refine ⟨by show 2 ≤ sizeLine; decide, fun B2 r2 b2 h2 => ?_⟩
    refine ⟨by show 13 ≤ sizeLine; decide, fun HA la sA nA eA => ?_⟩
    have c2 := sA
    have c1 := Same.trans b2 c2
    have cd := Same.trans b1 c1
    have c9 := Same.trans (same_upd hd (.dK [])) cd
    have c8 := Same.trans a9 c9
    have c7 := Same.trans a8 c8
    have d6 := Same.trans a7 c7
    have d5 := Same.trans a6 d6
    have d4 := Same.trans a5 d5
    have d3 := Same.trans a4 d4
    have d2 := Same.trans a3 d3
    have d1 := Same.trans a2 d2
    have s0A := Same.trans a1 d1
    have s09 : Same H A9 := Same.trans a1 (Same.trans a2 (Same.trans a3 (Same.trans a4 (Same.trans a5 (Same.trans a6 (Same.trans a7 (Same.trans a8 a9)))))))
    have s0B : Same H B2 := Same.trans s09 (Same.trans (same_upd hd (.dK [])) (Same.trans b1 b2))
    have bA : Bag b HA := hb.same s0A
    have old {a : Addr} {G : Hp} (s : Same H G) (n : G a = none) : a ≠ b := ne_bag (hb.same s) n
    have nla := old s0B nA
    have menu : ∀ x ∈ _, ∀ G, KpN b HA G → SpV K G x k 200 false := fun x hx G kG => by
      have xs {a : Addr} {ys : List V} {G' : Hp} (s : Same G' HA) (h : SqT K G' a ys) : SqT K G a ys := kG.sqt bA (Same.sqt s h)
      have ob {a : Addr} {o : HO} (n : a ≠ b) (e : HA a = some o) (t : ∀ ps, o ≠ .tbl ps) : G a = some o := kG.2 _ _ n e t
      change x ∈ [V.non, .int 1, .str "0", .ref l1, .ref q2, .ref q3, .ref q4, .ref q5, .ref q7, .ref q9, .ref d, .ref r1, .ref r2] at hx
      simp only [List.mem_cons, List.not_mem_nil, or_false] at hx
      rcases hx with rfl | rfl | rfl | rfl | rfl | rfl | rfl | rfl | rfl | rfl | rfl | rfl | rfl
      · exact sv_non
      · exact sv_int _
      · exact sv_str _
      · exact sv_lst (ob (old (Same.refl H) n1) (d1 _ _ e1) fun ps z => by cases z)
      · exact sv_1k (xs d2 g2)
      · exact sv_1i (by simp [numB]) (xs d3 g3)
      · exact sv_1b (xs d4 g4)
      · exact sv_0n (xs d5 g5)
      · exact sv_201 (xs c7 g7)
      · exact sv_1t (xs c9 g9) (xs c8 g8)
      · exact sv_dK (ob (old s09 hd) (cd _ _ upd_same) fun ps z => by cases z)
      · exact sv_1i (num_big k4) (xs c1 h1)
      · exact sv_0s (xs c2 h2)
    -- one, other
    refine ⟨_, rfl, _, rfl, b, la, _, rfl, bA, nla, eA, by show 0 < 13; decide, by show 13 < 1000; decide, fun HB v kB hv => ?_⟩
    refine ⟨_, rfl, _, rfl, b, la, _, rfl, kB.1, nla, kB.2 _ _ nla eA, by show 0 < 13; decide, by show 13 < 1000; decide, fun HC u kC hu => ?_⟩
    have kAC : KpN b HA HC := (KpN.of kB).trans (KpN.of kC)
    have hvC : ∀ G, KpN b HC G → SpV K G v k 200 false := fun G kG => menu v hv G (kAC.trans kG)
    have huC : ∀ G, KpN b HC G → SpV K G u k 200 false := fun G kG => menu u hu G (kAC.trans kG)
    have tC : Tabs T.tabs HC := tabs_kp kB.1 kC (tabs_kp bA kB (ht.ext s0A))
    have kHC : KpN b H HC := (KpN.ext hb (Same.ext s0A)).trans kAC
    have bC := kC.1
    have bd := hbad.to kHC
    clear menu hv hu eA nla old
    refine ⟨by show 2 ≤ sizeLine; decide, fun HD pt sD hD => ⟨pt, _, rfl, hD, rfl, ?_⟩⟩
    refine ⟨_, _, rfl, _, _, rfl, rfl, ?_⟩
    refine ⟨by show 3 ≤ sizeLine; decide, fun F0 pf sF hF => ⟨pf, rfl, ⟨_, hF⟩, for_tup (K := K) (a := pf) (xs := [.ref T.a_compare_words, .ref T.a_common_end, .ref T.a_is_end]) (fun i σ G => ExtN F0 G ∧ Tabs T.tabs G ∧ ∃ w1 w2, σ = [some (.ref b), some bv, some (.int k), some (.ref la), some v, some u, w1, w2]) ⟨ExtN.refl F0, (tC.ext sD).ext sF, _, _, rfl⟩ (fun i σ G _ p => ext_sqt p.1 hF) ?_ ?_⟩⟩
    · rintro i y σ G hi ⟨eG, tG, w1, w2, rfl⟩
      obtain ⟨f, rfl, hf⟩ : ∃ f, y = .ref f ∧ (f = T.a_compare_words ∨ f = T.a_common_end ∨ f = T.a_is_end) := by
        match i, hi with
        | 0, hi => exact ⟨_, (Option.some.inj hi).symm, .inl rfl⟩
        | 1, hi => exact ⟨_, (Option.some.inj hi).symm, .inr (.inl rfl)⟩
        | 2, hi => exact ⟨_, (Option.some.inj hi).symm, .inr (.inr rfl)⟩
      have kCG : KpN b HC G := KpN.ext bC ((Same.ext (Same.trans sD sF)).trans eG)
      have kG : ∀ G', ExtN G G' → KpN b HC G' := fun G' e => kCG.trans (KpN.ext kCG.1 e)
      have noN : numB (.int k) 1 4 = false → False := fun e => by rw [num_of k1 k4] at e; cases e
      -- call(bad, one, other)
      refine ⟨tG, fun L1 x1 t1 => ?_⟩
      refine ⟨f, _, rfl, ⟨hf, rfl⟩, _, rfl, _, rfl, _, rfl, ?_⟩
      refine ⟨bv, v, u, rfl, bd.num _ (kG _ x1), fun _ => mNum t1 (bd.dp _ (kG _ x1)) bd.sh (GotN.to (tl_first fun l M1 tl1 => ?_) x1), fun k' ek a1 a4 => ?_⟩
      rotate_left
      · have := bd.no
        rw [ek, num_of a1 a4] at this
        cases this
      clear x1 t1 L1
      -- call(letters, one, other)
      refine ⟨_, rfl, .inl ⟨rfl, _, SqL.of tl1.lst.choose_spec.1⟩, tl1.tab, fun L1 x1 t1 => ?_⟩
      refine ⟨f, _, rfl, ⟨hf, rfl⟩, _, rfl, _, rfl, _, rfl, ?_⟩
      refine ⟨.int k, v, u, rfl, nv_int k, fun e => (noN e).elim, fun k' ek a1 a4 => ?_⟩
      cases ek
      refine ⟨false, hvC _ (kG _ (tl1.ext.trans x1)), fun _ => mWord t1 (GotN.to (tl1.more (by simp) fun M2 tl2 => ?_) x1), fun z => by cases z⟩
      clear x1 t1 L1 a1 a4
      -- call(letters, (0,), other)
      refine ⟨_, rfl, .inl ⟨rfl, _, SqL.of tl2.lst.choose_spec.1⟩, tl2.tab, fun L1 x1 t1 => ?_⟩
      refine ⟨f, _, rfl, ⟨hf, rfl⟩, _, rfl, by show 1 ≤ sizeLine; decide, fun L2 p s2 hp => ⟨_, rfl, ?_⟩⟩
      have x2 := x1.trans (Same.ext s2)
      have o0 : okW k [0] := ⟨by decide, fun n hn => by rw [List.mem_singleton.mp hn]; omega⟩
      refine ⟨.int k, .ref p, u, rfl, nv_int k, fun e => (noN e).elim, fun k' ek a1 a4 => ?_⟩
      cases ek
      refine ⟨true, spv_of (ws := [0]) ⟨p, rfl, hp⟩ o0, fun z => (by cases z), fun _ => ⟨false, huC _ (kG _ (tl2.ext.trans x2)), fun _ => mWord (t1.ext s2) (GotN.to (tl2.more (by simp) fun M3 tl3 => ?_) x2), fun z => by cases z⟩⟩
      clear x1 x2 t1 L1 a1 a4 hp s2 p L2
      -- call(letters, one, ())
      refine ⟨_, rfl, .inl ⟨rfl, _, SqL.of tl3.lst.choose_spec.1⟩, tl3.tab, fun L1 x1 t1 => ?_⟩
      refine ⟨f, _, rfl, ⟨hf, rfl⟩, _, rfl, _, rfl, by show 0 ≤ sizeLine; decide, fun L2 p s2 hp => ?_⟩
      have x2 := x1.trans (Same.ext s2)
      refine ⟨.int k, v, .ref p, rfl, nv_int k, fun e => (noN e).elim, fun k' ek a1 a4 => ?_⟩
      cases ek
      refine ⟨false, hvC _ (kG _ (tl3.ext.trans x2)), fun _ => mWord (t1.ext s2) (GotN.to (tl3.more (by simp) fun M4 tl4 => ?_) x2), fun z => by cases z⟩
      clear x1 x2 t1 L1 a1 a4 hp s2 p L2
      -- call(letters, (0,) * 200, ())
      refine ⟨_, rfl, .inl ⟨rfl, _, SqL.of tl4.lst.choose_spec.1⟩, tl4.tab, fun L1 x1 t1 => ?_⟩
      refine ⟨f, _, rfl, ⟨hf, rfl⟩, _, rfl, by show 1 ≤ sizeLine; decide, fun L2 p s2 hp => ?_⟩
      refine ⟨p, _, _, rfl, rfl, hp, by decide, by decide, by decide, fun L3 r s3 hr3 => ?_⟩
      refine ⟨by show 0 ≤ sizeLine; decide, fun L4 p4 s4 hp4 => ?_⟩
      have s24 := Same.trans s2 (Same.trans s3 s4)
      rw [zeros_v] at hr3
      have hr4 := Same.sqt s4 hr3
      have o200 : okW k (List.replicate (Int.toNat 200) (0 : Int)) := ⟨by rw [List.length_replicate]; decide, fun n hn => by rw [List.eq_of_mem_replicate hn]; omega⟩
      refine ⟨.int k, .ref r, .ref p4, rfl, nv_int k, fun e => (noN e).elim, fun k' ek a1 a4 => ?_⟩
      cases ek
      refine ⟨true, spv_of ⟨r, rfl, hr4⟩ o200, fun z => (by cases z), fun _ => ⟨true, spv_of (ws := []) ⟨p4, rfl, hp4⟩ ⟨by decide, fun n hn => by cases hn⟩, fun z => (by cases z), fun _ x L5 s5 => ?_⟩⟩
      refine GotN.fine (tl4.more (by simp) fun M5 tl5 => ?_) (x1.trans (Same.ext (Same.trans s24 s5))) (t1.ext (Same.trans s24 s5))
      clear x1 t1 a1 a4 hr3 hr4 hp4 s24 s5 s4 s3 s2 hp
      -- what is due
      have e5 := tl5.ext
      refine ⟨_, rfl, _, rfl, bv, z, rfl, bd.dp _ (kG _ e5), bd.sh, by show 3 ≤ sizeLine; decide, fun N1 pn r1 h1 => ?_⟩
      refine ⟨by show 1 ≤ sizeLine; decide, fun N2 l2 r2 n2 g2 => ?_⟩
      refine ⟨by show 2 ≤ sizeLine; decide, fun N3 pw r3 h3 => ?_⟩
      refine ⟨by show 1 ≤ sizeLine; decide, fun N4 l4 r4 n4 g4 => ?_⟩
      refine ⟨l4, 3, _, rfl, rfl, g4, by decide, by decide, by show 3 * 1 ≤ sizeLine; decide, fun N5 l5 r5 n5 g5 => ?_⟩
      refine ⟨l2, l5, _, _, rfl, rfl, Same.trans r3 (Same.trans r4 r5) _ _ g2, g5, by show 4 ≤ sizeLine; decide, fun N6 l6 r6 n6 g6 => ?_⟩
      refine ⟨by show 1 ≤ sizeLine; decide, fun N7 pl r7 h7 => ?_⟩
      refine ⟨by show 1 ≤ sizeLine; decide, fun N8 l8 r8 n8 g8 => ?_⟩
      refine ⟨l6, l8, _, _, rfl, rfl, Same.trans r7 r8 _ _ g6, g8, by show 5 ≤ sizeLine; decide, fun N9 l9 r9 n9 g9 => ?_⟩
      have y8 := r9
      have y7 := Same.trans r8 y8
      have y6 := Same.trans r7 y7
      have y5 := Same.trans r6 y6
      have y4 := Same.trans r5 y5
      have y3 := Same.trans r4 y4
      have y2 := Same.trans r3 y3
      have y1 := Same.trans r2 y2
      have y0 := Same.trans r1 y1
      obtain ⟨vs, hl5, hs5⟩ := tl5.at_
      have st : ∀ a xs, SqT K M5 a xs → SqT K N9 a xs := fun a xs h => Same.sqt y0 h
      have iw : IsSt K N9 (.ref pw) tW := ⟨pw, rfl, Same.sqt y3 h3⟩
      have two : IsSts K N9 _ [tN z, tW, tW, tW, tL] := .cons ⟨pn, rfl, Same.sqt y1 h1⟩ (.cons iw (.cons iw (.cons iw (.cons ⟨pl, rfl, Same.sqt y7 h7⟩ .nil))))
      have lay : okL [tN z, tW, tW, tW, tL] := okL_cons (lN bd.sh) (okL_cons lW (okL_cons lW (okL_cons lW (okL_cons lL okL_nil))))
      have hs9 : IsSts K N9 vs [tN z, tW, tW, tW, tL] := hs5.to st
      have eqv := eqv_sts lay
      refine ⟨_, _, IsSts.dp (SqL.of (y0 _ _ hl5)) hs9, IsSts.dp (SqL.of g9) two, shaped_sts lay, shaped_sts lay, _, rfl, ?_⟩
      rw [eqv]
      refine iteF ?_
      exact ⟨eG.trans (tl5.ext.trans (Same.ext y0)), tl5.tab.ext y0, _, _, rfl⟩
    · rintro σ G ⟨eG, tG, w1, w2, rfl⟩
      exact q G (kHC.trans (KpN.ext bC ((Same.ext (Same.trans sD sF)).trans eG))) tG
end
end K01
/-! K01n -/
set_option Elab.async false
set_option linter.all false
set_option maxRecDepth 100000
set_option maxHeartbeats 4000000
namespace K01
open PySem PySem.Spec PyProof.Rows L2 PpSet RL LamX
open K00
/-- no tuple of words of so many letters -/
def BadWs (K : PySem.W.Frag) (H : Hp) (k : Int) (v : V) : Prop := (∃ t, TyX K H v t ∧ PySem.W.kitOne K t (.type "tuple") = some false) ∨
  ∃ a xs, v = .ref a ∧ SqT K H a xs ∧ (200 < xs.length ∨ xs.length ≤ 200 ∧ ∃ bs, Sps K H k xs bs ∧ false ∈ bs)
theorem BadWs.refuse {K : PySem.W.Frag} {H : Hp} {k : Int} {v : V} {R : Prop} {D : List V → Prop} (h : BadWs K H k v) (r : R) : ((∃ t, TyX K H v t ∧ PySem.W.kitOne K t (.type "tuple") = some false) ∧ R) ∨
    ∃ a xs, v = .ref a ∧ SqT K H a xs ∧ (200 < xs.length → R) ∧ (xs.length ≤ 200 → ∃ bs, Sps K H k xs bs ∧ (false ∈ bs → R) ∧ ((∀ b ∈ bs, b = true) → D xs)) := by
  rcases h with h | ⟨a, xs, e, hx, h⟩
  · exact .inl ⟨h, r⟩
  · refine .inr ⟨a, xs, e, hx, fun _ => r, fun hl => ?_⟩
    rcases h with h | ⟨_, bs, hs, hf⟩
    · omega
    · exact ⟨bs, hs, fun _ => r, fun al => by have := al _ hf; cases this⟩
theorem sz3 {k : Int} (k1 : 1 ≤ k) (k4 : k ≤ 4) : sz k 3 ≤ 85 := by
  have : k = 1 ∨ k = 2 ∨ k = 3 ∨ k = 4 := by omega
  rcases this with rfl | rfl | rfl | rfl <;> decide
theorem refs_len (n : Nat) (p : Addr) : ((List.replicate n [V.ref p]).flatten).length = n := by
  induction n with
  | zero => rfl
  | succ n ih => rw [List.replicate_succ, List.flatten_cons, List.length_append, ih]; simp; omega
theorem no_num {K : PySem.W.Frag} {b : Addr} {H : Hp} {v : V} {hi : Int} {z : PyData} (h : BadN K b H v 0 hi z) {n : Nat} (e : v = .int n) (hn : (n : Int) ≤ hi) : False := by
  have := h.no
  rw [e] at this
  simp only [numB, Bool.and_eq_false_iff, decide_eq_false_iff_not] at this
  omega
theorem no_int {K : PySem.W.Frag} {b : Addr} {H : Hp} {v : V} {hi : Int} {z : PyData} (h : BadN K b H v 0 hi z) {n : Int} (e : v = .int n) (h0 : 0 ≤ n) (hn : n ≤ hi) : False := by
  have := h.no
  rw [e] at this
  simp only [numB, Bool.and_eq_false_iff, decide_eq_false_iff_not] at this
  omega
section
variable {P : Program} {w : World} {K : PySem.W.Frag} {mg : Str → Option Value} {base : Heap}
theorem ok__law_lists_right (T : Txt K mg) (TB : ∀ p ∈ T.cs, TabB base mg p.1 p.2) : FnG P w K mg base CX0 11 T.a__law_lists_right T.d__law_lists_right ["bag", "bad", "letters"] (sp_tworight T) := by
  refine Fun.okG T.F__law_lists_right sc__law_lists_right (fun vs H Q E h => ?_) (fun cdv A outer s H vs Q E hcd hg hr h => ?_)
  · obtain ⟨b, k, bv, z, rfl, _⟩ := h
    rfl
  · obtain ⟨b, k, bv, z, rfl, hb, k1, k4, bd, ht, q⟩ := h
    refine ⟨_, (pss_cons (ps_set (i := 3) sc__law_lists_right.nd rfl (Or.inr rfl) (pe_call (ok__law_one_of T) (hr.mono (by decide)) rfl T.m__law_one_of T.F__law_one_of.kp T.b__law_one_of .nil pass0 (pa_cons (pv 0) (pa_cons (pe_lstS (pa_cons pe_non (pa_cons pe_str (pa_cons (pe_lstS (pa_cons pe_int pa_nil)) (pa_cons (pe_tupK (K := K) rfl (pa_cons (pv 2) pa_nil)) (pa_cons (pe_tupK (K := K) rfl (pa_cons pe_bl pa_nil)) (pa_cons (pe_op op_repS (pe_tupK (K := K) rfl (pa_cons pe_int pa_nil)) pe_int) (pa_cons pe_dnewK pa_nil)))))))) pa_nil)))) (pss_cons (ps_set (i := 4) sc__law_lists_right.nd rfl (Or.inr rfl) (pe_call (ok__law_one_of T) (hr.mono (by decide)) rfl T.m__law_one_of T.F__law_one_of.kp T.b__law_one_of .nil pass0 (pa_cons (pv 0) (pa_cons (pe_lstS (pa_cons pe_non (pa_cons (pe_lstS (pa_cons (pe_tupK (K := K) rfl (pa_cons pe_int pa_nil)) pa_nil)) (pa_cons (pe_tupK (K := K) rfl (pa_cons (pe_tupK (K := K) rfl (pa_cons pe_int pa_nil)) (pa_cons pe_non pa_nil))) (pa_cons (pe_tupK (K := K) rfl (pa_cons (pe_tupK (K := K) rfl (pa_cons (pv 2) pa_nil)) pa_nil)) (pa_cons pe_str (pa_cons (pe_op op_repS (pe_tupK (K := K) rfl (pa_cons (pe_tupK (K := K) rfl (pa_cons pe_int pa_nil)) pa_nil)) pe_int) (pa_cons pe_dnewK (pa_cons (pe_tupK (K := K) rfl (pa_cons pe_int pa_nil)) (pa_cons (pe_tupK (K := K) rfl (pa_cons (pe_tupK (K := K) rfl (pa_cons pe_int pa_nil)) (pa_cons (pe_lstS (pa_cons pe_int pa_nil)) pa_nil))) pa_nil)))))))))) pa_nil)))) (pss_cons (ps_set (i := 5) sc__law_lists_right.nd rfl (Or.inr rfl) (pe_call (ok__law_one_of T) (hr.mono (by decide)) rfl T.m__law_one_of T.F__law_one_of.kp T.b__law_one_of .nil pass0 (pa_cons (pv 0) (pa_cons (pe_lstS (pa_cons pe_non (pa_cons (pe_un un_neg pe_int) (pa_cons pe_int (pa_cons pe_bl (pa_cons pe_str (pa_cons (pe_tupK (K := K) rfl (pa_cons pe_int pa_nil)) (pa_cons (pe_op op_pow pe_int pe_int) pa_nil)))))))) pa_nil)))) (pss_cons (ps_set (i := 6) sc__law_lists_right.nd rfl (Or.inr rfl) (pe_call (ok__law_one_of T) (hr.mono (by decide)) rfl T.m__law_one_of T.F__law_one_of.kp T.b__law_one_of .nil pass0 (pa_cons (pv 0) (pa_cons (pe_lstS (pa_cons pe_non (pa_cons (pe_un un_neg pe_int) (pa_cons pe_int (pa_cons pe_bl (pa_cons pe_str (pa_cons (pe_tupK (K := K) rfl (pa_cons pe_int pa_nil)) (pa_cons (pe_op op_pow pe_int pe_int) pa_nil)))))))) pa_nil)))) (pss_cons (ps_set (i := 7) sc__law_lists_right.nd rfl (Or.inr rfl) (pe_call (ok__law_one_of T) (hr.mono (by decide)) rfl T.m__law_one_of T.F__law_one_of.kp T.b__law_one_of .nil pass0 (pa_cons (pv 0) (pa_cons (pe_lstS (pa_cons pe_non (pa_cons (pe_un un_neg pe_int) (pa_cons pe_bl (pa_cons pe_str (pa_cons (pe_tupK (K := K) rfl (pa_cons pe_int pa_nil)) (pa_cons (pe_op op_pow pe_int pe_int) (pa_cons (pe_op op_sub pe_int (pe_op op_pow pe_int pe_int)) pa_nil)))))))) pa_nil)))) (pss_cons (ps_set (i := 8) sc__law_lists_right.nd rfl (Or.inl rfl) (pe_lstS (pa_cons (pe_lamF (k := 4) (T := T.tabs) (TT := TTm T) rfl T.m__law_fault T.F__law_fault T.b__law_fault sc__law_fault rfl (Or.inl rfl) (by refine met_gives (kk := 1) T rfl rfl ?_ ?_; exact hg; exact hr.mono (by decide)) (TB _ T.in__law_lists_right) (hcd.symm.trans T.hc__law_lists_right) T.on__law_lists_right T.un__law_lists_right (hr.mono (by decide)) (by exact lamS_by (sc := defScope s__law_lists_right) (by decide +kernel)) (fun A outer s H E f c' hr => (pe_call (ok_sorted_words T) (hr.mono (by decide)) rfl T.m_sorted_words T.F_sorted_words.kp T.b_sorted_words .nil (passE (takes_of rfl rfl rfl rfl)) (pa_cons (pv 1) (pa_cons (pv 4) pa_nil))))) pa_nil))) (pss_cons (ps_expr (pe_bm PySem.F.plainAttrs_list PySem.F.slot_list_append PySem.F.type_list_append mt_append (pv 8) (pa_cons (pe_lamF (k := 4) (T := T.tabs) (TT := TTm T) rfl T.m__law_fault T.F__law_fault T.b__law_fault sc__law_fault rfl (Or.inl rfl) (by refine met_gives (kk := 1) T rfl rfl ?_ ?_; exact hg; exact hr.mono (by decide)) (TB _ T.in__law_lists_right) (hcd.symm.trans T.hc__law_lists_right) T.on__law_lists_right T.un__law_lists_right (hr.mono (by decide)) (by exact lamS_by (sc := defScope s__law_lists_right) (by decide +kernel)) (fun A outer s H E f c' hr => (pe_call (ok_sorted_words T) (hr.mono (by decide)) rfl T.m_sorted_words T.F_sorted_words.kp T.b_sorted_words .nil (passE (takes_of rfl rfl rfl rfl)) (pa_cons (pv 2) (pa_cons (pv 4) pa_nil))))) pa_nil))) (pss_cons (ps_expr (pe_bm PySem.F.plainAttrs_list PySem.F.slot_list_append PySem.F.type_list_append mt_append (pv 8) (pa_cons (pe_lamF (k := 8) (T := T.tabs) (TT := TTm T) rfl T.m__law_fault T.F__law_fault T.b__law_fault sc__law_fault rfl (Or.inl rfl) (by refine met_gives (kk := 1) T rfl rfl ?_ ?_; exact hg; exact hr.mono (by decide)) (TB _ T.in__law_lists_right) (hcd.symm.trans T.hc__law_lists_right) T.on__law_lists_right T.un__law_lists_right (hr.mono (by decide)) (by exact lamS_by (sc := defScope s__law_lists_right) (by decide +kernel)) (fun A outer s H E f c' hr => (pe_listG (pgen_call (ok_words_of T) (hr.mono (by decide)) rfl T.m_words_of T.F_words_of.kp T.b_words_of .nil (pa_cons (pv 1) (pa_cons (pv 5) pa_nil))) (passES (takes_of rfl rfl rfl rfl)) noStopES (hr.mono (by decide)) rfl T.n_list (by decide +kernel)))) pa_nil))) (pss_cons (ps_expr (pe_bm PySem.F.plainAttrs_list PySem.F.slot_list_append PySem.F.type_list_append mt_append (pv 8) (pa_cons (pe_lamF (k := 8) (T := T.tabs) (TT := TTm T) rfl T.m__law_fault T.F__law_fault T.b__law_fault sc__law_fault rfl (Or.inl rfl) (by refine met_gives (kk := 1) T rfl rfl ?_ ?_; exact hg; exact hr.mono (by decide)) (TB _ T.in__law_lists_right) (hcd.symm.trans T.hc__law_lists_right) T.on__law_lists_right T.un__law_lists_right (hr.mono (by decide)) (by exact lamS_by (sc := defScope s__law_lists_right) (by decide +kernel)) (fun A outer s H E f c' hr => (pe_listG (pgen_call (ok_words_of T) (hr.mono (by decide)) rfl T.m_words_of T.F_words_of.kp T.b_words_of .nil (pa_cons (pv 2) (pa_cons (pv 5) pa_nil))) (passES (takes_of rfl rfl rfl rfl)) noStopES (hr.mono (by decide)) rfl T.n_list (by decide +kernel)))) pa_nil))) (pss_cons (ps_expr (pe_bm PySem.F.plainAttrs_list PySem.F.slot_list_append PySem.F.type_list_append mt_append (pv 8) (pa_cons (pe_lamF (k := 8) (T := T.tabs) (TT := TTm T) rfl T.m__law_fault T.F__law_fault T.b__law_fault sc__law_fault rfl (Or.inl rfl) (by refine met_gives (kk := 1) T rfl rfl ?_ ?_; exact hg; exact hr.mono (by decide)) (TB _ T.in__law_lists_right) (hcd.symm.trans T.hc__law_lists_right) T.on__law_lists_right T.un__law_lists_right (hr.mono (by decide)) (by exact lamS_by (sc := defScope s__law_lists_right) (by decide +kernel)) (fun A outer s H E f c' hr => (pe_listG (pgen_call (ok_words_to T) (hr.mono (by decide)) rfl T.m_words_to T.F_words_to.kp T.b_words_to .nil (pa_cons (pv 1) (pa_cons (pv 5) pa_nil))) (passES (takes_of rfl rfl rfl rfl)) noStopES (hr.mono (by decide)) rfl T.n_list (by decide +kernel)))) pa_nil))) (pss_cons (ps_expr (pe_bm PySem.F.plainAttrs_list PySem.F.slot_list_append PySem.F.type_list_append mt_append (pv 8) (pa_cons (pe_lamF (k := 8) (T := T.tabs) (TT := TTm T) rfl T.m__law_fault T.F__law_fault T.b__law_fault sc__law_fault rfl (Or.inl rfl) (by refine met_gives (kk := 1) T rfl rfl ?_ ?_; exact hg; exact hr.mono (by decide)) (TB _ T.in__law_lists_right) (hcd.symm.trans T.hc__law_lists_right) T.on__law_lists_right T.un__law_lists_right (hr.mono (by decide)) (by exact lamS_by (sc := defScope s__law_lists_right) (by decide +kernel)) (fun A outer s H E f c' hr => (pe_listG (pgen_call (ok_words_to T) (hr.mono (by decide)) rfl T.m_words_to T.F_words_to.kp T.b_words_to .nil (pa_cons (pv 2) (pa_cons (pv 5) pa_nil))) (passES (takes_of rfl rfl rfl rfl)) noStopES (hr.mono (by decide)) rfl T.n_list (by decide +kernel)))) pa_nil))) (pss_cons (ps_expr (pe_bm PySem.F.plainAttrs_list PySem.F.slot_list_append PySem.F.type_list_append mt_append (pv 8) (pa_cons (pe_lamF (k := 4) (T := T.tabs) (TT := TTm T) rfl T.m__law_fault T.F__law_fault T.b__law_fault sc__law_fault rfl (Or.inl rfl) (by refine met_gives (kk := 1) T rfl rfl ?_ ?_; exact hg; exact hr.mono (by decide)) (TB _ T.in__law_lists_right) (hcd.symm.trans T.hc__law_lists_right) T.on__law_lists_right T.un__law_lists_right (hr.mono (by decide)) (by exact lamS_by (sc := defScope s__law_lists_right) (by decide +kernel)) (fun A outer s H E f c' hr => (pe_call (ok_word_place T) (hr.mono (by decide)) rfl T.m_word_place T.F_word_place.kp T.b_word_place .nil (passE (takes_of rfl rfl rfl rfl)) (pa_cons (pv 1) (pa_cons (pv 6) (pa_cons (pv 3) pa_nil)))))) pa_nil))) (pss_cons (ps_expr (pe_bm PySem.F.plainAttrs_list PySem.F.slot_list_append PySem.F.type_list_append mt_append (pv 8) (pa_cons (pe_lamF (k := 4) (T := T.tabs) (TT := TTm T) rfl T.m__law_fault T.F__law_fault T.b__law_fault sc__law_fault rfl (Or.inl rfl) (by refine met_gives (kk := 1) T rfl rfl ?_ ?_; exact hg; exact hr.mono (by decide)) (TB _ T.in__law_lists_right) (hcd.symm.trans T.hc__law_lists_right) T.on__law_lists_right T.un__law_lists_right (hr.mono (by decide)) (by exact lamS_by (sc := defScope s__law_lists_right) (by decide +kernel)) (fun A outer s H E f c' hr => (pe_call (ok_word_place T) (hr.mono (by decide)) rfl T.m_word_place T.F_word_place.kp T.b_word_place .nil (passE (takes_of rfl rfl rfl rfl)) (pa_cons (pv 2) (pa_cons (pv 6) (pa_cons (pv 3) pa_nil)))))) pa_nil))) (pss_cons (ps_expr (pe_bm PySem.F.plainAttrs_list PySem.F.slot_list_append PySem.F.type_list_append mt_append (pv 8) (pa_cons (pe_lamF (k := 4) (T := T.tabs) (TT := TTm T) rfl T.m__law_fault T.F__law_fault T.b__law_fault sc__law_fault rfl (Or.inl rfl) (by refine met_gives (kk := 1) T rfl rfl ?_ ?_; exact hg; exact hr.mono (by decide)) (TB _ T.in__law_lists_right) (hcd.symm.trans T.hc__law_lists_right) T.on__law_lists_right T.un__law_lists_right (hr.mono (by decide)) (by exact lamS_by (sc := defScope s__law_lists_right) (by decide +kernel)) (fun A outer s H E f c' hr => (pe_call (ok_word_place T) (hr.mono (by decide)) rfl T.m_word_place T.F_word_place.kp T.b_word_place .nil (passE (takes_of rfl rfl rfl rfl)) (pa_cons (pv 2) (pa_cons pe_int (pa_cons (pv 3) pa_nil)))))) pa_nil))) (pss_cons (ps_expr (pe_bm PySem.F.plainAttrs_list PySem.F.slot_list_append PySem.F.type_list_append mt_append (pv 8) (pa_cons (pe_lamF (k := 4) (T := T.tabs) (TT := TTm T) rfl T.m__law_fault T.F__law_fault T.b__law_fault sc__law_fault rfl (Or.inl rfl) (by refine met_gives (kk := 1) T rfl rfl ?_ ?_; exact hg; exact hr.mono (by decide)) (TB _ T.in__law_lists_right) (hcd.symm.trans T.hc__law_lists_right) T.on__law_lists_right T.un__law_lists_right (hr.mono (by decide)) (by exact lamS_by (sc := defScope s__law_lists_right) (by decide +kernel)) (fun A outer s H E f c' hr => (pe_call (ok_word_place T) (hr.mono (by decide)) rfl T.m_word_place T.F_word_place.kp T.b_word_place .nil (passE (takes_of rfl rfl rfl rfl)) (pa_cons (pv 2) (pa_cons pe_int (pa_cons (pe_op (op_repK (K := K) rfl) (pe_tupK (K := K) rfl (pa_cons pe_int pa_nil)) pe_int) pa_nil)))))) pa_nil))) (pss_cons (ps_expr (pe_bm PySem.F.plainAttrs_list PySem.F.slot_list_append PySem.F.type_list_append mt_append (pv 8) (pa_cons (pe_lamF (k := 4) (T := T.tabs) (TT := TTm T) rfl T.m__law_fault T.F__law_fault T.b__law_fault sc__law_fault rfl (Or.inl rfl) (by refine met_gives (kk := 1) T rfl rfl ?_ ?_; exact hg; exact hr.mono (by decide)) (TB _ T.in__law_lists_right) (hcd.symm.trans T.hc__law_lists_right) T.on__law_lists_right T.un__law_lists_right (hr.mono (by decide)) (by exact lamS_by (sc := defScope s__law_lists_right) (by decide +kernel)) (fun A outer s H E f c' hr => (pe_call (ok_word_at T) (hr.mono (by decide)) rfl T.m_word_at T.F_word_at.kp T.b_word_at .nil (passE (takes_of rfl rfl rfl rfl)) (pa_cons (pv 1) (pa_cons (pv 6) (pa_cons (pv 7) pa_nil)))))) pa_nil))) (pss_cons (ps_expr (pe_bm PySem.F.plainAttrs_list PySem.F.slot_list_append PySem.F.type_list_append mt_append (pv 8) (pa_cons (pe_lamF (k := 4) (T := T.tabs) (TT := TTm T) rfl T.m__law_fault T.F__law_fault T.b__law_fault sc__law_fault rfl (Or.inl rfl) (by refine met_gives (kk := 1) T rfl rfl ?_ ?_; exact hg; exact hr.mono (by decide)) (TB _ T.in__law_lists_right) (hcd.symm.trans T.hc__law_lists_right) T.on__law_lists_right T.un__law_lists_right (hr.mono (by decide)) (by exact lamS_by (sc := defScope s__law_lists_right) (by decide +kernel)) (fun A outer s H E f c' hr => (pe_call (ok_word_at T) (hr.mono (by decide)) rfl T.m_word_at T.F_word_at.kp T.b_word_at .nil (passE (takes_of rfl rfl rfl rfl)) (pa_cons (pv 2) (pa_cons (pv 6) (pa_cons (pv 7) pa_nil)))))) pa_nil))) (pss_cons (ps_expr (pe_bm PySem.F.plainAttrs_list PySem.F.slot_list_append PySem.F.type_list_append mt_append (pv 8) (pa_cons (pe_lamF (k := 4) (T := T.tabs) (TT := TTm T) rfl T.m__law_fault T.F__law_fault T.b__law_fault sc__law_fault rfl (Or.inl rfl) (by refine met_gives (kk := 1) T rfl rfl ?_ ?_; exact hg; exact hr.mono (by decide)) (TB _ T.in__law_lists_right) (hcd.symm.trans T.hc__law_lists_right) T.on__law_lists_right T.un__law_lists_right (hr.mono (by decide)) (by exact lamS_by (sc := defScope s__law_lists_right) (by decide +kernel)) (fun A outer s H E f c' hr => (pe_call (ok_word_at T) (hr.mono (by decide)) rfl T.m_word_at T.F_word_at.kp T.b_word_at .nil (passE (takes_of rfl rfl rfl rfl)) (pa_cons (pv 2) (pa_cons pe_int (pa_cons (pv 7) pa_nil)))))) pa_nil))) (pss_cons (ps_expr (pe_bm PySem.F.plainAttrs_list PySem.F.slot_list_append PySem.F.type_list_append mt_append (pv 8) (pa_cons (pe_lamF (k := 4) (T := T.tabs) (TT := TTm T) rfl T.m__law_fault T.F__law_fault T.b__law_fault sc__law_fault rfl (Or.inl rfl) (by refine met_gives (kk := 1) T rfl rfl ?_ ?_; exact hg; exact hr.mono (by decide)) (TB _ T.in__law_lists_right) (hcd.symm.trans T.hc__law_lists_right) T.on__law_lists_right T.un__law_lists_right (hr.mono (by decide)) (by exact lamS_by (sc := defScope s__law_lists_right) (by decide +kernel)) (fun A outer s H E f c' hr => (pe_call (ok_word_at T) (hr.mono (by decide)) rfl T.m_word_at T.F_word_at.kp T.b_word_at .nil (passE (takes_of rfl rfl rfl rfl)) (pa_cons (pv 2) (pa_cons pe_int (pa_cons pe_int pa_nil)))))) pa_nil))) (pss_cons (ps_expr (pe_bm PySem.F.plainAttrs_list PySem.F.slot_list_append PySem.F.type_list_append mt_append (pv 8) (pa_cons (pe_lamF (k := 4) (T := T.tabs) (TT := TTm T) rfl T.m__law_fault T.F__law_fault T.b__law_fault sc__law_fault rfl (Or.inl rfl) (by refine met_gives (kk := 1) T rfl rfl ?_ ?_; exact hg; exact hr.mono (by decide)) (TB _ T.in__law_lists_right) (hcd.symm.trans T.hc__law_lists_right) T.on__law_lists_right T.un__law_lists_right (hr.mono (by decide)) (by exact lamS_by (sc := defScope s__law_lists_right) (by decide +kernel)) (fun A outer s H E f c' hr => (pe_call (ok_is_word T) (hr.mono (by decide)) rfl T.m_is_word T.F_is_word.kp T.b_is_word .nil (passE (takes_of rfl rfl rfl rfl)) (pa_cons (pv 1) (pa_cons (pv 3) pa_nil))))) pa_nil))) (pss_cons (ps_expr (pe_bm PySem.F.plainAttrs_list PySem.F.slot_list_append PySem.F.type_list_append mt_append (pv 8) (pa_cons (pe_lamF (k := 4) (T := T.tabs) (TT := TTm T) rfl T.m__law_fault T.F__law_fault T.b__law_fault sc__law_fault rfl (Or.inl rfl) (by refine met_gives (kk := 1) T rfl rfl ?_ ?_; exact hg; exact hr.mono (by decide)) (TB _ T.in__law_lists_right) (hcd.symm.trans T.hc__law_lists_right) T.on__law_lists_right T.un__law_lists_right (hr.mono (by decide)) (by exact lamS_by (sc := defScope s__law_lists_right) (by decide +kernel)) (fun A outer s H E f c' hr => (pe_call (ok_is_word T) (hr.mono (by decide)) rfl T.m_is_word T.F_is_word.kp T.b_is_word .nil (passE (takes_of rfl rfl rfl rfl)) (pa_cons (pv 2) (pa_cons (pv 3) pa_nil))))) pa_nil))) (pss_cons (ps_par3 (i := 9) (j := 10) (l := 11) rfl sc__law_lists_right.nd rfl rfl rfl (by decide) (by decide) (by decide) rfl rfl rfl (pa_cons (pe_tupK (K := K) rfl (pa_cons pe_str (pa_cons pe_str (pa_cons (pe_callB (call_reprD hg hr.units) rfl T.n_repr (by decide +kernel) (pa_cons (pv 1) pa_nil)) pa_nil)))) (pa_cons (pe_tupK (K := K) rfl (pa_cons pe_str (pa_cons pe_str (pa_cons (pe_callB (call_reprD hg hr.units) rfl T.n_repr (by decide +kernel) (pa_cons (pv 6) pa_nil)) pa_nil)))) (pa_cons (pe_tupK (K := K) rfl (pa_cons pe_str (pa_cons pe_str (pa_cons (pe_callB (call_reprD hg hr.units) rfl T.n_repr (by decide +kernel) (pa_cons (pv 7) pa_nil)) pa_nil)))) pa_nil))) rfl) (pss_cons (ps_par3 (i := 12) (j := 13) (l := 14) rfl sc__law_lists_right.nd rfl rfl rfl (by decide) (by decide) (by decide) rfl rfl rfl (pa_cons (pe_tupK (K := K) rfl (pa_cons pe_str (pa_cons pe_str (pa_cons (pe_callB (call_reprD hg hr.units) rfl T.n_repr (by decide +kernel) (pa_cons (pv 5) pa_nil)) pa_nil)))) (pa_cons (pe_tupK (K := K) rfl (pa_cons pe_str (pa_cons pe_str pa_nil))) (pa_cons (pe_tupK (K := K) rfl (pa_cons pe_str (pa_cons pe_str pa_nil))) pa_nil))) rfl) (pss_one (ps_ret (pe_cmpR (op_eqD hr.units) (pv 8) (pe_lstS (pa_cons (pv 9) (pa_cons (pv 13) (pa_cons (pv 9) (pa_cons (pv 12) (pa_cons (pv 9) (pa_cons (pv 12) (pa_cons (pv 9) (pa_cons (pv 10) (pa_cons (pv 13) (pa_cons (pv 14) (pa_cons (pv 9) (pa_cons (pv 10) (pa_cons (pv 11) (pa_cons (pv 14) (pa_cons (pv 9) (pa_cons (pe_tupK (K := K) rfl (pa_cons pe_str pa_nil)) pa_nil))))))))))))))))) (nomark _))))))))))))))))))))))))))), ?_⟩
    have noN : numB (.int k) 1 4 = false → False := fun e => by rw [num_of k1 k4] at e; cases e
    have bdX : ∀ k', bv = .int k' → 1 ≤ k' → k' ≤ 4 → False := fun k' ek a1 a4 => by
      have := bd.no
      rw [ek, num_of a1 a4] at this
      cases this
    have o0 : okW k [0] := ⟨by decide, fun n hn => by rw [List.mem_singleton.mp hn]; omega⟩
    -- word
    refine ⟨_, rfl, by show 1 ≤ sizeLine; decide, fun A1 l1 a1 n1 e1 => ?_⟩
    refine ⟨_, rfl, by show 1 ≤ sizeLine; decide, fun A2 q2 a2 g2 => ?_⟩
    refine ⟨by show 1 ≤ sizeLine; decide, fun A3 q3 a3 g3 => ?_⟩
    refine ⟨by show 1 ≤ sizeLine; decide, fun A4 q4 a4 g4 => ?_⟩
    refine ⟨q4, _, _, rfl, rfl, g4, by decide, by decide, by decide, fun A5 q5 a5 g5 => ?_⟩
    intro d hd
    refine ⟨by show 7 ≤ sizeLine; decide, fun HA la sA nA eA => ?_⟩
    have cd := Same.trans (same_upd hd (.dK [])) sA
    have d4 := Same.trans a5 cd
    have d3 := Same.trans a4 d4
    have d2 := Same.trans a3 d3
    have d1 := Same.trans a2 d2
    have s0A := Same.trans a1 d1
    have s05 : Same H A5 := Same.trans a1 (Same.trans a2 (Same.trans a3 (Same.trans a4 a5)))
    have bA : Bag b HA := hb.same s0A
    have old {a : Addr} {G : Hp} (s : Same H G) (n : G a = none) : a ≠ b := ne_bag (hb.same s) n
    have nla := old (Same.trans s05 (same_upd hd (.dK []))) nA
    have menu : ∀ x ∈ _, ∀ G, KpN b HA G → SpV K G x k 200 false := fun x hx G kG => by
      have xs {a : Addr} {ys : List V} {G' : Hp} (s : Same G' HA) (h : SqT K G' a ys) : SqT K G a ys := kG.sqt bA (Same.sqt s h)
      have ob {a : Addr} {o : HO} (n : a ≠ b) (e : HA a = some o) (t : ∀ ps, o ≠ .tbl ps) : G a = some o := kG.2 _ _ n e t
      change x ∈ [V.non, .str "0", .ref l1, .ref q2, .ref q3, .ref q5, .ref d] at hx
      simp only [List.mem_cons, List.not_mem_nil, or_false] at hx
      rcases hx with rfl | rfl | rfl | rfl | rfl | rfl | rfl
      · exact sv_non
      · exact sv_str _
      · exact sv_lst (ob (old (Same.refl H) n1) (d1 _ _ e1) fun ps z => by cases z)
      · exact sv_1k (xs d2 g2)
      · exact sv_1b (xs d3 g3)
      · exact sv_201 (xs cd g5)
      · exact sv_dK (ob (old s05 hd) (sA _ _ upd_same) fun ps z => by cases z)
    refine ⟨b, la, _, rfl, bA, nla, eA, by show 0 < 7; decide, by show 7 < 1000; decide, fun HB wv kB hv => ?_⟩
    have kHB : KpN b H HB := (KpN.ext hb (Same.ext s0A)).trans (KpN.of kB)
    have hw : ∀ G, KpN b HB G → SpV K G wv k 200 false := fun G kG => menu wv hv G ((KpN.of kB).trans kG)
    have tB : Tabs T.tabs HB := tabs_kp bA kB (ht.ext s0A)
    have bB := kB.1
    clear menu hv eA nla old
    -- words
    refine ⟨_, rfl, by show 1 ≤ sizeLine; decide, fun B1 p1 a1 g1 => ?_⟩
    refine ⟨by show 1 ≤ sizeLine; decide, fun B2 l2 a2 n2 e2 => ?_⟩
    refine ⟨by show 1 ≤ sizeLine; decide, fun B3 p3 a3 g3 => ?_⟩
    refine ⟨by show 2 ≤ sizeLine; decide, fun B4 q4 a4 g4 => ?_⟩
    refine ⟨_, rfl, by show 1 ≤ sizeLine; decide, fun B5 p5 a5 g5 => ?_⟩
    refine ⟨by show 1 ≤ sizeLine; decide, fun B6 q6 a6 g6 => ?_⟩
    refine ⟨by show 1 ≤ sizeLine; decide, fun B7 p7 a7 g7 => ?_⟩
    refine ⟨by show 1 ≤ sizeLine; decide, fun B8 q8 a8 g8 => ?_⟩
    refine ⟨q8, _, _, rfl, rfl, g8, by decide, by decide, by show 1 ≤ 1000; decide, fun B9 q9 a9 g9 => ?_⟩
    intro d hd
    refine ⟨by show 1 ≤ sizeLine; decide, fun C1 r1 b1 h1 => ?_⟩
    refine ⟨by show 1 ≤ sizeLine; decide, fun C2 r2 b2 h2 => ?_⟩
    refine ⟨by show 1 ≤ sizeLine; decide, fun C3 l3 b3 m3 h3 => ?_⟩
    refine ⟨by show 2 ≤ sizeLine; decide, fun C4 r4 b4 h4 => ?_⟩
    refine ⟨by show 9 ≤ sizeLine; decide, fun HC lc sC nC eC => ?_⟩
    have f4 := sC
    have f3 := Same.trans b4 f4
    have f2 := Same.trans b3 f3
    have f1 := Same.trans b2 f2
    have fd := Same.trans b1 f1
    have f9 := Same.trans (same_upd hd (.dK [])) fd
    have z8 := Same.trans a9 f9
    have z7 := Same.trans a8 z8
    have z6 := Same.trans a7 z7
    have z5 := Same.trans a6 z6
    have z4 := Same.trans a5 z5
    have z3 := Same.trans a4 z4
    have z2 := Same.trans a3 z3
    have z1 := Same.trans a2 z2
    have s0C := Same.trans a1 z1
    have s09 : Same HB B9 := Same.trans a1 (Same.trans a2 (Same.trans a3 (Same.trans a4 (Same.trans a5 (Same.trans a6 (Same.trans a7 (Same.trans a8 a9)))))))
    have s0d := Same.trans s09 (same_upd hd (.dK []))
    have s02 := Same.trans s0d (Same.trans b1 b2)
    have bC : Bag b HC := bB.same s0C
    have old {a : Addr} {G : Hp} (s : Same HB G) (n : G a = none) : a ≠ b := ne_bag (bB.same s) n
    have nlc := old (Same.trans s02 (Same.trans b3 b4)) nC
    have menu : ∀ x ∈ _, ∀ G, KpN b HC G → BadWs K G k x := fun x hx G kG => by
      have xs {a : Addr} {ys : List V} {G' : Hp} (s : Same G' HC) (h : SqT K G' a ys) : SqT K G a ys := kG.sqt bC (Same.sqt s h)
      have ob {a : Addr} {o : HO} (n : a ≠ b) (e : HC a = some o) (t : ∀ ps, o ≠ .tbl ps) : G a = some o := kG.2 _ _ n e t
      change x ∈ [V.non, .ref l2, .ref q4, .ref q6, .str "0", .ref q9, .ref d, .ref r1, .ref r4] at hx
      simp only [List.mem_cons, List.not_mem_nil, or_false] at hx
      rcases hx with rfl | rfl | rfl | rfl | rfl | rfl | rfl | rfl | rfl
      · exact .inl ⟨_, .base .non, kit_ty (by decide +kernel)⟩
      · exact .inl ⟨_, .base (.lst (ob (old a1 n2) (z2 _ _ e2) fun ps z => by cases z)), kit_ty (by decide +kernel)⟩
      · exact .inr ⟨q4, _, rfl, xs z4 g4, .inr ⟨by show 2 ≤ 200; decide, [true, false], .cons (spv_of (ws := [0]) ⟨p3, rfl, xs z3 g3⟩ o0) (.cons sv_non .nil), by decide⟩⟩
      · exact .inr ⟨q6, _, rfl, xs z6 g6, .inr ⟨by show 1 ≤ 200; decide, [false], .cons (sv_1k (xs z5 g5)) .nil, by decide⟩⟩
      · exact .inl ⟨_, .base (.str _), kit_ty (by decide +kernel)⟩
      · exact .inr ⟨q9, _, rfl, xs f9 g9, .inl (by rw [refs_len]; decide)⟩
      · exact .inl ⟨_, .base (.dK (ob (old s09 hd) (fd _ _ upd_same) fun ps z => by cases z)), kit_ty (by decide +kernel)⟩
      · exact .inr ⟨r1, _, rfl, xs f1 h1, .inr ⟨by show 1 ≤ 200; decide, [false], .cons (sv_int _) .nil, by decide⟩⟩
      · exact .inr ⟨r4, _, rfl, xs f4 h4, .inr ⟨by show 2 ≤ 200; decide, [true, false], .cons (spv_of (ws := [0]) ⟨r2, rfl, xs f2 h2⟩ o0) (.cons (sv_lst (ob (old s02 m3) (f3 _ _ h3) fun ps z => by cases z)) .nil), by decide⟩⟩
    refine ⟨b, lc, _, rfl, bC, nlc, eC, by show 0 < 9; decide, by show 9 < 1000; decide, fun HD sv kD hv => ?_⟩
    have kBD : KpN b HB HD := (KpN.ext bB (Same.ext s0C)).trans (KpN.of kD)
    have hws : ∀ G, KpN b HD G → BadWs K G k sv := fun G kG => menu sv hv G ((KpN.of kD).trans kG)
    have tD : Tabs T.tabs HD := tabs_kp bC kD (tB.ext s0C)
    have bD := kD.1
    clear menu hv eC nlc old

    -- length
    refine ⟨_, rfl, _, rfl, by show 1 ≤ sizeLine; decide, fun E1 Eq Ea Eg => ?_⟩
    refine ⟨_, _, rfl, rfl, ⟨by decide, by decide, by decide⟩, by show 7 ≤ sizeLine; decide, fun E2 El Es En Ee => ?_⟩
    have Eb : Bag b E2 := bD.same (Same.trans Ea Es)
    refine ⟨b, El, _, rfl, Eb, ne_bag (bD.same Ea) En, Ee, by show 0 < 7; decide, by show 7 < 1000; decide, fun HE lv kE hm => ?_⟩
    replace hm : BadS K b HE lv 0 8 := by
      simp only [List.mem_cons, List.not_mem_nil, or_false] at hm
      rcases hm with rfl | rfl | rfl | rfl | rfl | rfl | rfl
      · exact bs_non
      · exact bs_int (by decide +kernel) (by decide +kernel)
      · exact bs_int (by decide +kernel) (by decide +kernel)
      · exact bs_bl
      · exact bs_str (by decide +kernel)
      · exact bs_tup kE.1 ((KpN.of kE).sqt Eb (Same.sqt Es Eg)) (by decide +kernel)
      · exact bs_int (by decide +kernel) (by decide +kernel)
    obtain ⟨zlv, blvx⟩ := hm
    have kDE : KpN b HD HE := (KpN.ext bD (Same.ext (Same.trans Ea Es))).trans (KpN.of kE)
    have tE : Tabs T.tabs HE := tabs_kp Eb kE (tD.ext (Same.trans Ea Es))
    have bE := kE.1
    -- far
    refine ⟨_, rfl, _, rfl, by show 1 ≤ sizeLine; decide, fun F1 Fq Fa Fg => ?_⟩
    refine ⟨_, _, rfl, rfl, ⟨by decide, by decide, by decide⟩, by show 7 ≤ sizeLine; decide, fun F2 Fl Fs Fn Fe => ?_⟩
    have Fb : Bag b F2 := bE.same (Same.trans Fa Fs)
    refine ⟨b, Fl, _, rfl, Fb, ne_bag (bE.same Fa) Fn, Fe, by show 0 < 7; decide, by show 7 < 1000; decide, fun HF fv kF hm => ?_⟩
    replace hm : BadS K b HF fv 0 60 := by
      simp only [List.mem_cons, List.not_mem_nil, or_false] at hm
      rcases hm with rfl | rfl | rfl | rfl | rfl | rfl | rfl
      · exact bs_non
      · exact bs_int (by decide +kernel) (by decide +kernel)
      · exact bs_int (by decide +kernel) (by decide +kernel)
      · exact bs_bl
      · exact bs_str (by decide +kernel)
      · exact bs_tup kF.1 ((KpN.of kF).sqt Fb (Same.sqt Fs Fg)) (by decide +kernel)
      · exact bs_int (by decide +kernel) (by decide +kernel)
    obtain ⟨zfv, bfvx⟩ := hm
    have kEF : KpN b HE HF := (KpN.ext bE (Same.ext (Same.trans Fa Fs))).trans (KpN.of kF)
    have tF : Tabs T.tabs HF := tabs_kp Fb kF (tE.ext (Same.trans Fa Fs))
    have bF := kF.1
    -- number
    refine ⟨_, rfl, _, rfl, by show 1 ≤ sizeLine; decide, fun G1 Gq Ga Gg => ?_⟩
    refine ⟨_, _, rfl, rfl, ⟨by decide, by decide, by decide⟩, _, _, rfl, rfl, ⟨by decide, by decide, by decide⟩, _, _, rfl, rfl, by show 7 ≤ sizeLine; decide, fun G2 Gl Gs Gn Ge => ?_⟩
    have Gb : Bag b G2 := bF.same (Same.trans Ga Gs)
    refine ⟨b, Gl, _, rfl, Gb, ne_bag (bF.same Ga) Gn, Ge, by show 0 < 7; decide, by show 7 < 1000; decide, fun HG nv kG hm => ?_⟩
    replace hm : BadS K b HG nv 0 (10 ^ 60 - 1) := by
      simp only [List.mem_cons, List.not_mem_nil, or_false] at hm
      rcases hm with rfl | rfl | rfl | rfl | rfl | rfl | rfl
      · exact bs_non
      · exact bs_int (by decide +kernel) (by decide +kernel)
      · exact bs_bl
      · exact bs_str (by decide +kernel)
      · exact bs_tup kG.1 ((KpN.of kG).sqt Gb (Same.sqt Gs Gg)) (by decide +kernel)
      · exact bs_int (by decide +kernel) (by decide +kernel)
      · exact bs_int (by decide +kernel) (by decide +kernel)
    obtain ⟨znv, bnvx⟩ := hm
    have kFG : KpN b HF HG := (KpN.ext bF (Same.ext (Same.trans Ga Gs))).trans (KpN.of kG)
    have tG : Tabs T.tabs HG := tabs_kp Gb kG (tF.ext (Same.trans Ga Gs))
    have bG := kG.1
    have kDG : KpN b HD HG := kDE.trans (kEF.trans kFG)
    have kHG : KpN b H HG := kHB.trans (kBD.trans kDG)
    replace hw : ∀ G, KpN b HG G → SpV K G wv k 200 false := fun G kG => hw G (kBD.trans (kDG.trans kG))
    replace hws : ∀ G, KpN b HG G → BadWs K G k sv := fun G kG => hws G (kDG.trans kG)
    replace bd := bd.to kHG
    replace blvx := blvx.to (kEF.trans kFG)
    replace bfvx := bfvx.to kFG
    have kG : ∀ G', ExtN HG G' → KpN b HG G' := fun G' e => KpN.ext bG e
    -- 0
    refine ⟨tG, fun L1 x1 t1 => ?_⟩
    have e1 := x1
    refine ⟨_, rfl, _, rfl, ?_⟩
    refine ⟨bv, sv, rfl, bd.num _ (kG _ e1), fun _ => mNum t1 (bd.dp _ (kG _ e1)) bd.sh (GotN.to (tl_first fun l M1 tl1 => ?_) x1), fun k' ek a1' a4' => (bdX k' ek a1' a4').elim⟩
    clear x1 t1 e1 L1
    -- 1
    refine ⟨_, rfl, .inl ⟨rfl, _, SqL.of tl1.lst.choose_spec.1⟩, tl1.tab, fun L1 x1 t1 => ?_⟩
    have e1 := tl1.ext.trans x1
    refine ⟨_, rfl, _, rfl, ?_⟩
    refine ⟨.int k, sv, rfl, nv_int k, fun e => (noN e).elim, fun k' ek a1' a4' => ?_⟩
    cases ek
    refine (hws _ (kG _ e1)).refuse (mWord t1 (GotN.to (tl1.more (by simp) fun M2 tl2 => ?_) x1))
    clear x1 t1 e1 L1 a1' a4'
    -- 2
    refine ⟨_, rfl, .inl ⟨rfl, _, SqL.of tl2.lst.choose_spec.1⟩, tl2.tab, fun L1 x1 t1 => ?_⟩
    have e1 := tl2.ext.trans x1
    refine ⟨_, rfl, _, rfl, ?_⟩
    refine ⟨bv, lv, rfl, bd.num _ (kG _ e1), fun _ => (mNum t1 (bd.dp _ (kG _ e1)) bd.sh (GotN.to (tl2.more (by simp) fun M3 tl3 => ?_) x1)).es T.sn_InvalidNumber, fun k' ek a1' a4' => (bdX k' ek a1' a4').elim⟩
    clear x1 t1 e1 L1
    -- 3
    refine ⟨_, rfl, .inl ⟨rfl, _, SqL.of tl3.lst.choose_spec.1⟩, tl3.tab, fun L1 x1 t1 => ?_⟩
    have e1 := tl3.ext.trans x1
    refine ⟨_, rfl, _, rfl, ?_⟩
    refine ⟨.int k, lv, rfl, nv_int k, fun e => (noN e).elim, fun k' ek a1' a4' => ?_⟩
    cases ek
    refine ⟨blvx.num _ (kG _ e1), fun _ => (mNum t1 (blvx.dp _ (kG _ e1)) blvx.sh (GotN.to (tl3.more (by simp) fun M4 tl4 => ?_) x1)).es T.sn_InvalidNumber, fun n en hn => (no_num blvx en (by omega)).elim⟩
    clear x1 t1 e1 L1 a1' a4'
    -- 4
    refine ⟨_, rfl, .inl ⟨rfl, _, SqL.of tl4.lst.choose_spec.1⟩, tl4.tab, fun L1 x1 t1 => ?_⟩
    have e1 := tl4.ext.trans x1
    refine ⟨_, rfl, _, rfl, ?_⟩
    refine ⟨bv, lv, rfl, bd.num _ (kG _ e1), fun _ => (mNum t1 (bd.dp _ (kG _ e1)) bd.sh (GotN.to (tl4.more (by simp) fun M5 tl5 => ?_) x1)).es T.sn_InvalidNumber, fun k' ek a1' a4' => (bdX k' ek a1' a4').elim⟩
    clear x1 t1 e1 L1
    -- 5
    refine ⟨_, rfl, .inl ⟨rfl, _, SqL.of tl5.lst.choose_spec.1⟩, tl5.tab, fun L1 x1 t1 => ?_⟩
    have e1 := tl5.ext.trans x1
    refine ⟨_, rfl, _, rfl, ?_⟩
    refine ⟨.int k, lv, rfl, nv_int k, fun e => (noN e).elim, fun k' ek a1' a4' => ?_⟩
    cases ek
    refine ⟨blvx.num _ (kG _ e1), fun _ => (mNum t1 (blvx.dp _ (kG _ e1)) blvx.sh (GotN.to (tl5.more (by simp) fun M6 tl6 => ?_) x1)).es T.sn_InvalidNumber, fun n en hn => (no_num blvx en (by omega)).elim⟩
    clear x1 t1 e1 L1 a1' a4'
    -- 6
    refine ⟨_, rfl, .inl ⟨rfl, _, SqL.of tl6.lst.choose_spec.1⟩, tl6.tab, fun L1 x1 t1 => ?_⟩
    have e1 := tl6.ext.trans x1
    refine ⟨_, rfl, _, rfl, _, rfl, ?_⟩
    refine ⟨bv, fv, wv, rfl, bd.num _ (kG _ e1), fun _ => mNum t1 (bd.dp _ (kG _ e1)) bd.sh (GotN.to (tl6.more (by simp) fun M7 tl7 => ?_) x1), fun k' ek a1' a4' => (bdX k' ek a1' a4').elim⟩
    clear x1 t1 e1 L1
    -- 7
    refine ⟨_, rfl, .inl ⟨rfl, _, SqL.of tl7.lst.choose_spec.1⟩, tl7.tab, fun L1 x1 t1 => ?_⟩
    have e1 := tl7.ext.trans x1
    refine ⟨_, rfl, _, rfl, _, rfl, ?_⟩
    refine ⟨.int k, fv, wv, rfl, nv_int k, fun e => (noN e).elim, fun k' ek a1' a4' => ?_⟩
    cases ek
    refine ⟨bfvx.num _ (kG _ e1), fun _ => mNum t1 (bfvx.dp _ (kG _ e1)) bfvx.sh (GotN.to (tl7.more (by simp) fun M8 tl8 => ?_) x1), fun n en hn => (no_num bfvx en (by omega)).elim⟩
    clear x1 t1 e1 L1 a1' a4'
    -- 8
    refine ⟨_, rfl, .inl ⟨rfl, _, SqL.of tl8.lst.choose_spec.1⟩, tl8.tab, fun L1 x1 t1 => ?_⟩
    have e1 := tl8.ext.trans x1
    refine ⟨_, rfl, _, rfl, ?_⟩
    refine ⟨.int k, .int 3, wv, rfl, nv_int k, fun e => (noN e).elim, fun k' ek a1' a4' => ?_⟩
    cases ek
    refine ⟨nv_int _, fun e => absurd e (by decide), fun n en hn => ⟨false, hw _ (kG _ e1), fun _ => mWord t1 (GotN.to (tl8.more (by simp) fun M9 tl9 => ?_) x1), fun z => by cases z⟩⟩
    clear x1 t1 e1 L1 a1' a4'
    -- 9
    refine ⟨_, rfl, .inl ⟨rfl, _, SqL.of tl9.lst.choose_spec.1⟩, tl9.tab, fun L1 x1 t1 => ?_⟩
    have e1 := tl9.ext.trans x1
    refine ⟨_, rfl, ?_⟩
    refine ⟨by show 1 ≤ sizeLine; decide, fun L2 p s2 hp => ?_⟩
    refine ⟨p, _, _, rfl, rfl, hp, by decide, by decide, by decide, fun L3 r s3 hr3 => ?_⟩
    rw [zeros_v] at hr3
    have s23 := Same.trans s2 s3
    have ow4 : okW k (List.replicate (Int.toNat 4) (0 : Int)) := ⟨by rw [List.length_replicate]; decide, fun n hn => by rw [List.eq_of_mem_replicate hn]; omega⟩
    refine ⟨.int k, .int 3, .ref r, rfl, nv_int k, fun e => (noN e).elim, fun k' ek a1' a4' => ?_⟩
    cases ek
    refine ⟨nv_int _, fun e => absurd e (by decide), fun n en hn => ?_⟩
    have en3 : n = 3 := by injection en with en; omega
    subst en3
    refine ⟨true, spv_of ⟨r, rfl, hr3⟩ ow4, fun z => (by cases z), fun _ => ⟨_, ⟨r, rfl, hr3⟩, ow4, fun _ => mOpr (t1.ext s23) (GotN.to (tl9.more (by simp) fun M10 tl10 => ?_) (x1.trans (Same.ext s23))), fun hle => absurd hle (by rw [List.length_replicate]; decide)⟩⟩
    clear x1 t1 e1 a1' a4' hr3 s23 s3 s2 hp ow4 en
    -- 10
    refine ⟨_, rfl, .inl ⟨rfl, _, SqL.of tl10.lst.choose_spec.1⟩, tl10.tab, fun L1 x1 t1 => ?_⟩
    have e1 := tl10.ext.trans x1
    refine ⟨_, rfl, _, rfl, _, rfl, ?_⟩
    refine ⟨bv, fv, nv, rfl, bd.num _ (kG _ e1), fun _ => mNum t1 (bd.dp _ (kG _ e1)) bd.sh (GotN.to (tl10.more (by simp) fun M11 tl11 => ?_) x1), fun k' ek a1' a4' => (bdX k' ek a1' a4').elim⟩
    clear x1 t1 e1 L1
    -- 11
    refine ⟨_, rfl, .inl ⟨rfl, _, SqL.of tl11.lst.choose_spec.1⟩, tl11.tab, fun L1 x1 t1 => ?_⟩
    have e1 := tl11.ext.trans x1
    refine ⟨_, rfl, _, rfl, _, rfl, ?_⟩
    refine ⟨.int k, fv, nv, rfl, nv_int k, fun e => (noN e).elim, fun k' ek a1' a4' => ?_⟩
    cases ek
    refine ⟨bfvx.num _ (kG _ e1), fun _ => mNum t1 (bfvx.dp _ (kG _ e1)) bfvx.sh (GotN.to (tl11.more (by simp) fun M12 tl12 => ?_) x1), fun n en hn => (no_num bfvx en (by omega)).elim⟩
    clear x1 t1 e1 L1 a1' a4'
    -- 12
    refine ⟨_, rfl, .inl ⟨rfl, _, SqL.of tl12.lst.choose_spec.1⟩, tl12.tab, fun L1 x1 t1 => ?_⟩
    have e1 := tl12.ext.trans x1
    refine ⟨_, rfl, _, rfl, ?_⟩
    refine ⟨.int k, .int 3, nv, rfl, nv_int k, fun e => (noN e).elim, fun k' ek a1' a4' => ?_⟩
    cases ek
    refine ⟨nv_int _, fun e => absurd e (by decide), fun n en hn => ⟨bnvx.num _ (kG _ e1), fun _ => mNum t1 (bnvx.dp _ (kG _ e1)) bnvx.sh (GotN.to (tl12.more (by simp) fun M13 tl13 => ?_) x1), fun m em m0 m9 => (no_int bnvx em m0 m9).elim⟩⟩
    clear x1 t1 e1 L1 a1' a4'
    -- 13
    refine ⟨_, rfl, .inl ⟨rfl, _, SqL.of tl13.lst.choose_spec.1⟩, tl13.tab, fun L1 x1 t1 => ?_⟩
    have e1 := tl13.ext.trans x1
    refine ⟨_, rfl, ?_⟩
    refine ⟨.int k, .int 3, .int 85, rfl, nv_int k, fun e => (noN e).elim, fun k' ek a1' a4' => ?_⟩
    cases ek
    refine ⟨nv_int _, fun e => absurd e (by decide), fun n en hn => ⟨nv_int _, fun e => absurd e (by decide +kernel), fun m em m0 m9 => ?_⟩⟩
    have en3 : n = 3 := by injection en with en; omega
    subst en3
    cases em
    have s85 := sz3 k1 k4
    refine ⟨fun _ => mOpr t1 (GotN.to (tl13.more (by simp) fun M14 tl14 => ?_) x1), fun hlt => by omega⟩
    clear x1 t1 e1 L1 a1' a4' en s85 m0 m9
    -- 14
    refine ⟨_, rfl, .inl ⟨rfl, _, SqL.of tl14.lst.choose_spec.1⟩, tl14.tab, fun L1 x1 t1 => ?_⟩
    have e1 := tl14.ext.trans x1
    refine ⟨_, rfl, _, rfl, ?_⟩
    refine ⟨bv, wv, rfl, bd.num _ (kG _ e1), fun _ => mNum t1 (bd.dp _ (kG _ e1)) bd.sh (GotN.to (tl14.more (by simp) fun M15 tl15 => ?_) x1), fun k' ek a1' a4' => (bdX k' ek a1' a4').elim⟩
    clear x1 t1 e1 L1
    -- 15
    refine ⟨_, rfl, .inl ⟨rfl, _, SqL.of tl15.lst.choose_spec.1⟩, tl15.tab, fun L1 x1 t1 => ?_⟩
    have e1 := tl15.ext.trans x1
    refine ⟨_, rfl, _, rfl, ?_⟩
    refine ⟨.int k, wv, rfl, nv_int k, fun e => (noN e).elim, fun k' ek a1' a4' => ?_⟩
    cases ek
    refine ⟨false, hw _ (kG _ e1), fun H2 s => ?_⟩
    refine GotN.fine (tl15.more (by simp) fun M16 tl16 => ?_) (x1.trans (Same.ext s)) (t1.ext s)
    clear s x1 t1 e1 L1 a1' a4'
    -- what is due
    have e16 := tl16.ext
    refine ⟨_, rfl, bv, z, rfl, bd.dp _ (kG _ e16), bd.sh, by show 3 ≤ sizeLine; decide, fun N1 i1 r1 h1 => ?_⟩
    refine ⟨_, rfl, fv, zfv, rfl, bfvx.dp _ (kG _ (e16.trans (Same.ext r1))), bfvx.sh, by show 3 ≤ sizeLine; decide, fun N2 i2 r2 h2 => ?_⟩
    refine ⟨_, rfl, nv, znv, rfl, bnvx.dp _ (kG _ (e16.trans (Same.ext (Same.trans r1 r2)))), bnvx.sh, by show 3 ≤ sizeLine; decide, fun N3 i3 r3 h3 => ?_⟩
    refine ⟨_, _, _, rfl, ?_⟩
    have r4 := Same.refl N3
    have y4 := Same.trans r1 (Same.trans r2 (Same.trans r3 r4))
    refine ⟨_, rfl, lv, zlv, rfl, blvx.dp _ (kG _ (e16.trans (Same.ext y4))), blvx.sh, by show 3 ≤ sizeLine; decide, fun N5 i5 r5 h5 => ?_⟩
    refine ⟨by show 2 ≤ sizeLine; decide, fun N6 i6 r6 h6 => ?_⟩
    refine ⟨by show 2 ≤ sizeLine; decide, fun N7 i7 r7 h7 => ?_⟩
    refine ⟨_, _, _, rfl, ?_⟩
    have r8 := Same.refl N7
    generalize hσ : List.set _ 14 _ = σ
    obtain rfl : σ = [some (V.ref b), some bv, some (V.int k), some wv, some sv, some lv, some fv, some nv, some (V.ref l), some (V.ref i1), some (V.ref i2), some (V.ref i3), some (V.ref i5), some (V.ref i6), some (V.ref i7)] := by rw [← hσ]; rfl
    clear hσ
    refine ⟨_, rfl, _, rfl, _, rfl, _, rfl, _, rfl, _, rfl, _, rfl, _, rfl, _, rfl, _, rfl, _, rfl, _, rfl, _, rfl, _, rfl, _, rfl, _, rfl, by show 1 ≤ sizeLine; decide, fun N9 i9 r9 h9 => ?_⟩
    refine ⟨by show 16 ≤ sizeLine; decide, fun NA iA rA nA' gA => ?_⟩
    have y9 := rA
    have y8' := Same.trans r9 y9
    have y7' := Same.trans r8 y8'
    have y6' := Same.trans r7 y7'
    have y5' := Same.trans r6 y6'
    have y4' := Same.trans r5 y5'
    have y3' := Same.trans r4 y4'
    have y2' := Same.trans r3 y3'
    have y1' := Same.trans r2 y2'
    have y0' := Same.trans r1 y1'
    obtain ⟨vs, hl16, hs16⟩ := tl16.at_
    have st : ∀ a xs, SqT K M16 a xs → SqT K NA a xs := fun a xs h => Same.sqt y0' h
    have f1 : IsSt K NA (.ref i1) (tN z) := ⟨i1, rfl, Same.sqt y1' h1⟩
    have f2 : IsSt K NA (.ref i2) (tN zfv) := ⟨i2, rfl, Same.sqt y2' h2⟩
    have f3 : IsSt K NA (.ref i3) (tN znv) := ⟨i3, rfl, Same.sqt y3' h3⟩
    have f5 : IsSt K NA (.ref i5) (tN zlv) := ⟨i5, rfl, Same.sqt y5' h5⟩
    have f6 : IsSt K NA (.ref i6) tW := ⟨i6, rfl, Same.sqt y6' h6⟩
    have f7 : IsSt K NA (.ref i7) tO := ⟨i7, rfl, Same.sqt y7' h7⟩
    have f9 : IsSt K NA (.ref i9) tL := ⟨i9, rfl, Same.sqt y9 h9⟩
    have two : IsSts K NA _ [tN z, tW, tN z, tN zlv, tN z, tN zlv, tN z, tN zfv, tW, tO, tN z, tN zfv, tN znv, tO, tN z, tL] := .cons f1 (.cons f6 (.cons f1 (.cons f5 (.cons f1 (.cons f5 (.cons f1 (.cons f2 (.cons f6 (.cons f7 (.cons f1 (.cons f2 (.cons f3 (.cons f7 (.cons f1 (.cons f9 (.nil))))))))))))))))
    have lay : okL [tN z, tW, tN z, tN zlv, tN z, tN zlv, tN z, tN zfv, tW, tO, tN z, tN zfv, tN znv, tO, tN z, tL] := okL_cons (lN bd.sh) (okL_cons (lW) (okL_cons (lN bd.sh) (okL_cons (lN blvx.sh) (okL_cons (lN bd.sh) (okL_cons (lN blvx.sh) (okL_cons (lN bd.sh) (okL_cons (lN bfvx.sh) (okL_cons (lW) (okL_cons (lO) (okL_cons (lN bd.sh) (okL_cons (lN bfvx.sh) (okL_cons (lN bnvx.sh) (okL_cons (lO) (okL_cons (lN bd.sh) (okL_cons (lL) (okL_nil))))))))))))))))
    have hs9 : IsSts K NA vs [tN z, tW, tN z, tN zlv, tN z, tN zlv, tN z, tN zfv, tW, tO, tN z, tN zfv, tN znv, tO, tN z, tL] := hs16.to st
    have eqv := eqv_sts lay
    refine ⟨_, _, IsSts.dp (SqL.of (y0' _ _ hl16)) hs9, IsSts.dp (SqL.of gA) two, shaped_sts lay, shaped_sts lay, ?_⟩
    rw [eqv]
    exact q NA (kHG.trans (kG _ (e16.trans (Same.ext y0')))) (tl16.tab.ext y0')
end
end K01
/-! K01o -/
set_option Elab.async false
set_option linter.all false
set_option maxRecDepth 100000
set_option maxHeartbeats 4000000
namespace K01
open PySem PySem.Spec PyProof.Rows L2 PpSet RL LamX
open K00
def sp_law {K : PySem.W.Frag} {mg : Str → Option Value} (T : Txt K mg) : Sp := fun vs H Q _ => ∃ (a : Addr) (xs : List Int), vs = [.ref a] ∧ SqL K H a (xs.map V.int) ∧ xs.length ≤ 100 ∧ Tabs T.tabs H ∧ ∀ H', Q (.bl true) H'
theorem reps_v (i : Int) (n : Nat) : (List.replicate n [V.int i]).flatten = (List.replicate n i).map V.int := by
  induction n with
  | zero => rfl
  | succ n ih =>
    rw [List.replicate_succ, List.flatten_cons, ih, List.replicate_succ]
    rfl
theorem sps_rep {K : PySem.W.Frag} {H : Hp} {k : Int} {x : V} (h : SpV K H x k 200 true) : ∀ n, Sps K H k (List.replicate n [x]).flatten (List.replicate n true)
  | 0 => .nil
  | n + 1 => .cons h (sps_rep h n)
theorem mem_rep {x y : V} : ∀ {n : Nat}, x ∈ (List.replicate n [y]).flatten → x = y
  | 0, h => by cases h
  | n + 1, h => by
    rw [List.replicate_succ, List.flatten_cons] at h
    rcases List.mem_cons.mp h with h | h
    · exact h
    · exact mem_rep h
theorem sz160 : sz 1 60 = 61 := by decide +kernel
section
variable {P : Program} {w : World} {K : PySem.W.Frag} {mg : Str → Option Value} {base : Heap}
theorem ok_law (T : Txt K mg) (TB : ∀ p ∈ T.cs, TabB base mg p.1 p.2) : FnG P w K mg base CX0 12 T.a_law T.d_law ["script"] (sp_law T) := by
  refine Fun.okG T.F_law sc_law (fun vs H Q E h => ?_) (fun cdv A outer s H vs Q E hcd hg hr h => ?_)
  · obtain ⟨a, xs, rfl, _⟩ := h
    rfl
  · obtain ⟨a, xs, rfl, hx, hz, ht, q⟩ := h
    refine ⟨_, (pss_cons (ps_for PassesOwn.never rfl (pi_range1 rfl T.n_range (pa_cons (pe_callB (call_max2 rfl) rfl T.n_max (by decide +kernel) (pa_cons pe_int (pa_cons (pe_callB (call_min2 rfl) rfl T.n_min (by decide +kernel) (pa_cons pe_int (pa_cons (pe_callB call_len_seq rfl T.n_len (by decide +kernel) (pa_cons (pv 0) pa_nil)) pa_nil))) pa_nil))) pa_nil)) (pg_name (i := 1) sc_law.nd rfl (Or.inl rfl)) (pss_cons (ps_set (i := 2) sc_law.nd rfl (Or.inl rfl) (pe_call (ok__law_bag T) (hr.mono (by decide)) rfl T.m__law_bag T.F__law_bag.kp T.b__law_bag .nil pass0 (pa_cons (pv 0) (pa_cons (pv 1) pa_nil)))) (pss_cons (ps_set (i := 3) sc_law.nd rfl (Or.inl rfl) (pe_call (ok__law_one_of T) (hr.mono (by decide)) rfl T.m__law_one_of T.F__law_one_of.kp T.b__law_one_of .nil pass0 (pa_cons (pv 2) (pa_cons (pe_lstS (pa_cons pe_non (pa_cons pe_int (pa_cons pe_int (pa_cons (pe_un un_neg pe_int) (pa_cons pe_bl (pa_cons pe_str (pa_cons (pe_tupK (K := K) rfl (pa_cons pe_int pa_nil)) (pa_cons (pe_op op_pow pe_int pe_int) pa_nil))))))))) pa_nil)))) (pss_cons (ps_set (i := 4) sc_law.nd rfl (Or.inl rfl) (pe_op op_add pe_int (pe_call (ok__law_grab T) (hr.mono (by decide)) rfl T.m__law_grab T.F__law_grab.kp T.b__law_grab .nil pass0 (pa_cons (pv 2) (pa_cons pe_int pa_nil))))) (pss_one (ps_if (PW.pt (pw_or (pt_not (pt_val (pe_call (ok__law_kept_right T) (hr.mono (by decide)) rfl T.m__law_kept_right T.F__law_kept_right.kp T.b__law_kept_right .nil pass0 (pa_cons (pv 2) pa_nil)))) (pw_or (pt_not (pt_val (pe_callG hg (ok__law_two_right T TB) (hr.mono (by decide)) rfl T.m__law_two_right T.F__law_two_right.kp T.b__law_two_right pass0 (pa_cons (pv 2) (pa_cons (pv 3) (pa_cons (pv 4) pa_nil)))))) (pw_or1 (pt_not (pt_val (pe_callG hg (ok__law_lists_right T TB) (hr.mono (by decide)) rfl T.m__law_lists_right T.F__law_lists_right.kp T.b__law_lists_right pass0 (pa_cons (pv 2) (pa_cons (pv 3) (pa_cons (pv 4) pa_nil)))))))))) (pss_one (ps_ret pe_bl)) pss_nil)))))) (pss_cons (ps_set (i := 5) sc_law.nd rfl (Or.inl rfl) (pe_lstS (pa_cons (pe_lamF (k := 8) (T := T.tabs) (TT := TTm T) rfl T.m__law_fault T.F__law_fault T.b__law_fault sc__law_fault rfl (Or.inl rfl) (by refine met_gives (kk := 1) T rfl rfl ?_ ?_; exact hg; exact hr.mono (by decide)) (TB _ T.in_law) (hcd.symm.trans T.hc_law) T.on_law T.un_law (hr.mono (by decide)) (by exact lamS_by (sc := defScope s_law) (by decide +kernel)) (fun A outer s H E f c' hr => (pe_listG (pgen_call (ok_words_of T) (hr.mono (by decide)) rfl T.m_words_of T.F_words_of.kp T.b_words_of .nil (pa_cons pe_int (pa_cons pe_int pa_nil))) (passES (takes_of rfl rfl rfl rfl)) noStopES (hr.mono (by decide)) rfl T.n_list (by decide +kernel)))) pa_nil))) (pss_cons (ps_expr (pe_bm PySem.F.plainAttrs_list PySem.F.slot_list_append PySem.F.type_list_append mt_append (pv 5) (pa_cons (pe_lamF (k := 4) (T := T.tabs) (TT := TTm T) rfl T.m__law_fault T.F__law_fault T.b__law_fault sc__law_fault rfl (Or.inl rfl) (by refine met_gives (kk := 1) T rfl rfl ?_ ?_; exact hg; exact hr.mono (by decide)) (TB _ T.in_law) (hcd.symm.trans T.hc_law) T.on_law T.un_law (hr.mono (by decide)) (by exact lamS_by (sc := defScope s_law) (by decide +kernel)) (fun A outer s H E f c' hr => (pe_call (ok_sorted_words T) (hr.mono (by decide)) rfl T.m_sorted_words T.F_sorted_words.kp T.b_sorted_words .nil (passE (takes_of rfl rfl rfl rfl)) (pa_cons pe_int (pa_cons (pe_op (op_repK (K := K) rfl) (pe_tupK (K := K) rfl (pa_cons (pe_tupK (K := K) rfl (pa_cons pe_int pa_nil)) pa_nil)) pe_int) pa_nil))))) pa_nil))) (pss_cons (ps_expr (pe_bm PySem.F.plainAttrs_list PySem.F.slot_list_append PySem.F.type_list_append mt_append (pv 5) (pa_cons (pe_lamF (k := 4) (T := T.tabs) (TT := TTm T) rfl T.m__law_fault T.F__law_fault T.b__law_fault sc__law_fault rfl (Or.inl rfl) (by refine met_gives (kk := 1) T rfl rfl ?_ ?_; exact hg; exact hr.mono (by decide)) (TB _ T.in_law) (hcd.symm.trans T.hc_law) T.on_law T.un_law (hr.mono (by decide)) (by exact lamS_by (sc := defScope s_law) (by decide +kernel)) (fun A outer s H E f c' hr => (pe_call (ok_word_at T) (hr.mono (by decide)) rfl T.m_word_at T.F_word_at.kp T.b_word_at .nil (passE (takes_of rfl rfl rfl rfl)) (pa_cons pe_int (pa_cons pe_int (pa_cons pe_int pa_nil)))))) pa_nil))) (pss_cons (ps_expr (pe_bm PySem.F.plainAttrs_list PySem.F.slot_list_append PySem.F.type_list_append mt_append (pv 5) (pa_cons (pe_lamF (k := 4) (T := T.tabs) (TT := TTm T) rfl T.m__law_fault T.F__law_fault T.b__law_fault sc__law_fault rfl (Or.inl rfl) (by refine met_gives (kk := 1) T rfl rfl ?_ ?_; exact hg; exact hr.mono (by decide)) (TB _ T.in_law) (hcd.symm.trans T.hc_law) T.on_law T.un_law (hr.mono (by decide)) (by exact lamS_by (sc := defScope s_law) (by decide +kernel)) (fun A outer s H E f c' hr => (pe_call (ok_word_at T) (hr.mono (by decide)) rfl T.m_word_at T.F_word_at.kp T.b_word_at .nil (passE (takes_of rfl rfl rfl rfl)) (pa_cons pe_int (pa_cons pe_int (pa_cons pe_int pa_nil)))))) pa_nil))) (pss_cons (ps_expr (pe_bm PySem.F.plainAttrs_list PySem.F.slot_list_append PySem.F.type_list_append mt_append (pv 5) (pa_cons (pe_lamF (k := 4) (T := T.tabs) (TT := TTm T) rfl T.m__law_fault T.F__law_fault T.b__law_fault sc__law_fault rfl (Or.inl rfl) (by refine met_gives (kk := 1) T rfl rfl ?_ ?_; exact hg; exact hr.mono (by decide)) (TB _ T.in_law) (hcd.symm.trans T.hc_law) T.on_law T.un_law (hr.mono (by decide)) (by exact lamS_by (sc := defScope s_law) (by decide +kernel)) (fun A outer s H E f c' hr => (pe_call (ok_word_place T) (hr.mono (by decide)) rfl T.m_word_place T.F_word_place.kp T.b_word_place .nil (passE (takes_of rfl rfl rfl rfl)) (pa_cons pe_int (pa_cons pe_int (pa_cons (pe_op (op_repK (K := K) rfl) (pe_tupK (K := K) rfl (pa_cons pe_int pa_nil)) pe_int) pa_nil)))))) pa_nil))) (pss_cons (ps_expr (pe_bm PySem.F.plainAttrs_list PySem.F.slot_list_append PySem.F.type_list_append mt_append (pv 5) (pa_cons (pe_lamF (k := 4) (T := T.tabs) (TT := TTm T) rfl T.m__law_fault T.F__law_fault T.b__law_fault sc__law_fault rfl (Or.inl rfl) (by refine met_gives (kk := 1) T rfl rfl ?_ ?_; exact hg; exact hr.mono (by decide)) (TB _ T.in_law) (hcd.symm.trans T.hc_law) T.on_law T.un_law (hr.mono (by decide)) (by exact lamS_by (sc := defScope s_law) (by decide +kernel)) (fun A outer s H E f c' hr => (pe_call (ok_word_place T) (hr.mono (by decide)) rfl T.m_word_place T.F_word_place.kp T.b_word_place .nil (passE (takes_of rfl rfl rfl rfl)) (pa_cons pe_int (pa_cons pe_int (pa_cons (pe_tupK (K := K) rfl (pa_cons pe_int pa_nil)) pa_nil)))))) pa_nil))) (pss_cons (ps_if (pt_cmpR (op_neD hr.units) (pv 5) (pe_lstS (pa_cons (pe_tupK (K := K) rfl (pa_cons pe_str pa_nil)) (pa_cons (pe_tupK (K := K) rfl (pa_cons pe_str pa_nil)) (pa_cons (pe_tupK (K := K) rfl (pa_cons pe_str pa_nil)) (pa_cons (pe_tupK (K := K) rfl (pa_cons pe_str (pa_cons pe_str pa_nil))) (pa_cons (pe_tupK (K := K) rfl (pa_cons pe_str pa_nil)) (pa_cons (pe_tupK (K := K) rfl (pa_cons pe_str (pa_cons pe_str pa_nil))) pa_nil))))))) (nomark _)) (pss_one (ps_ret pe_bl)) pss_nil) (pss_one (ps_ret (pe_cmpR (op_eqD hr.units) (pe_lstS (pa_cons (pe_glob (v := .int 4) rfl T.g_MAX_LETTERS ⟨_, rfl⟩) (pa_cons (pe_glob (v := .int 200) rfl T.g_MAX_WORD ⟨_, rfl⟩) (pa_cons (pe_glob (v := .int 200) rfl T.g_MOST_SORTED ⟨_, rfl⟩) (pa_cons (pe_glob (v := .int 8) rfl T.g_MOST_LISTED ⟨_, rfl⟩) (pa_cons (pe_glob (v := .int 60) rfl T.g_MOST_PLACED ⟨_, rfl⟩) pa_nil)))))) (pe_lstS (pa_cons pe_int (pa_cons pe_int (pa_cons pe_int (pa_cons pe_int (pa_cons pe_int pa_nil)))))) (nomark _)))))))))))), ?_⟩
    refine ⟨_, rfl, _, _, rfl, .inl hx, _, _, rfl, _, _, rfl, ?_⟩
    rw [List.length_map]
    refine ⟨_, rfl, by split <;> (try split) <;> omega, by split <;> (try split) <;> omega, for_range (fun i σ H2 => ExtN H H2 ∧ Tabs T.tabs H2 ∧ ∃ u1 u2 u3 u4 u5, σ = [some (.ref a), u1, u2, u3, u4, u5]) ⟨ExtN.refl H, ht, _, _, _, _, _, rfl⟩ ?_ ?_⟩
    · rintro i σ H2 hi ⟨x2, t2, u1, u2, u3, u4, u5, rfl⟩
      have hi3 : i < 1000 := by
        refine Nat.lt_of_lt_of_le hi ?_
        split <;> (try split) <;> omega
      refine ⟨_, rfl, _, rfl, a, xs, i, by rw [Int.zero_add]; rfl, ext_sql x2 hx, hi3, fun H3 b s3 hb hb0 => ?_⟩
      have t3 := t2.ext s3
      -- bad
      refine ⟨_, rfl, _, rfl, by show 1 ≤ sizeLine; decide, fun H5 p5 s5 h5 => ?_⟩
      refine ⟨_, _, rfl, rfl, ⟨by decide, by decide, by decide⟩, by show 8 ≤ sizeLine; decide, fun HA la sA nA eA => ?_⟩
      have bA := hb.same (Same.trans s5 sA)
      refine ⟨b, la, _, rfl, bA, ne_bag (hb.same s5) nA, eA, by show 0 < 8; decide, by show 8 < 1000; decide, fun HB v kB hm => ?_⟩
      replace hm : BadS K b HB v 1 4 := by
        simp only [List.mem_cons, List.not_mem_nil, or_false] at hm
        rcases hm with rfl | rfl | rfl | rfl | rfl | rfl | rfl | rfl
        · exact bs_non
        · exact bs_int (by decide +kernel) (by decide)
        · exact bs_int (by decide +kernel) (by decide)
        · exact bs_int (by decide +kernel) (by decide)
        · exact bs_bl
        · exact bs_str (by decide +kernel)
        · exact bs_tup kB.1 ((KpN.of kB).sqt bA (Same.sqt sA h5)) (by decide +kernel)
        · exact bs_int (by decide +kernel) (by decide +kernel)
      obtain ⟨z, hbad⟩ := hm
      have tB := tabs_kp bA kB (t3.ext (Same.trans s5 sA))
      have bB := kB.1
      have k3B : KpN b H3 HB := (KpN.ext hb (Same.ext (Same.trans s5 sA))).trans (KpN.of kB)
      -- letters
      refine ⟨_, rfl, b, 4, rfl, bB, by decide, by decide, fun H4 r k4 r0 r4 => ⟨_, _, rfl, rfl, ?_⟩⟩
      have t4 := tabs_kp bB k4 tB
      have b4 := k4.1
      have bd4 := hbad.to (KpN.of k4)
      refine ⟨_, rfl, b, rfl, b4, fun HE kE => ⟨_, rfl, iteF ?_⟩⟩
      refine ⟨_, rfl, _, rfl, _, rfl, b, 1 + r, v, z, rfl, kE.1, by omega, by omega, bd4.to (KpN.of kE), tabs_kp b4 kE t4, fun HF kF tF => ⟨_, rfl, iteF ?_⟩⟩
      refine ⟨_, rfl, _, rfl, _, rfl, b, 1 + r, v, z, rfl, kF.1, by omega, by omega, (bd4.to (KpN.of kE)).to kF, tF, fun HG kG tG => ⟨_, rfl, iteF ?_⟩⟩
      have k3G := k3B.trans ((KpN.of k4).trans ((KpN.of kE).trans (kF.trans kG)))
      refine ⟨fun c o e n => ?_, tG, _, _, _, _, _, rfl⟩
      have e2 := x2 c o e n
      exact k3G.2 c o (fun z => by rw [z, hb0] at e2; cases e2) (s3 c o e2) n
    rintro σ H2 ⟨x2, t2, u1, u2, u3, u4, u5, rfl⟩
    -- 0
    refine ⟨t2, fun L1 x1 t1 => ?_⟩
    refine ⟨.int 1, .int 8, rfl, nv_int _, fun e => absurd e (by decide), fun k' ek a1 a4 => ?_⟩
    cases ek
    refine ⟨nv_int _, fun e => absurd e (by decide), fun n en hn => ?_⟩
    have en8 : n = 8 := by injection en with en; omega
    subst en8
    refine ⟨by decide +kernel, fun ys L2 s2 p hp => ?_⟩
    have s3 := Same.trans s2 (same_upd hp (.lst ys))
    refine GotN.fine (tl_first fun l M1 tl1 => ?_) (x1.trans (Same.ext s3)) (t1.ext s3)
    clear s3 hp s2 x1 t1 a1 a4 en
    -- 1
    refine ⟨_, rfl, .inl ⟨rfl, _, SqL.of tl1.lst.choose_spec.1⟩, tl1.tab, fun L1 x1 t1 => ?_⟩
    refine ⟨by show 1 ≤ sizeLine; decide, fun L2 p s2 hp => ?_⟩
    refine ⟨by show 1 ≤ sizeLine; decide, fun L3 p3 s3 hp3 => ?_⟩
    refine ⟨p3, _, _, rfl, rfl, hp3, by decide, by decide, by show 1 ≤ 1000; decide, fun L4 r s4 hr => ?_⟩
    have s24 := Same.trans s2 (Same.trans s3 s4)
    have hpW : IsW K L4 (.ref p) [0] := ⟨p, rfl, Same.sqt (Same.trans s3 s4) hp⟩
    have o0 : okW 2 [0] := ⟨by decide, fun n hn => by rw [List.mem_singleton.mp hn]; omega⟩
    refine ⟨.int 2, .ref r, rfl, nv_int _, fun e => absurd e (by decide), fun k' ek a1 a4 => ?_⟩
    cases ek
    refine .inr ⟨r, _, rfl, hr, fun hl => absurd hl (by rw [refs_len]; decide), fun _ => ⟨_, sps_rep (spv_of (ws := [0]) hpW o0) _, fun hf => absurd (List.eq_of_mem_replicate hf) (by decide), fun _ => ⟨[0], fun x hx => by rw [mem_rep hx]; exact hpW, fun x L5 s5 => ?_⟩⟩⟩
    refine GotN.fine (tl1.more (by simp) fun M2 tl2 => ?_) (x1.trans (Same.ext (Same.trans s24 s5))) (t1.ext (Same.trans s24 s5))
    clear s5 hpW s24 hr s4 hp3 s3 hp s2 x1 t1 a1 a4 o0
    -- 2
    refine ⟨_, rfl, .inl ⟨rfl, _, SqL.of tl2.lst.choose_spec.1⟩, tl2.tab, fun L1 x1 t1 => ?_⟩
    refine ⟨.int 1, .int 60, .int 60, rfl, nv_int _, fun e => absurd e (by decide), fun k' ek a1 a4 => ?_⟩
    cases ek
    refine ⟨nv_int _, fun e => absurd e (by decide), fun n en hn => ⟨nv_int _, fun e => absurd e (by decide +kernel), fun m em m0 m9 => ?_⟩⟩
    have en6 : n = 60 := by injection en with en; omega
    subst en6
    cases em
    refine ⟨fun hle => absurd hle (by rw [sz160]; decide), fun _ x L2 s2 => ?_⟩
    refine GotN.fine (tl2.more (by simp) fun M3 tl3 => ?_) (x1.trans (Same.ext s2)) (t1.ext s2)
    clear s2 x1 t1 a1 a4 en hn m0 m9
    -- 3
    refine ⟨_, rfl, .inl ⟨rfl, _, SqL.of tl3.lst.choose_spec.1⟩, tl3.tab, fun L1 x1 t1 => ?_⟩
    refine ⟨.int 1, .int 60, .int 61, rfl, nv_int _, fun e => absurd e (by decide), fun k' ek a1 a4 => ?_⟩
    cases ek
    refine ⟨nv_int _, fun e => absurd e (by decide), fun n en hn => ⟨nv_int _, fun e => absurd e (by decide +kernel), fun m em m0 m9 => ?_⟩⟩
    have en6 : n = 60 := by injection en with en; omega
    subst en6
    cases em
    refine ⟨fun _ => mOpr t1 (GotN.to (tl3.more (by simp) fun M4 tl4 => ?_) x1), fun hlt => absurd hlt (by rw [sz160]; decide)⟩
    clear x1 t1 a1 a4 en hn m0 m9
    -- 4
    refine ⟨_, rfl, .inl ⟨rfl, _, SqL.of tl4.lst.choose_spec.1⟩, tl4.tab, fun L1 x1 t1 => ?_⟩
    refine ⟨by show 1 ≤ sizeLine; decide, fun L2 p s2 hp => ?_⟩
    refine ⟨p, _, _, rfl, rfl, hp, by decide, by decide, by decide, fun L3 r s3 hr => ?_⟩
    rw [reps_v] at hr
    have s23 := Same.trans s2 s3
    have o60 : okW 2 (List.replicate (Int.toNat 60) (1 : Int)) := ⟨by rw [List.length_replicate]; decide, fun n hn => by rw [List.eq_of_mem_replicate hn]; omega⟩
    refine ⟨.int 2, .int 60, .ref r, rfl, nv_int _, fun e => absurd e (by decide), fun k' ek a1 a4 => ?_⟩
    cases ek
    refine ⟨nv_int _, fun e => absurd e (by decide), fun n en hn => ?_⟩
    have en6 : n = 60 := by injection en with en; omega
    subst en6
    refine ⟨true, spv_of ⟨r, rfl, hr⟩ o60, fun z => (by cases z), fun _ => ⟨_, ⟨r, rfl, hr⟩, o60, fun hlt => absurd hlt (by rw [List.length_replicate]; decide), fun _ x L4 s4 => ?_⟩⟩
    refine GotN.fine (tl4.more (by simp) fun M5 tl5 => ?_) (x1.trans (Same.ext (Same.trans s23 s4))) (t1.ext (Same.trans s23 s4))
    clear s4 s23 hr s3 hp s2 x1 t1 a1 a4 en hn o60
    -- 5
    refine ⟨_, rfl, .inl ⟨rfl, _, SqL.of tl5.lst.choose_spec.1⟩, tl5.tab, fun L1 x1 t1 => ?_⟩
    refine ⟨by show 1 ≤ sizeLine; decide, fun L2 p s2 hp => ?_⟩
    have o1 : okW 2 [1] := ⟨by decide, fun n hn => by rw [List.mem_singleton.mp hn]; omega⟩
    refine ⟨.int 2, .int 0, .ref p, rfl, nv_int _, fun e => absurd e (by decide), fun k' ek a1 a4 => ?_⟩
    cases ek
    refine ⟨nv_int _, fun e => absurd e (by decide), fun n en hn => ?_⟩
    have en0 : n = 0 := by injection en with en; omega
    subst en0
    refine ⟨true, spv_of (ws := [1]) ⟨p, rfl, hp⟩ o1, fun z => (by cases z), fun _ => ⟨[1], ⟨p, rfl, hp⟩, o1, fun _ => mOpr (t1.ext s2) (GotN.to (tl5.more (by simp) fun M6 tl6 => ?_) (x1.trans (Same.ext s2))), fun hle => absurd hle (by decide)⟩⟩
    clear hp s2 x1 t1 a1 a4 en hn o1
    -- what is due
    refine ⟨_, rfl, by show 1 ≤ sizeLine; decide, fun N1 i1 r1 h1 => ⟨by show 1 ≤ sizeLine; decide, fun N2 i2 r2 h2 => ⟨by show 1 ≤ sizeLine; decide, fun N3 i3 r3 h3 => ⟨by show 2 ≤ sizeLine; decide, fun N4 i4 r4 h4 => ⟨by show 1 ≤ sizeLine; decide, fun N5 i5 r5 h5 => ⟨by show 2 ≤ sizeLine; decide, fun N6 i6 r6 h6 => ?_⟩⟩⟩⟩⟩⟩
    refine ⟨by show 6 ≤ sizeLine; decide, fun NA iA rA nA gA => ?_⟩
    have y6 := rA
    have y5 := Same.trans r6 y6
    have y4 := Same.trans r5 y5
    have y3 := Same.trans r4 y4
    have y2 := Same.trans r3 y3
    have y1 := Same.trans r2 y2
    have y0 := Same.trans r1 y1
    obtain ⟨vs, hl6, hs6⟩ := tl6.at_
    have st : ∀ a xs, SqT K M6 a xs → SqT K NA a xs := fun a xs h => Same.sqt y0 h
    have two : IsSts K NA _ [tL, tL, tL, tO, tL, tO] := .cons ⟨i1, rfl, Same.sqt y1 h1⟩ (.cons ⟨i2, rfl, Same.sqt y2 h2⟩ (.cons ⟨i3, rfl, Same.sqt y3 h3⟩ (.cons ⟨i4, rfl, Same.sqt y4 h4⟩ (.cons ⟨i5, rfl, Same.sqt y5 h5⟩ (.cons ⟨i6, rfl, Same.sqt y6 h6⟩ .nil)))))
    have lay : okL [tL, tL, tL, tO, tL, tO] := okL_cons lL (okL_cons lL (okL_cons lL (okL_cons lO (okL_cons lL (okL_cons lO okL_nil)))))
    have hs9 : IsSts K NA vs [tL, tL, tL, tO, tL, tO] := hs6.to st
    have eqv := eqv_sts lay
    refine ⟨_, _, IsSts.dp (SqL.of (y0 _ _ hl6)) hs9, IsSts.dp (SqL.of gA) two, shaped_sts lay, shaped_sts lay, _, rfl, ?_⟩
    rw [eqv]
    refine iteF ?_
    refine ⟨by show 5 ≤ sizeLine; decide, fun I1 j1 i1 _ hj1 => ⟨by show 5 ≤ sizeLine; decide, fun I2 j2 i2 _ hj2 => ?_⟩⟩
    have hd : ∀ {H : Hp} {t : Addr}, H t = some (.lst [.int 4, .int 200, .int 200, .int 8, .int 60]) → Dp K H (.ref t) (.list [.int 4, .int 200, .int 200, .int 8, .int 60]) := fun h1 => .lst (SqL.of h1) (.cons (.int _) (.cons (.int _) (.cons (.int _) (.cons (.int _) (.cons (.int _) .nil)))))
    refine ⟨_, _, hd (i2 _ _ hj1), hd hj2, by decide +kernel, by decide +kernel, ?_⟩
    have e5 : PyData.eqv (.list [.int 4, .int 200, .int 200, .int 8, .int 60]) (.list [.int 4, .int 200, .int 200, .int 8, .int 60]) = true := by decide +kernel
    rw [e5]
    exact q _
end
end K01
/-! K01q -/
set_option Elab.async false
set_option linter.all false
set_option maxRecDepth 100000
set_option maxHeartbeats 4000000
namespace K01
open PySem PySem.Spec PyProof.Rows L2 PpSet RL LamX
theorem kit_self {K : PySem.W.Frag} {S : Addr} : PySem.W.kitOne K (.ref S) (.ref S) = some true := by
  unfold PySem.W.kitOne
  rw [if_pos (by simp)]
theorem kit_rr {K : PySem.W.Frag} {S R : Addr} {v : Bool} (hne : S ≠ R) (h2 : PySem.W.isClsIn K R = true) (h3 : PySem.W.typeIn K (.ref R) = some (.type "type")) (h4 : PySem.W.subIn K (.ref S) (.ref R) = some v) : PySem.W.kitOne K (.ref S) (.ref R) = some v := by
  have a2 : ((PySem.W.clsIn K R).isSome && PySem.W.typeIn K (.ref R) == some (.type "type")) = true := by
    rw [show (PySem.W.clsIn K R).isSome = true from h2, h3]
    rfl
  unfold PySem.W.kitOne
  rw [if_neg (by simpa using hne)]
  show (if ((PySem.W.clsIn K R).isSome && PySem.W.typeIn K (.ref R) == some (.type "type")) = true then PySem.W.subIn K (.ref S) (.ref R) else none) = some v
  rw [if_pos a2]
  exact h4
theorem fname_spot : PySem.OwX.FName "spot" where
  bind := fun _ _ _ _ _ _ _ _ _ _ _ _ _ _ => rfl
  all := fun _ _ => rfl
  one := fun _ _ _ _ _ _ => rfl
  two := fun _ _ _ _ _ _ => rfl
  here := rfl
  dbg := by decide
theorem fname_wanted : PySem.OwX.FName "wanted" where
  bind := fun _ _ _ _ _ _ _ _ _ _ _ _ _ _ => rfl
  all := fun _ _ => rfl
  one := fun _ _ _ _ _ _ => rfl
  two := fun _ _ _ _ _ _ => rfl
  here := rfl
  dbg := by decide
theorem fname_limit : PySem.OwX.FName "limit" where
  bind := fun _ _ _ _ _ _ _ _ _ _ _ _ _ _ => rfl
  all := fun _ _ => rfl
  one := fun _ _ _ _ _ _ => rfl
  two := fun _ _ _ _ _ _ => rfl
  here := rfl
  dbg := by decide
theorem fname_reason : PySem.OwX.FName "reason" where
  bind := fun _ _ _ _ _ _ _ _ _ _ _ _ _ _ => rfl
  all := fun _ _ => rfl
  one := fun _ _ _ _ _ _ => rfl
  two := fun _ _ _ _ _ _ => rfl
  here := rfl
  dbg := by decide
theorem fname_steps : PySem.OwX.FName "steps" where
  bind := fun _ _ _ _ _ _ _ _ _ _ _ _ _ _ => rfl
  all := fun _ _ => rfl
  one := fun _ _ _ _ _ _ => rfl
  two := fun _ _ _ _ _ _ => rfl
  here := rfl
  dbg := by decide
theorem kit_own {K : PySem.W.Frag} {C : Addr} {T : String} {b : Bool} (h : PySem.W.subIn K (.ref C) (.type T) = some b) (m : PySem.W.kitMeta T = true) : PySem.W.kitOne K (.ref C) (.type T) = some b := by
  unfold PySem.W.kitOne
  rw [if_neg (by simp)]
  show (if PySem.W.kitMeta T = true then PySem.W.subIn K (.ref C) (.type T) else none) = some b
  rw [if_pos m]
  exact h
theorem tab_mk {K : PySem.W.Frag} {x : Str} {f c P : Addr} {oc e : Value} {od dd : Option Addr} {fd : FuncData} {sl s2 : Array (Option Value)} {vs : Array Value} (a : PySem.W.nsIn K mainGlobals x = some (some (.ref f))) (l : K.lookup f = some ⟨oc, od, .func fd, sl⟩)
    (hc : fd.code = .ref c) (k : K.lookup c = some ⟨e, dd, .fields vs, s2⟩) (hv : vs[11]? = some (.ref P)) : PySem.W.tabIn K x = some (c, P) := by
  unfold PySem.W.tabIn
  simp only [a, l, hc, k, hv]
theorem exm_mk {K : PySem.W.Frag} {S R : Addr} {v : Bool} (h1 : PySem.W.subIn K (.ref R) (.type "BaseException") = some true) (h2 : PySem.W.isClsIn K R = true) (h3 : PySem.W.typeIn K (.ref R) = some (.type "type")) (h4 : PySem.W.subIn K (.ref S) (.ref R) = some v) :
    PySem.W.exmOne K (.ref S) (.ref R) = some v := by
  have a1 : (PySem.W.subIn K (.ref R) (.type "BaseException") == some true) = true := by rw [h1]; rfl
  have a2 : ((PySem.W.clsIn K R).isSome && PySem.W.typeIn K (.ref R) == some (.type "type")) = true := by
    rw [show (PySem.W.clsIn K R).isSome = true from h2, h3]
    rfl
  show (if (PySem.W.subIn K (.ref R) (.type "BaseException") == some true) = true then
    (if ((PySem.W.clsIn K R).isSome && PySem.W.typeIn K (.ref R) == some (.type "type")) = true then PySem.W.subIn K (.ref S) (.ref R) else none) else none) = some v
  rw [if_pos a1, if_pos a2]
  exact h4
def txt_mk {K : PySem.W.Frag} {h : Heap} {mg : Str → Option Value} (X : K.In h) (G : h.Ns mainGlobals mg)
    {f0 : Addr} {od0 an0 : Option Addr} {sl0 : Array (Option Value)} {oc0 kV0 dc0 pm0 cd0 ct0 : Value}
    {f1 : Addr} {od1 an1 : Option Addr} {sl1 : Array (Option Value)} {oc1 kV1 dc1 pm1 cd1 ct1 : Value}
    {f2 : Addr} {od2 an2 : Option Addr} {sl2 : Array (Option Value)} {oc2 kV2 dc2 pm2 cd2 ct2 : Value}
    {f3 : Addr} {od3 an3 : Option Addr} {sl3 : Array (Option Value)} {oc3 kV3 dc3 pm3 cd3 ct3 : Value}
    {f4 : Addr} {od4 an4 : Option Addr} {sl4 : Array (Option Value)} {oc4 kV4 dc4 pm4 cd4 ct4 : Value}
    {f5 : Addr} {od5 an5 : Option Addr} {sl5 : Array (Option Value)} {oc5 kV5 dc5 pm5 cd5 ct5 : Value}
    {f6 : Addr} {od6 an6 : Option Addr} {sl6 : Array (Option Value)} {oc6 kV6 dc6 pm6 cd6 ct6 : Value}
    {f7 : Addr} {od7 an7 : Option Addr} {sl7 : Array (Option Value)} {oc7 kV7 dc7 pm7 cd7 ct7 : Value}
    {f8 : Addr} {od8 an8 : Option Addr} {sl8 : Array (Option Value)} {oc8 kV8 dc8 pm8 cd8 ct8 : Value}
    {f9 : Addr} {od9 an9 : Option Addr} {sl9 : Array (Option Value)} {oc9 kV9 dc9 pm9 cd9 ct9 : Value}
    {f10 : Addr} {od10 an10 : Option Addr} {sl10 : Array (Option Value)} {oc10 kV10 dc10 pm10 cd10 ct10 : Value}
    {f11 : Addr} {od11 an11 : Option Addr} {sl11 : Array (Option Value)} {oc11 kV11 dc11 pm11 cd11 ct11 : Value}
    {f12 : Addr} {od12 an12 : Option Addr} {sl12 : Array (Option Value)} {oc12 kV12 dc12 pm12 cd12 ct12 : Value}
    {f13 : Addr} {od13 an13 : Option Addr} {sl13 : Array (Option Value)} {oc13 kV13 dc13 pm13 cd13 ct13 : Value}
    {f14 : Addr} {od14 an14 : Option Addr} {sl14 : Array (Option Value)} {oc14 kV14 dc14 pm14 cd14 ct14 : Value}
    {f15 : Addr} {od15 an15 : Option Addr} {sl15 : Array (Option Value)} {oc15 kV15 dc15 pm15 cd15 ct15 : Value}
    {f16 : Addr} {od16 an16 : Option Addr} {sl16 : Array (Option Value)} {oc16 kV16 dc16 pm16 cd16 ct16 : Value}
    {f17 : Addr} {od17 an17 : Option Addr} {sl17 : Array (Option Value)} {oc17 kV17 dc17 pm17 cd17 ct17 : Value}
    {f18 : Addr} {od18 an18 : Option Addr} {sl18 : Array (Option Value)} {oc18 kV18 dc18 pm18 cd18 ct18 : Value}
    {f19 : Addr} {od19 an19 : Option Addr} {sl19 : Array (Option Value)} {oc19 kV19 dc19 pm19 cd19 ct19 : Value}
    {f20 : Addr} {od20 an20 : Option Addr} {sl20 : Array (Option Value)} {oc20 kV20 dc20 pm20 cd20 ct20 : Value}
    {f21 : Addr} {od21 an21 : Option Addr} {sl21 : Array (Option Value)} {oc21 kV21 dc21 pm21 cd21 ct21 : Value}
    {f22 : Addr} {od22 an22 : Option Addr} {sl22 : Array (Option Value)} {oc22 kV22 dc22 pm22 cd22 ct22 : Value}
    {f23 : Addr} {od23 an23 : Option Addr} {sl23 : Array (Option Value)} {oc23 kV23 dc23 pm23 cd23 ct23 : Value}
    {f24 : Addr} {od24 an24 : Option Addr} {sl24 : Array (Option Value)} {oc24 kV24 dc24 pm24 cd24 ct24 : Value}
    {f25 : Addr} {od25 an25 : Option Addr} {sl25 : Array (Option Value)} {oc25 kV25 dc25 pm25 cd25 ct25 : Value}
    {f26 : Addr} {od26 an26 : Option Addr} {sl26 : Array (Option Value)} {oc26 kV26 dc26 pm26 ct26 : Value}
    {cc26 P26 : Addr}
    {f27 : Addr} {od27 an27 : Option Addr} {sl27 : Array (Option Value)} {oc27 kV27 dc27 pm27 ct27 : Value}
    {cc27 P27 : Addr}
    {f28 : Addr} {od28 an28 : Option Addr} {sl28 : Array (Option Value)} {oc28 kV28 dc28 pm28 ct28 : Value}
    {cc28 P28 : Addr}
    {f29 : Addr} {od29 an29 : Option Addr} {sl29 : Array (Option Value)} {oc29 kV29 dc29 pm29 cd29 ct29 : Value}
    {tk_MAX_LETTERS : Tok}
    {tk_MAX_WORD : Tok}
    {tk_MOST_SORTED : Tok}
    {tk_MOST_LISTED : Tok}
    {tk_MOST_PLACED : Tok}
    {X_RoomError : Addr}
    {X_InvalidWord : Addr}
    {X_InvalidHeight : Addr}
    {X_InvalidMachine : Addr}
    {X_InvalidReader : Addr}
    {X_InvalidRooms : Addr}
    {X_InvalidLines : Addr}
    {X_InvalidOrder : Addr}
    {X_InvalidOperation : Addr}
    {X_InvalidName : Addr}
    {X_ParseError : Addr}
    {I_ParseError : Addr} {xod_ParseError xan_ParseError : Option Addr} {xsl_ParseError : Array (Option Value)} {xoc_ParseError xdc_ParseError xpm_ParseError xcd_ParseError xct_ParseError : Value}
    {X_InvalidNumber : Addr}
    {I_InvalidNumber : Addr} {xod_InvalidNumber xan_InvalidNumber : Option Addr} {xsl_InvalidNumber : Array (Option Value)} {xoc_InvalidNumber xdc_InvalidNumber xpm_InvalidNumber xcd_InvalidNumber xct_InvalidNumber : Value}
    {X_UnknownName : Addr}
    {I_UnknownName : Addr} {xod_UnknownName xan_UnknownName : Option Addr} {xsl_UnknownName : Array (Option Value)} {xoc_UnknownName xdc_UnknownName xpm_UnknownName xcd_UnknownName xct_UnknownName : Value}
    {X_TooMany : Addr}
    {I_TooMany : Addr} {xod_TooMany xan_TooMany : Option Addr} {xsl_TooMany : Array (Option Value)} {xoc_TooMany xdc_TooMany xpm_TooMany xcd_TooMany xct_TooMany : Value}
    {X_Refused : Addr}
    {I_Refused : Addr} {xod_Refused xan_Refused : Option Addr} {xsl_Refused : Array (Option Value)} {xoc_Refused xdc_Refused xpm_Refused xcd_Refused xct_Refused : Value}
    {X_NothingToUndo : Addr}
    {I_NothingToUndo : Addr} {xod_NothingToUndo xan_NothingToUndo : Option Addr} {xsl_NothingToUndo : Array (Option Value)} {xoc_NothingToUndo xdc_NothingToUndo xpm_NothingToUndo xcd_NothingToUndo xct_NothingToUndo : Value}
    (a0 : PySem.W.nsIn K mainGlobals "is_number" = some (some (.ref f0)))
    (l0 : K.lookup f0 = some ⟨oc0, od0, .func (PySem.W.fnOf "is_number" "is_number" (defArgs s_is_number) (defBody s_is_number) (defScope s_is_number) .none kV0 dc0 pm0 an0 cd0 ct0), sl0⟩)
    (c0 : PySem.W.codeIn K cd0 "is_number" = true)
    (k0 : PySem.W.keepIn K (.ref f0) = true)
    (a1 : PySem.W.nsIn K mainGlobals "check_number" = some (some (.ref f1)))
    (l1 : K.lookup f1 = some ⟨oc1, od1, .func (PySem.W.fnOf "check_number" "check_number" (defArgs s_check_number) (defBody s_check_number) (defScope s_check_number) .none kV1 dc1 pm1 an1 cd1 ct1), sl1⟩)
    (c1 : PySem.W.codeIn K cd1 "check_number" = true)
    (k1 : PySem.W.keepIn K (.ref f1) = true)
    (a2 : PySem.W.nsIn K mainGlobals "check_count" = some (some (.ref f2)))
    (l2 : K.lookup f2 = some ⟨oc2, od2, .func (PySem.W.fnOf "check_count" "check_count" (defArgs s_check_count) (defBody s_check_count) (defScope s_check_count) .none kV2 dc2 pm2 an2 cd2 ct2), sl2⟩)
    (c2 : PySem.W.codeIn K cd2 "check_count" = true)
    (k2 : PySem.W.keepIn K (.ref f2) = true)
    (a3 : PySem.W.nsIn K mainGlobals "check_letters" = some (some (.ref f3)))
    (l3 : K.lookup f3 = some ⟨oc3, od3, .func (PySem.W.fnOf "check_letters" "check_letters" (defArgs s_check_letters) (defBody s_check_letters) (defScope s_check_letters) .none kV3 dc3 pm3 an3 cd3 ct3), sl3⟩)
    (c3 : PySem.W.codeIn K cd3 "check_letters" = true)
    (k3 : PySem.W.keepIn K (.ref f3) = true)
    (a4 : PySem.W.nsIn K mainGlobals "is_spelled" = some (some (.ref f4)))
    (l4 : K.lookup f4 = some ⟨oc4, od4, .func (PySem.W.fnOf "is_spelled" "is_spelled" (defArgs s_is_spelled) (defBody s_is_spelled) (defScope s_is_spelled) .none kV4 dc4 pm4 an4 cd4 ct4), sl4⟩)
    (c4 : PySem.W.codeIn K cd4 "is_spelled" = true)
    (k4 : PySem.W.keepIn K (.ref f4) = true)
    (a5 : PySem.W.nsIn K mainGlobals "check_word" = some (some (.ref f5)))
    (l5 : K.lookup f5 = some ⟨oc5, od5, .func (PySem.W.fnOf "check_word" "check_word" (defArgs s_check_word) (defBody s_check_word) (defScope s_check_word) .none kV5 dc5 pm5 an5 cd5 ct5), sl5⟩)
    (c5 : PySem.W.codeIn K cd5 "check_word" = true)
    (k5 : PySem.W.keepIn K (.ref f5) = true)
    (a6 : PySem.W.nsIn K mainGlobals "check_both" = some (some (.ref f6)))
    (l6 : K.lookup f6 = some ⟨oc6, od6, .func (PySem.W.fnOf "check_both" "check_both" (defArgs s_check_both) (defBody s_check_both) (defScope s_check_both) .none kV6 dc6 pm6 an6 cd6 ct6), sl6⟩)
    (c6 : PySem.W.codeIn K cd6 "check_both" = true)
    (k6 : PySem.W.keepIn K (.ref f6) = true)
    (a7 : PySem.W.nsIn K mainGlobals "order_words" = some (some (.ref f7)))
    (l7 : K.lookup f7 = some ⟨oc7, od7, .func (PySem.W.fnOf "order_words" "order_words" (defArgs s_order_words) (defBody s_order_words) (defScope s_order_words) .none kV7 dc7 pm7 an7 cd7 ct7), sl7⟩)
    (c7 : PySem.W.codeIn K cd7 "order_words" = true)
    (k7 : PySem.W.keepIn K (.ref f7) = true)
    (a8 : PySem.W.nsIn K mainGlobals "count_common" = some (some (.ref f8)))
    (l8 : K.lookup f8 = some ⟨oc8, od8, .func (PySem.W.fnOf "count_common" "count_common" (defArgs s_count_common) (defBody s_count_common) (defScope s_count_common) .none kV8 dc8 pm8 an8 cd8 ct8), sl8⟩)
    (c8 : PySem.W.codeIn K cd8 "count_common" = true)
    (k8 : PySem.W.keepIn K (.ref f8) = true)
    (a9 : PySem.W.nsIn K mainGlobals "is_word" = some (some (.ref f9)))
    (l9 : K.lookup f9 = some ⟨oc9, od9, .func (PySem.W.fnOf "is_word" "is_word" (defArgs s_is_word) (defBody s_is_word) (defScope s_is_word) .none kV9 dc9 pm9 an9 cd9 ct9), sl9⟩)
    (c9 : PySem.W.codeIn K cd9 "is_word" = true)
    (k9 : PySem.W.keepIn K (.ref f9) = true)
    (a10 : PySem.W.nsIn K mainGlobals "compare_words" = some (some (.ref f10)))
    (l10 : K.lookup f10 = some ⟨oc10, od10, .func (PySem.W.fnOf "compare_words" "compare_words" (defArgs s_compare_words) (defBody s_compare_words) (defScope s_compare_words) .none kV10 dc10 pm10 an10 cd10 ct10), sl10⟩)
    (c10 : PySem.W.codeIn K cd10 "compare_words" = true)
    (k10 : PySem.W.keepIn K (.ref f10) = true)
    (a11 : PySem.W.nsIn K mainGlobals "common_end" = some (some (.ref f11)))
    (l11 : K.lookup f11 = some ⟨oc11, od11, .func (PySem.W.fnOf "common_end" "common_end" (defArgs s_common_end) (defBody s_common_end) (defScope s_common_end) .none kV11 dc11 pm11 an11 cd11 ct11), sl11⟩)
    (c11 : PySem.W.codeIn K cd11 "common_end" = true)
    (k11 : PySem.W.keepIn K (.ref f11) = true)
    (a12 : PySem.W.nsIn K mainGlobals "is_end" = some (some (.ref f12)))
    (l12 : K.lookup f12 = some ⟨oc12, od12, .func (PySem.W.fnOf "is_end" "is_end" (defArgs s_is_end) (defBody s_is_end) (defScope s_is_end) .none kV12 dc12 pm12 an12 cd12 ct12), sl12⟩)
    (c12 : PySem.W.codeIn K cd12 "is_end" = true)
    (k12 : PySem.W.keepIn K (.ref f12) = true)
    (a13 : PySem.W.nsIn K mainGlobals "in_order" = some (some (.ref f13)))
    (l13 : K.lookup f13 = some ⟨oc13, od13, .func (PySem.W.fnOf "in_order" "in_order" (defArgs s_in_order) (defBody s_in_order) (defScope s_in_order) .none kV13 dc13 pm13 an13 cd13 ct13), sl13⟩)
    (c13 : PySem.W.codeIn K cd13 "in_order" = true)
    (k13 : PySem.W.keepIn K (.ref f13) = true)
    (a14 : PySem.W.nsIn K mainGlobals "sorted_words" = some (some (.ref f14)))
    (l14 : K.lookup f14 = some ⟨oc14, od14, .func (PySem.W.fnOf "sorted_words" "sorted_words" (defArgs s_sorted_words) (defBody s_sorted_words) (defScope s_sorted_words) .none kV14 dc14 pm14 an14 cd14 ct14), sl14⟩)
    (c14 : PySem.W.codeIn K cd14 "sorted_words" = true)
    (k14 : PySem.W.keepIn K (.ref f14) = true)
    (a15 : PySem.W.nsIn K mainGlobals "_raised" = some (some (.ref f15)))
    (l15 : K.lookup f15 = some ⟨oc15, od15, .func (PySem.W.fnOf "_raised" "_raised" (defArgs s__raised) (defBody s__raised) (defScope s__raised) .none kV15 dc15 pm15 an15 cd15 ct15), sl15⟩)
    (c15 : PySem.W.codeIn K cd15 "_raised" = true)
    (k15 : PySem.W.keepIn K (.ref f15) = true)
    (a16 : PySem.W.nsIn K mainGlobals "words_of" = some (some (.ref f16)))
    (l16 : K.lookup f16 = some ⟨oc16, od16, .func (PySem.W.fnOf "words_of" "words_of" (defArgs s_words_of) (defBody s_words_of) (defScope s_words_of) .none kV16 dc16 pm16 an16 cd16 ct16), sl16⟩)
    (c16 : PySem.W.codeIn K cd16 "words_of" = true)
    (k16 : PySem.W.keepIn K (.ref f16) = true)
    (a17 : PySem.W.nsIn K mainGlobals "words_to" = some (some (.ref f17)))
    (l17 : K.lookup f17 = some ⟨oc17, od17, .func (PySem.W.fnOf "words_to" "words_to" (defArgs s_words_to) (defBody s_words_to) (defScope s_words_to) .none kV17 dc17 pm17 an17 cd17 ct17), sl17⟩)
    (c17 : PySem.W.codeIn K cd17 "words_to" = true)
    (k17 : PySem.W.keepIn K (.ref f17) = true)
    (a18 : PySem.W.nsIn K mainGlobals "_sizes" = some (some (.ref f18)))
    (l18 : K.lookup f18 = some ⟨oc18, od18, .func (PySem.W.fnOf "_sizes" "_sizes" (defArgs s__sizes) (defBody s__sizes) (defScope s__sizes) .none kV18 dc18 pm18 an18 cd18 ct18), sl18⟩)
    (c18 : PySem.W.codeIn K cd18 "_sizes" = true)
    (k18 : PySem.W.keepIn K (.ref f18) = true)
    (a19 : PySem.W.nsIn K mainGlobals "word_place" = some (some (.ref f19)))
    (l19 : K.lookup f19 = some ⟨oc19, od19, .func (PySem.W.fnOf "word_place" "word_place" (defArgs s_word_place) (defBody s_word_place) (defScope s_word_place) .none kV19 dc19 pm19 an19 cd19 ct19), sl19⟩)
    (c19 : PySem.W.codeIn K cd19 "word_place" = true)
    (k19 : PySem.W.keepIn K (.ref f19) = true)
    (a20 : PySem.W.nsIn K mainGlobals "word_at" = some (some (.ref f20)))
    (l20 : K.lookup f20 = some ⟨oc20, od20, .func (PySem.W.fnOf "word_at" "word_at" (defArgs s_word_at) (defBody s_word_at) (defScope s_word_at) .none kV20 dc20 pm20 an20 cd20 ct20), sl20⟩)
    (c20 : PySem.W.codeIn K cd20 "word_at" = true)
    (k20 : PySem.W.keepIn K (.ref f20) = true)
    (a21 : PySem.W.nsIn K mainGlobals "_law_bag" = some (some (.ref f21)))
    (l21 : K.lookup f21 = some ⟨oc21, od21, .func (PySem.W.fnOf "_law_bag" "_law_bag" (defArgs s__law_bag) (defBody s__law_bag) (defScope s__law_bag) .none kV21 dc21 pm21 an21 cd21 ct21), sl21⟩)
    (c21 : PySem.W.codeIn K cd21 "_law_bag" = true)
    (k21 : PySem.W.keepIn K (.ref f21) = true)
    (a22 : PySem.W.nsIn K mainGlobals "_law_grab" = some (some (.ref f22)))
    (l22 : K.lookup f22 = some ⟨oc22, od22, .func (PySem.W.fnOf "_law_grab" "_law_grab" (defArgs s__law_grab) (defBody s__law_grab) (defScope s__law_grab) .none kV22 dc22 pm22 an22 cd22 ct22), sl22⟩)
    (c22 : PySem.W.codeIn K cd22 "_law_grab" = true)
    (k22 : PySem.W.keepIn K (.ref f22) = true)
    (a23 : PySem.W.nsIn K mainGlobals "_law_one_of" = some (some (.ref f23)))
    (l23 : K.lookup f23 = some ⟨oc23, od23, .func (PySem.W.fnOf "_law_one_of" "_law_one_of" (defArgs s__law_one_of) (defBody s__law_one_of) (defScope s__law_one_of) .none kV23 dc23 pm23 an23 cd23 ct23), sl23⟩)
    (c23 : PySem.W.codeIn K cd23 "_law_one_of" = true)
    (k23 : PySem.W.keepIn K (.ref f23) = true)
    (a24 : PySem.W.nsIn K mainGlobals "_law_flags" = some (some (.ref f24)))
    (l24 : K.lookup f24 = some ⟨oc24, od24, .func (PySem.W.fnOf "_law_flags" "_law_flags" (defArgs s__law_flags) (defBody s__law_flags) (defScope s__law_flags) .none kV24 dc24 pm24 an24 cd24 ct24), sl24⟩)
    (c24 : PySem.W.codeIn K cd24 "_law_flags" = true)
    (k24 : PySem.W.keepIn K (.ref f24) = true)
    (a25 : PySem.W.nsIn K mainGlobals "_law_kept_right" = some (some (.ref f25)))
    (l25 : K.lookup f25 = some ⟨oc25, od25, .func (PySem.W.fnOf "_law_kept_right" "_law_kept_right" (defArgs s__law_kept_right) (defBody s__law_kept_right) (defScope s__law_kept_right) .none kV25 dc25 pm25 an25 cd25 ct25), sl25⟩)
    (c25 : PySem.W.codeIn K cd25 "_law_kept_right" = true)
    (k25 : PySem.W.keepIn K (.ref f25) = true)
    (a26 : PySem.W.nsIn K mainGlobals "_law_two_right" = some (some (.ref f26)))
    (l26 : K.lookup f26 = some ⟨oc26, od26, .func (PySem.W.fnOf "_law_two_right" "_law_two_right" (defArgs s__law_two_right) (defBody s__law_two_right) (defScope s__law_two_right) .none kV26 dc26 pm26 an26 (.ref cc26) ct26), sl26⟩)
    (c26 : PySem.W.codeIn K (.ref cc26) "_law_two_right" = true)
    (k26 : PySem.W.keepIn K (.ref f26) = true)
    (a27 : PySem.W.nsIn K mainGlobals "_law_lists_right" = some (some (.ref f27)))
    (l27 : K.lookup f27 = some ⟨oc27, od27, .func (PySem.W.fnOf "_law_lists_right" "_law_lists_right" (defArgs s__law_lists_right) (defBody s__law_lists_right) (defScope s__law_lists_right) .none kV27 dc27 pm27 an27 (.ref cc27) ct27), sl27⟩)
    (c27 : PySem.W.codeIn K (.ref cc27) "_law_lists_right" = true)
    (k27 : PySem.W.keepIn K (.ref f27) = true)
    (a28 : PySem.W.nsIn K mainGlobals "law" = some (some (.ref f28)))
    (l28 : K.lookup f28 = some ⟨oc28, od28, .func (PySem.W.fnOf "law" "law" (defArgs s_law) (defBody s_law) (defScope s_law) .none kV28 dc28 pm28 an28 (.ref cc28) ct28), sl28⟩)
    (c28 : PySem.W.codeIn K (.ref cc28) "law" = true)
    (k28 : PySem.W.keepIn K (.ref f28) = true)
    (a29 : PySem.W.nsIn K mainGlobals "_law_fault" = some (some (.ref f29)))
    (l29 : K.lookup f29 = some ⟨oc29, od29, .func (PySem.W.fnOf "_law_fault" "_law_fault" (defArgs s__law_fault) (defBody s__law_fault) (defScope s__law_fault) .none kV29 dc29 pm29 an29 cd29 ct29), sl29⟩)
    (c29 : PySem.W.codeIn K cd29 "_law_fault" = true)
    (k29 : PySem.W.keepIn K (.ref f29) = true)
    (g_MAX_LETTERS : PySem.W.nsIn K mainGlobals "MAX_LETTERS" = some (some (.int 4 tk_MAX_LETTERS)))
    (g_MAX_WORD : PySem.W.nsIn K mainGlobals "MAX_WORD" = some (some (.int 200 tk_MAX_WORD)))
    (g_MOST_SORTED : PySem.W.nsIn K mainGlobals "MOST_SORTED" = some (some (.int 200 tk_MOST_SORTED)))
    (g_MOST_LISTED : PySem.W.nsIn K mainGlobals "MOST_LISTED" = some (some (.int 8 tk_MOST_LISTED)))
    (g_MOST_PLACED : PySem.W.nsIn K mainGlobals "MOST_PLACED" = some (some (.int 60 tk_MOST_PLACED)))
    (z_bool : PySem.W.nsIn K mainGlobals "bool" = some none)
    (z_len : PySem.W.nsIn K mainGlobals "len" = some none)
    (z_min : PySem.W.nsIn K mainGlobals "min" = some none)
    (z_max : PySem.W.nsIn K mainGlobals "max" = some none)
    (z_abs : PySem.W.nsIn K mainGlobals "abs" = some none)
    (z_int : PySem.W.nsIn K mainGlobals "int" = some none)
    (z_isinstance : PySem.W.nsIn K mainGlobals "isinstance" = some none)
    (z_tuple : PySem.W.nsIn K mainGlobals "tuple" = some none)
    (z_list : PySem.W.nsIn K mainGlobals "list" = some none)
    (z_all : PySem.W.nsIn K mainGlobals "all" = some none)
    (z_range : PySem.W.nsIn K mainGlobals "range" = some none)
    (z_repr : PySem.W.nsIn K mainGlobals "repr" = some none)
    (z_enumerate : PySem.W.nsIn K mainGlobals "enumerate" = some none)
    (z_sorted : PySem.W.nsIn K mainGlobals "sorted" = some none)
    (z_divmod : PySem.W.nsIn K mainGlobals "divmod" = some none)
    (z_ValueError : PySem.W.nsIn K mainGlobals "ValueError" = some none)
    (z_KeyError : PySem.W.nsIn K mainGlobals "KeyError" = some none)
    (z_IndexError : PySem.W.nsIn K mainGlobals "IndexError" = some none)
    (z_OverflowError : PySem.W.nsIn K mainGlobals "OverflowError" = some none)
    (z_ArithmeticError : PySem.W.nsIn K mainGlobals "ArithmeticError" = some none)
    (z_LookupError : PySem.W.nsIn K mainGlobals "LookupError" = some none)
    (xa_RoomError : PySem.W.nsIn K mainGlobals "RoomError" = some (some (.ref X_RoomError)))
    (xc_RoomError : PySem.W.isClsIn K X_RoomError = true)
    (xt_RoomError : PySem.W.typeIn K (.ref X_RoomError) = some (.type "type"))
    (ocn : PySem.W.specialIn K (.builtin "object.__class__") "__get__" = some (some (.builtin "getset_descriptor.__get__")))
    (oct : PySem.W.takesIn K (.builtin "object.__class__") = some true)
    (xa_InvalidWord : PySem.W.nsIn K mainGlobals "InvalidWord" = some (some (.ref X_InvalidWord)))
    (xk_InvalidWord : PySem.W.keepIn K (.ref X_InvalidWord) = true)
    (xe_InvalidWord : PySem.W.subIn K (.ref X_InvalidWord) (.type "BaseException") = some true)
    (xt_InvalidWord : PySem.W.typeIn K (.ref X_InvalidWord) = some (.type "type"))
    (xc_InvalidWord : PySem.W.isClsIn K X_InvalidWord = true)
    (xhd_InvalidWord : PySem.W.hasDictIn K X_InvalidWord = true)
    (xga_InvalidWord : PySem.W.findIn K (.ref X_InvalidWord) "__getattribute__" = some (some (.builtin "BaseException.__getattribute__")))
    (xgg_InvalidWord : PySem.W.findIn K (.ref X_InvalidWord) "__getattr__" = some none)
    (xcl_InvalidWord : PySem.W.findIn K (.ref X_InvalidWord) "__class__" = some (some (.builtin "object.__class__")))
    (xmo_InvalidWord : PySem.W.mroIn K X_InvalidWord (.type "object") = some true)
    (xs_InvalidWord : PySem.W.subIn K (.ref X_InvalidWord) (.type "StopIteration") = some false)
    (xx_InvalidWord : PySem.W.excIn K X_InvalidWord [.type "ValueError", .type "Exception", .type "BaseException", .type "object"] "ValueError.__new__" = true)
    (xa_InvalidHeight : PySem.W.nsIn K mainGlobals "InvalidHeight" = some (some (.ref X_InvalidHeight)))
    (xk_InvalidHeight : PySem.W.keepIn K (.ref X_InvalidHeight) = true)
    (xe_InvalidHeight : PySem.W.subIn K (.ref X_InvalidHeight) (.type "BaseException") = some true)
    (xt_InvalidHeight : PySem.W.typeIn K (.ref X_InvalidHeight) = some (.type "type"))
    (xc_InvalidHeight : PySem.W.isClsIn K X_InvalidHeight = true)
    (xhd_InvalidHeight : PySem.W.hasDictIn K X_InvalidHeight = true)
    (xga_InvalidHeight : PySem.W.findIn K (.ref X_InvalidHeight) "__getattribute__" = some (some (.builtin "BaseException.__getattribute__")))
    (xgg_InvalidHeight : PySem.W.findIn K (.ref X_InvalidHeight) "__getattr__" = some none)
    (xcl_InvalidHeight : PySem.W.findIn K (.ref X_InvalidHeight) "__class__" = some (some (.builtin "object.__class__")))
    (xmo_InvalidHeight : PySem.W.mroIn K X_InvalidHeight (.type "object") = some true)
    (xx_InvalidHeight : PySem.W.excIn K X_InvalidHeight [.type "ValueError", .type "Exception", .type "BaseException", .type "object"] "ValueError.__new__" = true)
    (xa_InvalidMachine : PySem.W.nsIn K mainGlobals "InvalidMachine" = some (some (.ref X_InvalidMachine)))
    (xk_InvalidMachine : PySem.W.keepIn K (.ref X_InvalidMachine) = true)
    (xe_InvalidMachine : PySem.W.subIn K (.ref X_InvalidMachine) (.type "BaseException") = some true)
    (xt_InvalidMachine : PySem.W.typeIn K (.ref X_InvalidMachine) = some (.type "type"))
    (xc_InvalidMachine : PySem.W.isClsIn K X_InvalidMachine = true)
    (xhd_InvalidMachine : PySem.W.hasDictIn K X_InvalidMachine = true)
    (xga_InvalidMachine : PySem.W.findIn K (.ref X_InvalidMachine) "__getattribute__" = some (some (.builtin "BaseException.__getattribute__")))
    (xgg_InvalidMachine : PySem.W.findIn K (.ref X_InvalidMachine) "__getattr__" = some none)
    (xcl_InvalidMachine : PySem.W.findIn K (.ref X_InvalidMachine) "__class__" = some (some (.builtin "object.__class__")))
    (xmo_InvalidMachine : PySem.W.mroIn K X_InvalidMachine (.type "object") = some true)
    (xx_InvalidMachine : PySem.W.excIn K X_InvalidMachine [.type "ValueError", .type "Exception", .type "BaseException", .type "object"] "ValueError.__new__" = true)
    (xa_InvalidReader : PySem.W.nsIn K mainGlobals "InvalidReader" = some (some (.ref X_InvalidReader)))
    (xk_InvalidReader : PySem.W.keepIn K (.ref X_InvalidReader) = true)
    (xe_InvalidReader : PySem.W.subIn K (.ref X_InvalidReader) (.type "BaseException") = some true)
    (xt_InvalidReader : PySem.W.typeIn K (.ref X_InvalidReader) = some (.type "type"))
    (xc_InvalidReader : PySem.W.isClsIn K X_InvalidReader = true)
    (xhd_InvalidReader : PySem.W.hasDictIn K X_InvalidReader = true)
    (xga_InvalidReader : PySem.W.findIn K (.ref X_InvalidReader) "__getattribute__" = some (some (.builtin "BaseException.__getattribute__")))
    (xgg_InvalidReader : PySem.W.findIn K (.ref X_InvalidReader) "__getattr__" = some none)
    (xcl_InvalidReader : PySem.W.findIn K (.ref X_InvalidReader) "__class__" = some (some (.builtin "object.__class__")))
    (xmo_InvalidReader : PySem.W.mroIn K X_InvalidReader (.type "object") = some true)
    (xx_InvalidReader : PySem.W.excIn K X_InvalidReader [.type "ValueError", .type "Exception", .type "BaseException", .type "object"] "ValueError.__new__" = true)
    (xa_InvalidRooms : PySem.W.nsIn K mainGlobals "InvalidRooms" = some (some (.ref X_InvalidRooms)))
    (xk_InvalidRooms : PySem.W.keepIn K (.ref X_InvalidRooms) = true)
    (xe_InvalidRooms : PySem.W.subIn K (.ref X_InvalidRooms) (.type "BaseException") = some true)
    (xt_InvalidRooms : PySem.W.typeIn K (.ref X_InvalidRooms) = some (.type "type"))
    (xc_InvalidRooms : PySem.W.isClsIn K X_InvalidRooms = true)
    (xhd_InvalidRooms : PySem.W.hasDictIn K X_InvalidRooms = true)
    (xga_InvalidRooms : PySem.W.findIn K (.ref X_InvalidRooms) "__getattribute__" = some (some (.builtin "BaseException.__getattribute__")))
    (xgg_InvalidRooms : PySem.W.findIn K (.ref X_InvalidRooms) "__getattr__" = some none)
    (xcl_InvalidRooms : PySem.W.findIn K (.ref X_InvalidRooms) "__class__" = some (some (.builtin "object.__class__")))
    (xmo_InvalidRooms : PySem.W.mroIn K X_InvalidRooms (.type "object") = some true)
    (xx_InvalidRooms : PySem.W.excIn K X_InvalidRooms [.type "ValueError", .type "Exception", .type "BaseException", .type "object"] "ValueError.__new__" = true)
    (xa_InvalidLines : PySem.W.nsIn K mainGlobals "InvalidLines" = some (some (.ref X_InvalidLines)))
    (xk_InvalidLines : PySem.W.keepIn K (.ref X_InvalidLines) = true)
    (xe_InvalidLines : PySem.W.subIn K (.ref X_InvalidLines) (.type "BaseException") = some true)
    (xt_InvalidLines : PySem.W.typeIn K (.ref X_InvalidLines) = some (.type "type"))
    (xc_InvalidLines : PySem.W.isClsIn K X_InvalidLines = true)
    (xhd_InvalidLines : PySem.W.hasDictIn K X_InvalidLines = true)
    (xga_InvalidLines : PySem.W.findIn K (.ref X_InvalidLines) "__getattribute__" = some (some (.builtin "BaseException.__getattribute__")))
    (xgg_InvalidLines : PySem.W.findIn K (.ref X_InvalidLines) "__getattr__" = some none)
    (xcl_InvalidLines : PySem.W.findIn K (.ref X_InvalidLines) "__class__" = some (some (.builtin "object.__class__")))
    (xmo_InvalidLines : PySem.W.mroIn K X_InvalidLines (.type "object") = some true)
    (xx_InvalidLines : PySem.W.excIn K X_InvalidLines [.type "ValueError", .type "Exception", .type "BaseException", .type "object"] "ValueError.__new__" = true)
    (xa_InvalidOrder : PySem.W.nsIn K mainGlobals "InvalidOrder" = some (some (.ref X_InvalidOrder)))
    (xk_InvalidOrder : PySem.W.keepIn K (.ref X_InvalidOrder) = true)
    (xe_InvalidOrder : PySem.W.subIn K (.ref X_InvalidOrder) (.type "BaseException") = some true)
    (xt_InvalidOrder : PySem.W.typeIn K (.ref X_InvalidOrder) = some (.type "type"))
    (xc_InvalidOrder : PySem.W.isClsIn K X_InvalidOrder = true)
    (xhd_InvalidOrder : PySem.W.hasDictIn K X_InvalidOrder = true)
    (xga_InvalidOrder : PySem.W.findIn K (.ref X_InvalidOrder) "__getattribute__" = some (some (.builtin "BaseException.__getattribute__")))
    (xgg_InvalidOrder : PySem.W.findIn K (.ref X_InvalidOrder) "__getattr__" = some none)
    (xcl_InvalidOrder : PySem.W.findIn K (.ref X_InvalidOrder) "__class__" = some (some (.builtin "object.__class__")))
    (xmo_InvalidOrder : PySem.W.mroIn K X_InvalidOrder (.type "object") = some true)
    (xx_InvalidOrder : PySem.W.excIn K X_InvalidOrder [.type "ValueError", .type "Exception", .type "BaseException", .type "object"] "ValueError.__new__" = true)
    (xa_InvalidOperation : PySem.W.nsIn K mainGlobals "InvalidOperation" = some (some (.ref X_InvalidOperation)))
    (xk_InvalidOperation : PySem.W.keepIn K (.ref X_InvalidOperation) = true)
    (xe_InvalidOperation : PySem.W.subIn K (.ref X_InvalidOperation) (.type "BaseException") = some true)
    (xt_InvalidOperation : PySem.W.typeIn K (.ref X_InvalidOperation) = some (.type "type"))
    (xc_InvalidOperation : PySem.W.isClsIn K X_InvalidOperation = true)
    (xhd_InvalidOperation : PySem.W.hasDictIn K X_InvalidOperation = true)
    (xga_InvalidOperation : PySem.W.findIn K (.ref X_InvalidOperation) "__getattribute__" = some (some (.builtin "BaseException.__getattribute__")))
    (xgg_InvalidOperation : PySem.W.findIn K (.ref X_InvalidOperation) "__getattr__" = some none)
    (xcl_InvalidOperation : PySem.W.findIn K (.ref X_InvalidOperation) "__class__" = some (some (.builtin "object.__class__")))
    (xmo_InvalidOperation : PySem.W.mroIn K X_InvalidOperation (.type "object") = some true)
    (xs_InvalidOperation : PySem.W.subIn K (.ref X_InvalidOperation) (.type "StopIteration") = some false)
    (xx_InvalidOperation : PySem.W.excIn K X_InvalidOperation [.type "ValueError", .type "Exception", .type "BaseException", .type "object"] "ValueError.__new__" = true)
    (xa_InvalidName : PySem.W.nsIn K mainGlobals "InvalidName" = some (some (.ref X_InvalidName)))
    (xk_InvalidName : PySem.W.keepIn K (.ref X_InvalidName) = true)
    (xe_InvalidName : PySem.W.subIn K (.ref X_InvalidName) (.type "BaseException") = some true)
    (xt_InvalidName : PySem.W.typeIn K (.ref X_InvalidName) = some (.type "type"))
    (xc_InvalidName : PySem.W.isClsIn K X_InvalidName = true)
    (xhd_InvalidName : PySem.W.hasDictIn K X_InvalidName = true)
    (xga_InvalidName : PySem.W.findIn K (.ref X_InvalidName) "__getattribute__" = some (some (.builtin "BaseException.__getattribute__")))
    (xgg_InvalidName : PySem.W.findIn K (.ref X_InvalidName) "__getattr__" = some none)
    (xcl_InvalidName : PySem.W.findIn K (.ref X_InvalidName) "__class__" = some (some (.builtin "object.__class__")))
    (xmo_InvalidName : PySem.W.mroIn K X_InvalidName (.type "object") = some true)
    (xx_InvalidName : PySem.W.excIn K X_InvalidName [.type "ValueError", .type "Exception", .type "BaseException", .type "object"] "ValueError.__new__" = true)
    (xa_ParseError : PySem.W.nsIn K mainGlobals "ParseError" = some (some (.ref X_ParseError)))
    (xk_ParseError : PySem.W.keepIn K (.ref X_ParseError) = true)
    (xe_ParseError : PySem.W.subIn K (.ref X_ParseError) (.type "BaseException") = some true)
    (xt_ParseError : PySem.W.typeIn K (.ref X_ParseError) = some (.type "type"))
    (xc_ParseError : PySem.W.isClsIn K X_ParseError = true)
    (xhd_ParseError : PySem.W.hasDictIn K X_ParseError = true)
    (xga_ParseError : PySem.W.findIn K (.ref X_ParseError) "__getattribute__" = some (some (.builtin "BaseException.__getattribute__")))
    (xgg_ParseError : PySem.W.findIn K (.ref X_ParseError) "__getattr__" = some none)
    (xcl_ParseError : PySem.W.findIn K (.ref X_ParseError) "__class__" = some (some (.builtin "object.__class__")))
    (xmo_ParseError : PySem.W.mroIn K X_ParseError (.type "object") = some true)
    (xi_ParseError : PySem.W.excInitIn K X_ParseError [.type "ValueError", .type "Exception", .type "BaseException", .type "object"] "ValueError.__new__" = true)
    (xo_ParseError : PySem.W.excOver K X_ParseError [.type "ValueError", .type "Exception", .type "BaseException", .type "object"] = true)
    (xsa_ParseError : PySem.W.findIn K (.ref X_ParseError) "__setattr__" = some (some (.builtin "object.__setattr__")))
    (xno_ParseError : PySem.W.findIn K (.ref X_ParseError) "spot" = some none)
    (xin_ParseError : PySem.W.findIn K (.ref X_ParseError) "__init__" = some (some (.ref I_ParseError)))
    (xit_ParseError : PySem.W.typeIn K (.ref I_ParseError) = some (.type "function"))
    (xl_ParseError : K.lookup I_ParseError = some ⟨xoc_ParseError, xod_ParseError, .func (PySem.W.fnOf "__init__" "ParseError.__init__" (PySem.OwX.kA "spot" ⟨24, 17, 24, 21⟩ ⟨24, 23, 24, 27⟩) (PySem.OwX.kB "spot" ⟨25, 8, 25, 12⟩ ⟨25, 8, 25, 17⟩ ⟨25, 20, 25, 24⟩ ⟨25, 8, 25, 24⟩) (PySem.OwX.kS "spot") .none .none xdc_ParseError xpm_ParseError xan_ParseError xcd_ParseError xct_ParseError), xsl_ParseError⟩)
    (xcc_ParseError : PySem.W.codeIn K xcd_ParseError "ParseError.__init__" = true)
    (xa_InvalidNumber : PySem.W.nsIn K mainGlobals "InvalidNumber" = some (some (.ref X_InvalidNumber)))
    (xk_InvalidNumber : PySem.W.keepIn K (.ref X_InvalidNumber) = true)
    (xe_InvalidNumber : PySem.W.subIn K (.ref X_InvalidNumber) (.type "BaseException") = some true)
    (xt_InvalidNumber : PySem.W.typeIn K (.ref X_InvalidNumber) = some (.type "type"))
    (xc_InvalidNumber : PySem.W.isClsIn K X_InvalidNumber = true)
    (xhd_InvalidNumber : PySem.W.hasDictIn K X_InvalidNumber = true)
    (xga_InvalidNumber : PySem.W.findIn K (.ref X_InvalidNumber) "__getattribute__" = some (some (.builtin "BaseException.__getattribute__")))
    (xgg_InvalidNumber : PySem.W.findIn K (.ref X_InvalidNumber) "__getattr__" = some none)
    (xcl_InvalidNumber : PySem.W.findIn K (.ref X_InvalidNumber) "__class__" = some (some (.builtin "object.__class__")))
    (xmo_InvalidNumber : PySem.W.mroIn K X_InvalidNumber (.type "object") = some true)
    (xs_InvalidNumber : PySem.W.subIn K (.ref X_InvalidNumber) (.type "StopIteration") = some false)
    (xi_InvalidNumber : PySem.W.excInitIn K X_InvalidNumber [.type "IndexError", .type "LookupError", .type "Exception", .type "BaseException", .type "object"] "IndexError.__new__" = true)
    (xo_InvalidNumber : PySem.W.excOver K X_InvalidNumber [.type "IndexError", .type "LookupError", .type "Exception", .type "BaseException", .type "object"] = true)
    (xsa_InvalidNumber : PySem.W.findIn K (.ref X_InvalidNumber) "__setattr__" = some (some (.builtin "object.__setattr__")))
    (xno_InvalidNumber : PySem.W.findIn K (.ref X_InvalidNumber) "given" = some none)
    (xin_InvalidNumber : PySem.W.findIn K (.ref X_InvalidNumber) "__init__" = some (some (.ref I_InvalidNumber)))
    (xit_InvalidNumber : PySem.W.typeIn K (.ref I_InvalidNumber) = some (.type "function"))
    (xl_InvalidNumber : K.lookup I_InvalidNumber = some ⟨xoc_InvalidNumber, xod_InvalidNumber, .func (PySem.W.fnOf "__init__" "InvalidNumber.__init__" (PySem.OwX.kA "given" ⟨28, 17, 28, 21⟩ ⟨28, 23, 28, 28⟩) (PySem.OwX.kB "given" ⟨29, 8, 29, 12⟩ ⟨29, 8, 29, 18⟩ ⟨29, 21, 29, 26⟩ ⟨29, 8, 29, 26⟩) (PySem.OwX.kS "given") .none .none xdc_InvalidNumber xpm_InvalidNumber xan_InvalidNumber xcd_InvalidNumber xct_InvalidNumber), xsl_InvalidNumber⟩)
    (xcc_InvalidNumber : PySem.W.codeIn K xcd_InvalidNumber "InvalidNumber.__init__" = true)
    (xa_UnknownName : PySem.W.nsIn K mainGlobals "UnknownName" = some (some (.ref X_UnknownName)))
    (xk_UnknownName : PySem.W.keepIn K (.ref X_UnknownName) = true)
    (xe_UnknownName : PySem.W.subIn K (.ref X_UnknownName) (.type "BaseException") = some true)
    (xt_UnknownName : PySem.W.typeIn K (.ref X_UnknownName) = some (.type "type"))
    (xc_UnknownName : PySem.W.isClsIn K X_UnknownName = true)
    (xhd_UnknownName : PySem.W.hasDictIn K X_UnknownName = true)
    (xga_UnknownName : PySem.W.findIn K (.ref X_UnknownName) "__getattribute__" = some (some (.builtin "BaseException.__getattribute__")))
    (xgg_UnknownName : PySem.W.findIn K (.ref X_UnknownName) "__getattr__" = some none)
    (xcl_UnknownName : PySem.W.findIn K (.ref X_UnknownName) "__class__" = some (some (.builtin "object.__class__")))
    (xmo_UnknownName : PySem.W.mroIn K X_UnknownName (.type "object") = some true)
    (xi_UnknownName : PySem.W.excInitIn K X_UnknownName mroKey "LookupError.__new__" = true)
    (xo_UnknownName : PySem.W.excOver K X_UnknownName mroKey = true)
    (xsa_UnknownName : PySem.W.findIn K (.ref X_UnknownName) "__setattr__" = some (some (.builtin "object.__setattr__")))
    (xno_UnknownName : PySem.W.findIn K (.ref X_UnknownName) "wanted" = some none)
    (xin_UnknownName : PySem.W.findIn K (.ref X_UnknownName) "__init__" = some (some (.ref I_UnknownName)))
    (xit_UnknownName : PySem.W.typeIn K (.ref I_UnknownName) = some (.type "function"))
    (xl_UnknownName : K.lookup I_UnknownName = some ⟨xoc_UnknownName, xod_UnknownName, .func (PySem.W.fnOf "__init__" "UnknownName.__init__" (PySem.OwX.kA "wanted" ⟨32, 17, 32, 21⟩ ⟨32, 23, 32, 29⟩) (PySem.OwX.kB "wanted" ⟨33, 8, 33, 12⟩ ⟨33, 8, 33, 19⟩ ⟨33, 22, 33, 28⟩ ⟨33, 8, 33, 28⟩) (PySem.OwX.kS "wanted") .none .none xdc_UnknownName xpm_UnknownName xan_UnknownName xcd_UnknownName xct_UnknownName), xsl_UnknownName⟩)
    (xcc_UnknownName : PySem.W.codeIn K xcd_UnknownName "UnknownName.__init__" = true)
    (xa_TooMany : PySem.W.nsIn K mainGlobals "TooMany" = some (some (.ref X_TooMany)))
    (xk_TooMany : PySem.W.keepIn K (.ref X_TooMany) = true)
    (xe_TooMany : PySem.W.subIn K (.ref X_TooMany) (.type "BaseException") = some true)
    (xt_TooMany : PySem.W.typeIn K (.ref X_TooMany) = some (.type "type"))
    (xc_TooMany : PySem.W.isClsIn K X_TooMany = true)
    (xhd_TooMany : PySem.W.hasDictIn K X_TooMany = true)
    (xga_TooMany : PySem.W.findIn K (.ref X_TooMany) "__getattribute__" = some (some (.builtin "BaseException.__getattribute__")))
    (xgg_TooMany : PySem.W.findIn K (.ref X_TooMany) "__getattr__" = some none)
    (xcl_TooMany : PySem.W.findIn K (.ref X_TooMany) "__class__" = some (some (.builtin "object.__class__")))
    (xmo_TooMany : PySem.W.mroIn K X_TooMany (.type "object") = some true)
    (xi_TooMany : PySem.W.excInitIn K X_TooMany [.type "OverflowError", .type "ArithmeticError", .type "Exception", .type "BaseException", .type "object"] "OverflowError.__new__" = true)
    (xo_TooMany : PySem.W.excOver K X_TooMany [.type "OverflowError", .type "ArithmeticError", .type "Exception", .type "BaseException", .type "object"] = true)
    (xsa_TooMany : PySem.W.findIn K (.ref X_TooMany) "__setattr__" = some (some (.builtin "object.__setattr__")))
    (xno_TooMany : PySem.W.findIn K (.ref X_TooMany) "limit" = some none)
    (xin_TooMany : PySem.W.findIn K (.ref X_TooMany) "__init__" = some (some (.ref I_TooMany)))
    (xit_TooMany : PySem.W.typeIn K (.ref I_TooMany) = some (.type "function"))
    (xl_TooMany : K.lookup I_TooMany = some ⟨xoc_TooMany, xod_TooMany, .func (PySem.W.fnOf "__init__" "TooMany.__init__" (PySem.OwX.kA "limit" ⟨36, 17, 36, 21⟩ ⟨36, 23, 36, 28⟩) (PySem.OwX.kB "limit" ⟨37, 8, 37, 12⟩ ⟨37, 8, 37, 18⟩ ⟨37, 21, 37, 26⟩ ⟨37, 8, 37, 26⟩) (PySem.OwX.kS "limit") .none .none xdc_TooMany xpm_TooMany xan_TooMany xcd_TooMany xct_TooMany), xsl_TooMany⟩)
    (xcc_TooMany : PySem.W.codeIn K xcd_TooMany "TooMany.__init__" = true)
    (xa_Refused : PySem.W.nsIn K mainGlobals "Refused" = some (some (.ref X_Refused)))
    (xk_Refused : PySem.W.keepIn K (.ref X_Refused) = true)
    (xe_Refused : PySem.W.subIn K (.ref X_Refused) (.type "BaseException") = some true)
    (xt_Refused : PySem.W.typeIn K (.ref X_Refused) = some (.type "type"))
    (xc_Refused : PySem.W.isClsIn K X_Refused = true)
    (xhd_Refused : PySem.W.hasDictIn K X_Refused = true)
    (xga_Refused : PySem.W.findIn K (.ref X_Refused) "__getattribute__" = some (some (.builtin "BaseException.__getattribute__")))
    (xgg_Refused : PySem.W.findIn K (.ref X_Refused) "__getattr__" = some none)
    (xcl_Refused : PySem.W.findIn K (.ref X_Refused) "__class__" = some (some (.builtin "object.__class__")))
    (xmo_Refused : PySem.W.mroIn K X_Refused (.type "object") = some true)
    (xi_Refused : PySem.W.excInitIn K X_Refused [.type "ArithmeticError", .type "Exception", .type "BaseException", .type "object"] "ArithmeticError.__new__" = true)
    (xo_Refused : PySem.W.excOver K X_Refused [.type "ArithmeticError", .type "Exception", .type "BaseException", .type "object"] = true)
    (xsa_Refused : PySem.W.findIn K (.ref X_Refused) "__setattr__" = some (some (.builtin "object.__setattr__")))
    (xno_Refused : PySem.W.findIn K (.ref X_Refused) "reason" = some none)
    (xin_Refused : PySem.W.findIn K (.ref X_Refused) "__init__" = some (some (.ref I_Refused)))
    (xit_Refused : PySem.W.typeIn K (.ref I_Refused) = some (.type "function"))
    (xl_Refused : K.lookup I_Refused = some ⟨xoc_Refused, xod_Refused, .func (PySem.W.fnOf "__init__" "Refused.__init__" (PySem.OwX.kA "reason" ⟨40, 17, 40, 21⟩ ⟨40, 23, 40, 29⟩) (PySem.OwX.kB "reason" ⟨41, 8, 41, 12⟩ ⟨41, 8, 41, 19⟩ ⟨41, 22, 41, 28⟩ ⟨41, 8, 41, 28⟩) (PySem.OwX.kS "reason") .none .none xdc_Refused xpm_Refused xan_Refused xcd_Refused xct_Refused), xsl_Refused⟩)
    (xcc_Refused : PySem.W.codeIn K xcd_Refused "Refused.__init__" = true)
    (xa_NothingToUndo : PySem.W.nsIn K mainGlobals "NothingToUndo" = some (some (.ref X_NothingToUndo)))
    (xk_NothingToUndo : PySem.W.keepIn K (.ref X_NothingToUndo) = true)
    (xe_NothingToUndo : PySem.W.subIn K (.ref X_NothingToUndo) (.type "BaseException") = some true)
    (xt_NothingToUndo : PySem.W.typeIn K (.ref X_NothingToUndo) = some (.type "type"))
    (xc_NothingToUndo : PySem.W.isClsIn K X_NothingToUndo = true)
    (xhd_NothingToUndo : PySem.W.hasDictIn K X_NothingToUndo = true)
    (xga_NothingToUndo : PySem.W.findIn K (.ref X_NothingToUndo) "__getattribute__" = some (some (.builtin "BaseException.__getattribute__")))
    (xgg_NothingToUndo : PySem.W.findIn K (.ref X_NothingToUndo) "__getattr__" = some none)
    (xcl_NothingToUndo : PySem.W.findIn K (.ref X_NothingToUndo) "__class__" = some (some (.builtin "object.__class__")))
    (xmo_NothingToUndo : PySem.W.mroIn K X_NothingToUndo (.type "object") = some true)
    (xi_NothingToUndo : PySem.W.excInitIn K X_NothingToUndo [.type "LookupError", .type "Exception", .type "BaseException", .type "object"] "LookupError.__new__" = true)
    (xo_NothingToUndo : PySem.W.excOver K X_NothingToUndo [.type "LookupError", .type "Exception", .type "BaseException", .type "object"] = true)
    (xsa_NothingToUndo : PySem.W.findIn K (.ref X_NothingToUndo) "__setattr__" = some (some (.builtin "object.__setattr__")))
    (xno_NothingToUndo : PySem.W.findIn K (.ref X_NothingToUndo) "steps" = some none)
    (xin_NothingToUndo : PySem.W.findIn K (.ref X_NothingToUndo) "__init__" = some (some (.ref I_NothingToUndo)))
    (xit_NothingToUndo : PySem.W.typeIn K (.ref I_NothingToUndo) = some (.type "function"))
    (xl_NothingToUndo : K.lookup I_NothingToUndo = some ⟨xoc_NothingToUndo, xod_NothingToUndo, .func (PySem.W.fnOf "__init__" "NothingToUndo.__init__" (PySem.OwX.kA "steps" ⟨44, 17, 44, 21⟩ ⟨44, 23, 44, 28⟩) (PySem.OwX.kB "steps" ⟨45, 8, 45, 12⟩ ⟨45, 8, 45, 18⟩ ⟨45, 21, 45, 26⟩ ⟨45, 8, 45, 26⟩) (PySem.OwX.kS "steps") .none .none xdc_NothingToUndo xpm_NothingToUndo xan_NothingToUndo xcd_NothingToUndo xct_NothingToUndo), xsl_NothingToUndo⟩)
    (xcc_NothingToUndo : PySem.W.codeIn K xcd_NothingToUndo "NothingToUndo.__init__" = true)
    (xm_InvalidWord_InvalidHeight : PySem.W.subIn K (.ref X_InvalidWord) (.ref X_InvalidHeight) = some false)
    (xq_InvalidWord_InvalidHeight : X_InvalidWord ≠ X_InvalidHeight)
    (xm_InvalidWord_InvalidMachine : PySem.W.subIn K (.ref X_InvalidWord) (.ref X_InvalidMachine) = some false)
    (xq_InvalidWord_InvalidMachine : X_InvalidWord ≠ X_InvalidMachine)
    (xm_InvalidWord_InvalidReader : PySem.W.subIn K (.ref X_InvalidWord) (.ref X_InvalidReader) = some false)
    (xq_InvalidWord_InvalidReader : X_InvalidWord ≠ X_InvalidReader)
    (xm_InvalidWord_InvalidRooms : PySem.W.subIn K (.ref X_InvalidWord) (.ref X_InvalidRooms) = some false)
    (xq_InvalidWord_InvalidRooms : X_InvalidWord ≠ X_InvalidRooms)
    (xm_InvalidWord_InvalidLines : PySem.W.subIn K (.ref X_InvalidWord) (.ref X_InvalidLines) = some false)
    (xq_InvalidWord_InvalidLines : X_InvalidWord ≠ X_InvalidLines)
    (xm_InvalidWord_InvalidOrder : PySem.W.subIn K (.ref X_InvalidWord) (.ref X_InvalidOrder) = some false)
    (xq_InvalidWord_InvalidOrder : X_InvalidWord ≠ X_InvalidOrder)
    (xm_InvalidWord_InvalidOperation : PySem.W.subIn K (.ref X_InvalidWord) (.ref X_InvalidOperation) = some false)
    (xq_InvalidWord_InvalidOperation : X_InvalidWord ≠ X_InvalidOperation)
    (xm_InvalidWord_InvalidName : PySem.W.subIn K (.ref X_InvalidWord) (.ref X_InvalidName) = some false)
    (xq_InvalidWord_InvalidName : X_InvalidWord ≠ X_InvalidName)
    (xm_InvalidWord_ParseError : PySem.W.subIn K (.ref X_InvalidWord) (.ref X_ParseError) = some false)
    (xq_InvalidWord_ParseError : X_InvalidWord ≠ X_ParseError)
    (xm_InvalidWord_RoomError : PySem.W.subIn K (.ref X_InvalidWord) (.ref X_RoomError) = some true)
    (xq_InvalidWord_RoomError : X_InvalidWord ≠ X_RoomError)
    (xv_InvalidWord : PySem.W.subIn K (.ref X_InvalidWord) (.type "ValueError") = some true)
    (xm_InvalidHeight_InvalidWord : PySem.W.subIn K (.ref X_InvalidHeight) (.ref X_InvalidWord) = some false)
    (xq_InvalidHeight_InvalidWord : X_InvalidHeight ≠ X_InvalidWord)
    (xm_InvalidHeight_InvalidMachine : PySem.W.subIn K (.ref X_InvalidHeight) (.ref X_InvalidMachine) = some false)
    (xq_InvalidHeight_InvalidMachine : X_InvalidHeight ≠ X_InvalidMachine)
    (xm_InvalidHeight_InvalidReader : PySem.W.subIn K (.ref X_InvalidHeight) (.ref X_InvalidReader) = some false)
    (xq_InvalidHeight_InvalidReader : X_InvalidHeight ≠ X_InvalidReader)
    (xm_InvalidHeight_InvalidRooms : PySem.W.subIn K (.ref X_InvalidHeight) (.ref X_InvalidRooms) = some false)
    (xq_InvalidHeight_InvalidRooms : X_InvalidHeight ≠ X_InvalidRooms)
    (xm_InvalidHeight_InvalidLines : PySem.W.subIn K (.ref X_InvalidHeight) (.ref X_InvalidLines) = some false)
    (xq_InvalidHeight_InvalidLines : X_InvalidHeight ≠ X_InvalidLines)
    (xm_InvalidHeight_InvalidOrder : PySem.W.subIn K (.ref X_InvalidHeight) (.ref X_InvalidOrder) = some false)
    (xq_InvalidHeight_InvalidOrder : X_InvalidHeight ≠ X_InvalidOrder)
    (xm_InvalidHeight_InvalidOperation : PySem.W.subIn K (.ref X_InvalidHeight) (.ref X_InvalidOperation) = some false)
    (xq_InvalidHeight_InvalidOperation : X_InvalidHeight ≠ X_InvalidOperation)
    (xm_InvalidHeight_InvalidName : PySem.W.subIn K (.ref X_InvalidHeight) (.ref X_InvalidName) = some false)
    (xq_InvalidHeight_InvalidName : X_InvalidHeight ≠ X_InvalidName)
    (xm_InvalidHeight_ParseError : PySem.W.subIn K (.ref X_InvalidHeight) (.ref X_ParseError) = some false)
    (xq_InvalidHeight_ParseError : X_InvalidHeight ≠ X_ParseError)
    (xm_InvalidHeight_RoomError : PySem.W.subIn K (.ref X_InvalidHeight) (.ref X_RoomError) = some true)
    (xq_InvalidHeight_RoomError : X_InvalidHeight ≠ X_RoomError)
    (xv_InvalidHeight : PySem.W.subIn K (.ref X_InvalidHeight) (.type "ValueError") = some true)
    (xm_InvalidMachine_InvalidWord : PySem.W.subIn K (.ref X_InvalidMachine) (.ref X_InvalidWord) = some false)
    (xq_InvalidMachine_InvalidWord : X_InvalidMachine ≠ X_InvalidWord)
    (xm_InvalidMachine_InvalidHeight : PySem.W.subIn K (.ref X_InvalidMachine) (.ref X_InvalidHeight) = some false)
    (xq_InvalidMachine_InvalidHeight : X_InvalidMachine ≠ X_InvalidHeight)
    (xm_InvalidMachine_InvalidReader : PySem.W.subIn K (.ref X_InvalidMachine) (.ref X_InvalidReader) = some false)
    (xq_InvalidMachine_InvalidReader : X_InvalidMachine ≠ X_InvalidReader)
    (xm_InvalidMachine_InvalidRooms : PySem.W.subIn K (.ref X_InvalidMachine) (.ref X_InvalidRooms) = some false)
    (xq_InvalidMachine_InvalidRooms : X_InvalidMachine ≠ X_InvalidRooms)
    (xm_InvalidMachine_InvalidLines : PySem.W.subIn K (.ref X_InvalidMachine) (.ref X_InvalidLines) = some false)
    (xq_InvalidMachine_InvalidLines : X_InvalidMachine ≠ X_InvalidLines)
    (xm_InvalidMachine_InvalidOrder : PySem.W.subIn K (.ref X_InvalidMachine) (.ref X_InvalidOrder) = some false)
    (xq_InvalidMachine_InvalidOrder : X_InvalidMachine ≠ X_InvalidOrder)
    (xm_InvalidMachine_InvalidOperation : PySem.W.subIn K (.ref X_InvalidMachine) (.ref X_InvalidOperation) = some false)
    (xq_InvalidMachine_InvalidOperation : X_InvalidMachine ≠ X_InvalidOperation)
    (xm_InvalidMachine_InvalidName : PySem.W.subIn K (.ref X_InvalidMachine) (.ref X_InvalidName) = some false)
    (xq_InvalidMachine_InvalidName : X_InvalidMachine ≠ X_InvalidName)
    (xm_InvalidMachine_ParseError : PySem.W.subIn K (.ref X_InvalidMachine) (.ref X_ParseError) = some false)
    (xq_InvalidMachine_ParseError : X_InvalidMachine ≠ X_ParseError)
    (xm_InvalidMachine_RoomError : PySem.W.subIn K (.ref X_InvalidMachine) (.ref X_RoomError) = some true)
    (xq_InvalidMachine_RoomError : X_InvalidMachine ≠ X_RoomError)
    (xv_InvalidMachine : PySem.W.subIn K (.ref X_InvalidMachine) (.type "ValueError") = some true)
    (xm_InvalidReader_InvalidWord : PySem.W.subIn K (.ref X_InvalidReader) (.ref X_InvalidWord) = some false)
    (xq_InvalidReader_InvalidWord : X_InvalidReader ≠ X_InvalidWord)
    (xm_InvalidReader_InvalidHeight : PySem.W.subIn K (.ref X_InvalidReader) (.ref X_InvalidHeight) = some false)
    (xq_InvalidReader_InvalidHeight : X_InvalidReader ≠ X_InvalidHeight)
    (xm_InvalidReader_InvalidMachine : PySem.W.subIn K (.ref X_InvalidReader) (.ref X_InvalidMachine) = some false)
    (xq_InvalidReader_InvalidMachine : X_InvalidReader ≠ X_InvalidMachine)
    (xm_InvalidReader_InvalidRooms : PySem.W.subIn K (.ref X_InvalidReader) (.ref X_InvalidRooms) = some false)
    (xq_InvalidReader_InvalidRooms : X_InvalidReader ≠ X_InvalidRooms)
    (xm_InvalidReader_InvalidLines : PySem.W.subIn K (.ref X_InvalidReader) (.ref X_InvalidLines) = some false)
    (xq_InvalidReader_InvalidLines : X_InvalidReader ≠ X_InvalidLines)
    (xm_InvalidReader_InvalidOrder : PySem.W.subIn K (.ref X_InvalidReader) (.ref X_InvalidOrder) = some false)
    (xq_InvalidReader_InvalidOrder : X_InvalidReader ≠ X_InvalidOrder)
    (xm_InvalidReader_InvalidOperation : PySem.W.subIn K (.ref X_InvalidReader) (.ref X_InvalidOperation) = some false)
    (xq_InvalidReader_InvalidOperation : X_InvalidReader ≠ X_InvalidOperation)
    (xm_InvalidReader_InvalidName : PySem.W.subIn K (.ref X_InvalidReader) (.ref X_InvalidName) = some false)
    (xq_InvalidReader_InvalidName : X_InvalidReader ≠ X_InvalidName)
    (xm_InvalidReader_ParseError : PySem.W.subIn K (.ref X_InvalidReader) (.ref X_ParseError) = some false)
    (xq_InvalidReader_ParseError : X_InvalidReader ≠ X_ParseError)
    (xm_InvalidReader_RoomError : PySem.W.subIn K (.ref X_InvalidReader) (.ref X_RoomError) = some true)
    (xq_InvalidReader_RoomError : X_InvalidReader ≠ X_RoomError)
    (xv_InvalidReader : PySem.W.subIn K (.ref X_InvalidReader) (.type "ValueError") = some true)
    (xm_InvalidRooms_InvalidWord : PySem.W.subIn K (.ref X_InvalidRooms) (.ref X_InvalidWord) = some false)
    (xq_InvalidRooms_InvalidWord : X_InvalidRooms ≠ X_InvalidWord)
    (xm_InvalidRooms_InvalidHeight : PySem.W.subIn K (.ref X_InvalidRooms) (.ref X_InvalidHeight) = some false)
    (xq_InvalidRooms_InvalidHeight : X_InvalidRooms ≠ X_InvalidHeight)
    (xm_InvalidRooms_InvalidMachine : PySem.W.subIn K (.ref X_InvalidRooms) (.ref X_InvalidMachine) = some false)
    (xq_InvalidRooms_InvalidMachine : X_InvalidRooms ≠ X_InvalidMachine)
    (xm_InvalidRooms_InvalidReader : PySem.W.subIn K (.ref X_InvalidRooms) (.ref X_InvalidReader) = some false)
    (xq_InvalidRooms_InvalidReader : X_InvalidRooms ≠ X_InvalidReader)
    (xm_InvalidRooms_InvalidLines : PySem.W.subIn K (.ref X_InvalidRooms) (.ref X_InvalidLines) = some false)
    (xq_InvalidRooms_InvalidLines : X_InvalidRooms ≠ X_InvalidLines)
    (xm_InvalidRooms_InvalidOrder : PySem.W.subIn K (.ref X_InvalidRooms) (.ref X_InvalidOrder) = some false)
    (xq_InvalidRooms_InvalidOrder : X_InvalidRooms ≠ X_InvalidOrder)
    (xm_InvalidRooms_InvalidOperation : PySem.W.subIn K (.ref X_InvalidRooms) (.ref X_InvalidOperation) = some false)
    (xq_InvalidRooms_InvalidOperation : X_InvalidRooms ≠ X_InvalidOperation)
    (xm_InvalidRooms_InvalidName : PySem.W.subIn K (.ref X_InvalidRooms) (.ref X_InvalidName) = some false)
    (xq_InvalidRooms_InvalidName : X_InvalidRooms ≠ X_InvalidName)
    (xm_InvalidRooms_ParseError : PySem.W.subIn K (.ref X_InvalidRooms) (.ref X_ParseError) = some false)
    (xq_InvalidRooms_ParseError : X_InvalidRooms ≠ X_ParseError)
    (xm_InvalidRooms_RoomError : PySem.W.subIn K (.ref X_InvalidRooms) (.ref X_RoomError) = some true)
    (xq_InvalidRooms_RoomError : X_InvalidRooms ≠ X_RoomError)
    (xv_InvalidRooms : PySem.W.subIn K (.ref X_InvalidRooms) (.type "ValueError") = some true)
    (xm_InvalidLines_InvalidWord : PySem.W.subIn K (.ref X_InvalidLines) (.ref X_InvalidWord) = some false)
    (xq_InvalidLines_InvalidWord : X_InvalidLines ≠ X_InvalidWord)
    (xm_InvalidLines_InvalidHeight : PySem.W.subIn K (.ref X_InvalidLines) (.ref X_InvalidHeight) = some false)
    (xq_InvalidLines_InvalidHeight : X_InvalidLines ≠ X_InvalidHeight)
    (xm_InvalidLines_InvalidMachine : PySem.W.subIn K (.ref X_InvalidLines) (.ref X_InvalidMachine) = some false)
    (xq_InvalidLines_InvalidMachine : X_InvalidLines ≠ X_InvalidMachine)
    (xm_InvalidLines_InvalidReader : PySem.W.subIn K (.ref X_InvalidLines) (.ref X_InvalidReader) = some false)
    (xq_InvalidLines_InvalidReader : X_InvalidLines ≠ X_InvalidReader)
    (xm_InvalidLines_InvalidRooms : PySem.W.subIn K (.ref X_InvalidLines) (.ref X_InvalidRooms) = some false)
    (xq_InvalidLines_InvalidRooms : X_InvalidLines ≠ X_InvalidRooms)
    (xm_InvalidLines_InvalidOrder : PySem.W.subIn K (.ref X_InvalidLines) (.ref X_InvalidOrder) = some false)
    (xq_InvalidLines_InvalidOrder : X_InvalidLines ≠ X_InvalidOrder)
    (xm_InvalidLines_InvalidOperation : PySem.W.subIn K (.ref X_InvalidLines) (.ref X_InvalidOperation) = some false)
    (xq_InvalidLines_InvalidOperation : X_InvalidLines ≠ X_InvalidOperation)
    (xm_InvalidLines_InvalidName : PySem.W.subIn K (.ref X_InvalidLines) (.ref X_InvalidName) = some false)
    (xq_InvalidLines_InvalidName : X_InvalidLines ≠ X_InvalidName)
    (xm_InvalidLines_ParseError : PySem.W.subIn K (.ref X_InvalidLines) (.ref X_ParseError) = some false)
    (xq_InvalidLines_ParseError : X_InvalidLines ≠ X_ParseError)
    (xm_InvalidLines_RoomError : PySem.W.subIn K (.ref X_InvalidLines) (.ref X_RoomError) = some true)
    (xq_InvalidLines_RoomError : X_InvalidLines ≠ X_RoomError)
    (xv_InvalidLines : PySem.W.subIn K (.ref X_InvalidLines) (.type "ValueError") = some true)
    (xm_InvalidOrder_InvalidWord : PySem.W.subIn K (.ref X_InvalidOrder) (.ref X_InvalidWord) = some false)
    (xq_InvalidOrder_InvalidWord : X_InvalidOrder ≠ X_InvalidWord)
    (xm_InvalidOrder_InvalidHeight : PySem.W.subIn K (.ref X_InvalidOrder) (.ref X_InvalidHeight) = some false)
    (xq_InvalidOrder_InvalidHeight : X_InvalidOrder ≠ X_InvalidHeight)
    (xm_InvalidOrder_InvalidMachine : PySem.W.subIn K (.ref X_InvalidOrder) (.ref X_InvalidMachine) = some false)
    (xq_InvalidOrder_InvalidMachine : X_InvalidOrder ≠ X_InvalidMachine)
    (xm_InvalidOrder_InvalidReader : PySem.W.subIn K (.ref X_InvalidOrder) (.ref X_InvalidReader) = some false)
    (xq_InvalidOrder_InvalidReader : X_InvalidOrder ≠ X_InvalidReader)
    (xm_InvalidOrder_InvalidRooms : PySem.W.subIn K (.ref X_InvalidOrder) (.ref X_InvalidRooms) = some false)
    (xq_InvalidOrder_InvalidRooms : X_InvalidOrder ≠ X_InvalidRooms)
    (xm_InvalidOrder_InvalidLines : PySem.W.subIn K (.ref X_InvalidOrder) (.ref X_InvalidLines) = some false)
    (xq_InvalidOrder_InvalidLines : X_InvalidOrder ≠ X_InvalidLines)
    (xm_InvalidOrder_InvalidOperation : PySem.W.subIn K (.ref X_InvalidOrder) (.ref X_InvalidOperation) = some false)
    (xq_InvalidOrder_InvalidOperation : X_InvalidOrder ≠ X_InvalidOperation)
    (xm_InvalidOrder_InvalidName : PySem.W.subIn K (.ref X_InvalidOrder) (.ref X_InvalidName) = some false)
    (xq_InvalidOrder_InvalidName : X_InvalidOrder ≠ X_InvalidName)
    (xm_InvalidOrder_ParseError : PySem.W.subIn K (.ref X_InvalidOrder) (.ref X_ParseError) = some false)
    (xq_InvalidOrder_ParseError : X_InvalidOrder ≠ X_ParseError)
    (xm_InvalidOrder_RoomError : PySem.W.subIn K (.ref X_InvalidOrder) (.ref X_RoomError) = some true)
    (xq_InvalidOrder_RoomError : X_InvalidOrder ≠ X_RoomError)
    (xv_InvalidOrder : PySem.W.subIn K (.ref X_InvalidOrder) (.type "ValueError") = some true)
    (xm_InvalidOperation_InvalidWord : PySem.W.subIn K (.ref X_InvalidOperation) (.ref X_InvalidWord) = some false)
    (xq_InvalidOperation_InvalidWord : X_InvalidOperation ≠ X_InvalidWord)
    (xm_InvalidOperation_InvalidHeight : PySem.W.subIn K (.ref X_InvalidOperation) (.ref X_InvalidHeight) = some false)
    (xq_InvalidOperation_InvalidHeight : X_InvalidOperation ≠ X_InvalidHeight)
    (xm_InvalidOperation_InvalidMachine : PySem.W.subIn K (.ref X_InvalidOperation) (.ref X_InvalidMachine) = some false)
    (xq_InvalidOperation_InvalidMachine : X_InvalidOperation ≠ X_InvalidMachine)
    (xm_InvalidOperation_InvalidReader : PySem.W.subIn K (.ref X_InvalidOperation) (.ref X_InvalidReader) = some false)
    (xq_InvalidOperation_InvalidReader : X_InvalidOperation ≠ X_InvalidReader)
    (xm_InvalidOperation_InvalidRooms : PySem.W.subIn K (.ref X_InvalidOperation) (.ref X_InvalidRooms) = some false)
    (xq_InvalidOperation_InvalidRooms : X_InvalidOperation ≠ X_InvalidRooms)
    (xm_InvalidOperation_InvalidLines : PySem.W.subIn K (.ref X_InvalidOperation) (.ref X_InvalidLines) = some false)
    (xq_InvalidOperation_InvalidLines : X_InvalidOperation ≠ X_InvalidLines)
    (xm_InvalidOperation_InvalidOrder : PySem.W.subIn K (.ref X_InvalidOperation) (.ref X_InvalidOrder) = some false)
    (xq_InvalidOperation_InvalidOrder : X_InvalidOperation ≠ X_InvalidOrder)
    (xm_InvalidOperation_InvalidName : PySem.W.subIn K (.ref X_InvalidOperation) (.ref X_InvalidName) = some false)
    (xq_InvalidOperation_InvalidName : X_InvalidOperation ≠ X_InvalidName)
    (xm_InvalidOperation_ParseError : PySem.W.subIn K (.ref X_InvalidOperation) (.ref X_ParseError) = some false)
    (xq_InvalidOperation_ParseError : X_InvalidOperation ≠ X_ParseError)
    (xm_InvalidOperation_RoomError : PySem.W.subIn K (.ref X_InvalidOperation) (.ref X_RoomError) = some true)
    (xq_InvalidOperation_RoomError : X_InvalidOperation ≠ X_RoomError)
    (xv_InvalidOperation : PySem.W.subIn K (.ref X_InvalidOperation) (.type "ValueError") = some true)
    (xm_InvalidName_InvalidWord : PySem.W.subIn K (.ref X_InvalidName) (.ref X_InvalidWord) = some false)
    (xq_InvalidName_InvalidWord : X_InvalidName ≠ X_InvalidWord)
    (xm_InvalidName_InvalidHeight : PySem.W.subIn K (.ref X_InvalidName) (.ref X_InvalidHeight) = some false)
    (xq_InvalidName_InvalidHeight : X_InvalidName ≠ X_InvalidHeight)
    (xm_InvalidName_InvalidMachine : PySem.W.subIn K (.ref X_InvalidName) (.ref X_InvalidMachine) = some false)
    (xq_InvalidName_InvalidMachine : X_InvalidName ≠ X_InvalidMachine)
    (xm_InvalidName_InvalidReader : PySem.W.subIn K (.ref X_InvalidName) (.ref X_InvalidReader) = some false)
    (xq_InvalidName_InvalidReader : X_InvalidName ≠ X_InvalidReader)
    (xm_InvalidName_InvalidRooms : PySem.W.subIn K (.ref X_InvalidName) (.ref X_InvalidRooms) = some false)
    (xq_InvalidName_InvalidRooms : X_InvalidName ≠ X_InvalidRooms)
    (xm_InvalidName_InvalidLines : PySem.W.subIn K (.ref X_InvalidName) (.ref X_InvalidLines) = some false)
    (xq_InvalidName_InvalidLines : X_InvalidName ≠ X_InvalidLines)
    (xm_InvalidName_InvalidOrder : PySem.W.subIn K (.ref X_InvalidName) (.ref X_InvalidOrder) = some false)
    (xq_InvalidName_InvalidOrder : X_InvalidName ≠ X_InvalidOrder)
    (xm_InvalidName_InvalidOperation : PySem.W.subIn K (.ref X_InvalidName) (.ref X_InvalidOperation) = some false)
    (xq_InvalidName_InvalidOperation : X_InvalidName ≠ X_InvalidOperation)
    (xm_InvalidName_ParseError : PySem.W.subIn K (.ref X_InvalidName) (.ref X_ParseError) = some false)
    (xq_InvalidName_ParseError : X_InvalidName ≠ X_ParseError)
    (xm_InvalidName_RoomError : PySem.W.subIn K (.ref X_InvalidName) (.ref X_RoomError) = some true)
    (xq_InvalidName_RoomError : X_InvalidName ≠ X_RoomError)
    (xv_InvalidName : PySem.W.subIn K (.ref X_InvalidName) (.type "ValueError") = some true)
    (xm_ParseError_InvalidWord : PySem.W.subIn K (.ref X_ParseError) (.ref X_InvalidWord) = some false)
    (xq_ParseError_InvalidWord : X_ParseError ≠ X_InvalidWord)
    (xm_ParseError_InvalidHeight : PySem.W.subIn K (.ref X_ParseError) (.ref X_InvalidHeight) = some false)
    (xq_ParseError_InvalidHeight : X_ParseError ≠ X_InvalidHeight)
    (xm_ParseError_InvalidMachine : PySem.W.subIn K (.ref X_ParseError) (.ref X_InvalidMachine) = some false)
    (xq_ParseError_InvalidMachine : X_ParseError ≠ X_InvalidMachine)
    (xm_ParseError_InvalidReader : PySem.W.subIn K (.ref X_ParseError) (.ref X_InvalidReader) = some false)
    (xq_ParseError_InvalidReader : X_ParseError ≠ X_InvalidReader)
    (xm_ParseError_InvalidRooms : PySem.W.subIn K (.ref X_ParseError) (.ref X_InvalidRooms) = some false)
    (xq_ParseError_InvalidRooms : X_ParseError ≠ X_InvalidRooms)
    (xm_ParseError_InvalidLines : PySem.W.subIn K (.ref X_ParseError) (.ref X_InvalidLines) = some false)
    (xq_ParseError_InvalidLines : X_ParseError ≠ X_InvalidLines)
    (xm_ParseError_InvalidOrder : PySem.W.subIn K (.ref X_ParseError) (.ref X_InvalidOrder) = some false)
    (xq_ParseError_InvalidOrder : X_ParseError ≠ X_InvalidOrder)
    (xm_ParseError_InvalidOperation : PySem.W.subIn K (.ref X_ParseError) (.ref X_InvalidOperation) = some false)
    (xq_ParseError_InvalidOperation : X_ParseError ≠ X_InvalidOperation)
    (xm_ParseError_InvalidName : PySem.W.subIn K (.ref X_ParseError) (.ref X_InvalidName) = some false)
    (xq_ParseError_InvalidName : X_ParseError ≠ X_InvalidName)
    (xm_ParseError_RoomError : PySem.W.subIn K (.ref X_ParseError) (.ref X_RoomError) = some true)
    (xq_ParseError_RoomError : X_ParseError ≠ X_RoomError)
    (xv_ParseError : PySem.W.subIn K (.ref X_ParseError) (.type "ValueError") = some true)
    (xm_InvalidNumber_InvalidWord : PySem.W.subIn K (.ref X_InvalidNumber) (.ref X_InvalidWord) = some false)
    (xq_InvalidNumber_InvalidWord : X_InvalidNumber ≠ X_InvalidWord)
    (xm_InvalidNumber_InvalidHeight : PySem.W.subIn K (.ref X_InvalidNumber) (.ref X_InvalidHeight) = some false)
    (xq_InvalidNumber_InvalidHeight : X_InvalidNumber ≠ X_InvalidHeight)
    (xm_InvalidNumber_InvalidMachine : PySem.W.subIn K (.ref X_InvalidNumber) (.ref X_InvalidMachine) = some false)
    (xq_InvalidNumber_InvalidMachine : X_InvalidNumber ≠ X_InvalidMachine)
    (xm_InvalidNumber_InvalidReader : PySem.W.subIn K (.ref X_InvalidNumber) (.ref X_InvalidReader) = some false)
    (xq_InvalidNumber_InvalidReader : X_InvalidNumber ≠ X_InvalidReader)
    (xm_InvalidNumber_InvalidRooms : PySem.W.subIn K (.ref X_InvalidNumber) (.ref X_InvalidRooms) = some false)
    (xq_InvalidNumber_InvalidRooms : X_InvalidNumber ≠ X_InvalidRooms)
    (xm_InvalidNumber_InvalidLines : PySem.W.subIn K (.ref X_InvalidNumber) (.ref X_InvalidLines) = some false)
    (xq_InvalidNumber_InvalidLines : X_InvalidNumber ≠ X_InvalidLines)
    (xm_InvalidNumber_InvalidOrder : PySem.W.subIn K (.ref X_InvalidNumber) (.ref X_InvalidOrder) = some false)
    (xq_InvalidNumber_InvalidOrder : X_InvalidNumber ≠ X_InvalidOrder)
    (xm_InvalidNumber_InvalidOperation : PySem.W.subIn K (.ref X_InvalidNumber) (.ref X_InvalidOperation) = some false)
    (xq_InvalidNumber_InvalidOperation : X_InvalidNumber ≠ X_InvalidOperation)
    (xm_InvalidNumber_InvalidName : PySem.W.subIn K (.ref X_InvalidNumber) (.ref X_InvalidName) = some false)
    (xq_InvalidNumber_InvalidName : X_InvalidNumber ≠ X_InvalidName)
    (xm_InvalidNumber_ParseError : PySem.W.subIn K (.ref X_InvalidNumber) (.ref X_ParseError) = some false)
    (xq_InvalidNumber_ParseError : X_InvalidNumber ≠ X_ParseError)
    (xm_InvalidNumber_RoomError : PySem.W.subIn K (.ref X_InvalidNumber) (.ref X_RoomError) = some false)
    (xq_InvalidNumber_RoomError : X_InvalidNumber ≠ X_RoomError)
    (xm_UnknownName_InvalidWord : PySem.W.subIn K (.ref X_UnknownName) (.ref X_InvalidWord) = some false)
    (xq_UnknownName_InvalidWord : X_UnknownName ≠ X_InvalidWord)
    (xm_UnknownName_InvalidHeight : PySem.W.subIn K (.ref X_UnknownName) (.ref X_InvalidHeight) = some false)
    (xq_UnknownName_InvalidHeight : X_UnknownName ≠ X_InvalidHeight)
    (xm_UnknownName_InvalidMachine : PySem.W.subIn K (.ref X_UnknownName) (.ref X_InvalidMachine) = some false)
    (xq_UnknownName_InvalidMachine : X_UnknownName ≠ X_InvalidMachine)
    (xm_UnknownName_InvalidReader : PySem.W.subIn K (.ref X_UnknownName) (.ref X_InvalidReader) = some false)
    (xq_UnknownName_InvalidReader : X_UnknownName ≠ X_InvalidReader)
    (xm_UnknownName_InvalidRooms : PySem.W.subIn K (.ref X_UnknownName) (.ref X_InvalidRooms) = some false)
    (xq_UnknownName_InvalidRooms : X_UnknownName ≠ X_InvalidRooms)
    (xm_UnknownName_InvalidLines : PySem.W.subIn K (.ref X_UnknownName) (.ref X_InvalidLines) = some false)
    (xq_UnknownName_InvalidLines : X_UnknownName ≠ X_InvalidLines)
    (xm_UnknownName_InvalidOrder : PySem.W.subIn K (.ref X_UnknownName) (.ref X_InvalidOrder) = some false)
    (xq_UnknownName_InvalidOrder : X_UnknownName ≠ X_InvalidOrder)
    (xm_UnknownName_InvalidOperation : PySem.W.subIn K (.ref X_UnknownName) (.ref X_InvalidOperation) = some false)
    (xq_UnknownName_InvalidOperation : X_UnknownName ≠ X_InvalidOperation)
    (xm_UnknownName_InvalidName : PySem.W.subIn K (.ref X_UnknownName) (.ref X_InvalidName) = some false)
    (xq_UnknownName_InvalidName : X_UnknownName ≠ X_InvalidName)
    (xm_UnknownName_ParseError : PySem.W.subIn K (.ref X_UnknownName) (.ref X_ParseError) = some false)
    (xq_UnknownName_ParseError : X_UnknownName ≠ X_ParseError)
    (xm_UnknownName_RoomError : PySem.W.subIn K (.ref X_UnknownName) (.ref X_RoomError) = some false)
    (xq_UnknownName_RoomError : X_UnknownName ≠ X_RoomError)
    (xm_TooMany_InvalidWord : PySem.W.subIn K (.ref X_TooMany) (.ref X_InvalidWord) = some false)
    (xq_TooMany_InvalidWord : X_TooMany ≠ X_InvalidWord)
    (xm_TooMany_InvalidHeight : PySem.W.subIn K (.ref X_TooMany) (.ref X_InvalidHeight) = some false)
    (xq_TooMany_InvalidHeight : X_TooMany ≠ X_InvalidHeight)
    (xm_TooMany_InvalidMachine : PySem.W.subIn K (.ref X_TooMany) (.ref X_InvalidMachine) = some false)
    (xq_TooMany_InvalidMachine : X_TooMany ≠ X_InvalidMachine)
    (xm_TooMany_InvalidReader : PySem.W.subIn K (.ref X_TooMany) (.ref X_InvalidReader) = some false)
    (xq_TooMany_InvalidReader : X_TooMany ≠ X_InvalidReader)
    (xm_TooMany_InvalidRooms : PySem.W.subIn K (.ref X_TooMany) (.ref X_InvalidRooms) = some false)
    (xq_TooMany_InvalidRooms : X_TooMany ≠ X_InvalidRooms)
    (xm_TooMany_InvalidLines : PySem.W.subIn K (.ref X_TooMany) (.ref X_InvalidLines) = some false)
    (xq_TooMany_InvalidLines : X_TooMany ≠ X_InvalidLines)
    (xm_TooMany_InvalidOrder : PySem.W.subIn K (.ref X_TooMany) (.ref X_InvalidOrder) = some false)
    (xq_TooMany_InvalidOrder : X_TooMany ≠ X_InvalidOrder)
    (xm_TooMany_InvalidOperation : PySem.W.subIn K (.ref X_TooMany) (.ref X_InvalidOperation) = some false)
    (xq_TooMany_InvalidOperation : X_TooMany ≠ X_InvalidOperation)
    (xm_TooMany_InvalidName : PySem.W.subIn K (.ref X_TooMany) (.ref X_InvalidName) = some false)
    (xq_TooMany_InvalidName : X_TooMany ≠ X_InvalidName)
    (xm_TooMany_ParseError : PySem.W.subIn K (.ref X_TooMany) (.ref X_ParseError) = some false)
    (xq_TooMany_ParseError : X_TooMany ≠ X_ParseError)
    (xm_TooMany_RoomError : PySem.W.subIn K (.ref X_TooMany) (.ref X_RoomError) = some false)
    (xq_TooMany_RoomError : X_TooMany ≠ X_RoomError)
    (xm_Refused_InvalidWord : PySem.W.subIn K (.ref X_Refused) (.ref X_InvalidWord) = some false)
    (xq_Refused_InvalidWord : X_Refused ≠ X_InvalidWord)
    (xm_Refused_InvalidHeight : PySem.W.subIn K (.ref X_Refused) (.ref X_InvalidHeight) = some false)
    (xq_Refused_InvalidHeight : X_Refused ≠ X_InvalidHeight)
    (xm_Refused_InvalidMachine : PySem.W.subIn K (.ref X_Refused) (.ref X_InvalidMachine) = some false)
    (xq_Refused_InvalidMachine : X_Refused ≠ X_InvalidMachine)
    (xm_Refused_InvalidReader : PySem.W.subIn K (.ref X_Refused) (.ref X_InvalidReader) = some false)
    (xq_Refused_InvalidReader : X_Refused ≠ X_InvalidReader)
    (xm_Refused_InvalidRooms : PySem.W.subIn K (.ref X_Refused) (.ref X_InvalidRooms) = some false)
    (xq_Refused_InvalidRooms : X_Refused ≠ X_InvalidRooms)
    (xm_Refused_InvalidLines : PySem.W.subIn K (.ref X_Refused) (.ref X_InvalidLines) = some false)
    (xq_Refused_InvalidLines : X_Refused ≠ X_InvalidLines)
    (xm_Refused_InvalidOrder : PySem.W.subIn K (.ref X_Refused) (.ref X_InvalidOrder) = some false)
    (xq_Refused_InvalidOrder : X_Refused ≠ X_InvalidOrder)
    (xm_Refused_InvalidOperation : PySem.W.subIn K (.ref X_Refused) (.ref X_InvalidOperation) = some false)
    (xq_Refused_InvalidOperation : X_Refused ≠ X_InvalidOperation)
    (xm_Refused_InvalidName : PySem.W.subIn K (.ref X_Refused) (.ref X_InvalidName) = some false)
    (xq_Refused_InvalidName : X_Refused ≠ X_InvalidName)
    (xm_Refused_ParseError : PySem.W.subIn K (.ref X_Refused) (.ref X_ParseError) = some false)
    (xq_Refused_ParseError : X_Refused ≠ X_ParseError)
    (xm_Refused_RoomError : PySem.W.subIn K (.ref X_Refused) (.ref X_RoomError) = some false)
    (xq_Refused_RoomError : X_Refused ≠ X_RoomError)
    (xm_NothingToUndo_InvalidWord : PySem.W.subIn K (.ref X_NothingToUndo) (.ref X_InvalidWord) = some false)
    (xq_NothingToUndo_InvalidWord : X_NothingToUndo ≠ X_InvalidWord)
    (xm_NothingToUndo_InvalidHeight : PySem.W.subIn K (.ref X_NothingToUndo) (.ref X_InvalidHeight) = some false)
    (xq_NothingToUndo_InvalidHeight : X_NothingToUndo ≠ X_InvalidHeight)
    (xm_NothingToUndo_InvalidMachine : PySem.W.subIn K (.ref X_NothingToUndo) (.ref X_InvalidMachine) = some false)
    (xq_NothingToUndo_InvalidMachine : X_NothingToUndo ≠ X_InvalidMachine)
    (xm_NothingToUndo_InvalidReader : PySem.W.subIn K (.ref X_NothingToUndo) (.ref X_InvalidReader) = some false)
    (xq_NothingToUndo_InvalidReader : X_NothingToUndo ≠ X_InvalidReader)
    (xm_NothingToUndo_InvalidRooms : PySem.W.subIn K (.ref X_NothingToUndo) (.ref X_InvalidRooms) = some false)
    (xq_NothingToUndo_InvalidRooms : X_NothingToUndo ≠ X_InvalidRooms)
    (xm_NothingToUndo_InvalidLines : PySem.W.subIn K (.ref X_NothingToUndo) (.ref X_InvalidLines) = some false)
    (xq_NothingToUndo_InvalidLines : X_NothingToUndo ≠ X_InvalidLines)
    (xm_NothingToUndo_InvalidOrder : PySem.W.subIn K (.ref X_NothingToUndo) (.ref X_InvalidOrder) = some false)
    (xq_NothingToUndo_InvalidOrder : X_NothingToUndo ≠ X_InvalidOrder)
    (xm_NothingToUndo_InvalidOperation : PySem.W.subIn K (.ref X_NothingToUndo) (.ref X_InvalidOperation) = some false)
    (xq_NothingToUndo_InvalidOperation : X_NothingToUndo ≠ X_InvalidOperation)
    (xm_NothingToUndo_InvalidName : PySem.W.subIn K (.ref X_NothingToUndo) (.ref X_InvalidName) = some false)
    (xq_NothingToUndo_InvalidName : X_NothingToUndo ≠ X_InvalidName)
    (xm_NothingToUndo_ParseError : PySem.W.subIn K (.ref X_NothingToUndo) (.ref X_ParseError) = some false)
    (xq_NothingToUndo_ParseError : X_NothingToUndo ≠ X_ParseError)
    (xm_NothingToUndo_RoomError : PySem.W.subIn K (.ref X_NothingToUndo) (.ref X_RoomError) = some false)
    (xq_NothingToUndo_RoomError : X_NothingToUndo ≠ X_RoomError)
    (xf_InvalidNumber_KeyError : PySem.W.subIn K (.ref X_InvalidNumber) (.type "KeyError") = some false)
    (xf_InvalidNumber_IndexError : PySem.W.subIn K (.ref X_InvalidNumber) (.type "IndexError") = some true)
    (xf_UnknownName_KeyError : PySem.W.subIn K (.ref X_UnknownName) (.type "KeyError") = some true)
    (xf_TooMany_OverflowError : PySem.W.subIn K (.ref X_TooMany) (.type "OverflowError") = some true)
    (xf_NothingToUndo_IndexError : PySem.W.subIn K (.ref X_NothingToUndo) (.type "IndexError") = some false)
    (xf_NothingToUndo_KeyError : PySem.W.subIn K (.ref X_NothingToUndo) (.type "KeyError") = some false)
    (xf_Refused_ArithmeticError : PySem.W.subIn K (.ref X_Refused) (.type "ArithmeticError") = some true)
    (xf_NothingToUndo_LookupError : PySem.W.subIn K (.ref X_NothingToUndo) (.type "LookupError") = some true)
    (xm_InvalidWord_InvalidWord : PySem.W.subIn K (.ref X_InvalidWord) (.ref X_InvalidWord) = some true)
    (xm_InvalidOperation_InvalidOperation : PySem.W.subIn K (.ref X_InvalidOperation) (.ref X_InvalidOperation) = some true)
    (xm_InvalidNumber_InvalidNumber : PySem.W.subIn K (.ref X_InvalidNumber) (.ref X_InvalidNumber) = some true)
    (tb26 : PySem.W.tabIn K "_law_two_right" = some (cc26, P26))
    (nk26 : K.lookup P26 = none)
    (tb27 : PySem.W.tabIn K "_law_lists_right" = some (cc27, P27))
    (nk27 : K.lookup P27 = none)
    (tb28 : PySem.W.tabIn K "law" = some (cc28, P28))
    (nk28 : K.lookup P28 = none)
    (ne0_1 : P26 ≠ P27)
    (ne0_2 : P26 ≠ P28)
    (ne1_2 : P27 ≠ P28) : Txt K mg :=
  have F0 := fun_mk (st := s_is_number) l0 c0 k0
  have b0 := F0.binds (ps := ["value", "least", "most"]) fun _ _ _ _ _ _ us hl => match us, hl with | [_, _, _], _ => rfl
  have F1 := fun_mk (st := s_check_number) l1 c1 k1
  have b1 := F1.binds (ps := ["value", "least", "most"]) fun _ _ _ _ _ _ us hl => match us, hl with | [_, _, _], _ => rfl
  have F2 := fun_mk (st := s_check_count) l2 c2 k2
  have b2 := F2.binds (ps := ["value"]) fun _ _ _ _ _ _ us hl => match us, hl with | [_], _ => rfl
  have F3 := fun_mk (st := s_check_letters) l3 c3 k3
  have b3 := F3.binds (ps := ["letters"]) fun _ _ _ _ _ _ us hl => match us, hl with | [_], _ => rfl
  have F4 := fun_mk (st := s_is_spelled) l4 c4 k4
  have b4 := F4.binds (ps := ["letters", "value", "most"]) fun _ _ _ _ _ _ us hl => match us, hl with | [_, _, _], _ => rfl
  have F5 := fun_mk (st := s_check_word) l5 c5 k5
  have b5 := F5.binds (ps := ["letters", "word"]) fun _ _ _ _ _ _ us hl => match us, hl with | [_, _], _ => rfl
  have F6 := fun_mk (st := s_check_both) l6 c6 k6
  have b6 := F6.binds (ps := ["letters", "one", "other"]) fun _ _ _ _ _ _ us hl => match us, hl with | [_, _, _], _ => rfl
  have F7 := fun_mk (st := s_order_words) l7 c7 k7
  have b7 := F7.binds (ps := ["one", "other"]) fun _ _ _ _ _ _ us hl => match us, hl with | [_, _], _ => rfl
  have F8 := fun_mk (st := s_count_common) l8 c8 k8
  have b8 := F8.binds (ps := ["one", "other"]) fun _ _ _ _ _ _ us hl => match us, hl with | [_, _], _ => rfl
  have F9 := fun_mk (st := s_is_word) l9 c9 k9
  have b9 := F9.binds (ps := ["letters", "value"]) fun _ _ _ _ _ _ us hl => match us, hl with | [_, _], _ => rfl
  have F10 := fun_mk (st := s_compare_words) l10 c10 k10
  have b10 := F10.binds (ps := ["letters", "one", "other"]) fun _ _ _ _ _ _ us hl => match us, hl with | [_, _, _], _ => rfl
  have F11 := fun_mk (st := s_common_end) l11 c11 k11
  have b11 := F11.binds (ps := ["letters", "one", "other"]) fun _ _ _ _ _ _ us hl => match us, hl with | [_, _, _], _ => rfl
  have F12 := fun_mk (st := s_is_end) l12 c12 k12
  have b12 := F12.binds (ps := ["letters", "one", "other"]) fun _ _ _ _ _ _ us hl => match us, hl with | [_, _, _], _ => rfl
  have F13 := fun_mk (st := s_in_order) l13 c13 k13
  have b13 := F13.binds (ps := ["words"]) fun _ _ _ _ _ _ us hl => match us, hl with | [_], _ => rfl
  have F14 := fun_mk (st := s_sorted_words) l14 c14 k14
  have b14 := F14.binds (ps := ["letters", "words"]) fun _ _ _ _ _ _ us hl => match us, hl with | [_, _], _ => rfl
  have F15 := fun_mk (st := s__raised) l15 c15 k15
  have b15 := F15.binds (ps := ["letters", "word"]) fun _ _ _ _ _ _ us hl => match us, hl with | [_, _], _ => rfl
  have F16 := fun_mk (st := s_words_of) l16 c16 k16
  have b16 := F16.binds (ps := ["letters", "length"]) fun _ _ _ _ _ _ us hl => match us, hl with | [_, _], _ => rfl
  have F17 := fun_mk (st := s_words_to) l17 c17 k17
  have b17 := F17.binds (ps := ["letters", "length"]) fun _ _ _ _ _ _ us hl => match us, hl with | [_, _], _ => rfl
  have F18 := fun_mk (st := s__sizes) l18 c18 k18
  have b18 := F18.binds (ps := ["letters", "length"]) fun _ _ _ _ _ _ us hl => match us, hl with | [_, _], _ => rfl
  have F19 := fun_mk (st := s_word_place) l19 c19 k19
  have b19 := F19.binds (ps := ["letters", "length", "word"]) fun _ _ _ _ _ _ us hl => match us, hl with | [_, _, _], _ => rfl
  have F20 := fun_mk (st := s_word_at) l20 c20 k20
  have b20 := F20.binds (ps := ["letters", "length", "number"]) fun _ _ _ _ _ _ us hl => match us, hl with | [_, _, _], _ => rfl
  have F21 := fun_mk (st := s__law_bag) l21 c21 k21
  have b21 := F21.binds (ps := ["script", "spot"]) fun _ _ _ _ _ _ us hl => match us, hl with | [_, _], _ => rfl
  have F22 := fun_mk (st := s__law_grab) l22 c22 k22
  have b22 := F22.binds (ps := ["bag", "total"]) fun _ _ _ _ _ _ us hl => match us, hl with | [_, _], _ => rfl
  have F23 := fun_mk (st := s__law_one_of) l23 c23 k23
  have b23 := F23.binds (ps := ["bag", "items"]) fun _ _ _ _ _ _ us hl => match us, hl with | [_, _], _ => rfl
  have F24 := fun_mk (st := s__law_flags) l24 c24 k24
  have b24 := F24.binds (ps := ["error"]) fun _ _ _ _ _ _ us hl => match us, hl with | [_], _ => rfl
  have F25 := fun_mk (st := s__law_kept_right) l25 c25 k25
  have b25 := F25.binds (ps := ["bag"]) fun _ _ _ _ _ _ us hl => match us, hl with | [_], _ => rfl
  have F26 := fun_mk (st := s__law_two_right) l26 c26 k26
  have b26 := F26.binds (ps := ["bag", "bad", "letters"]) fun _ _ _ _ _ _ us hl => match us, hl with | [_, _, _], _ => rfl
  have F27 := fun_mk (st := s__law_lists_right) l27 c27 k27
  have b27 := F27.binds (ps := ["bag", "bad", "letters"]) fun _ _ _ _ _ _ us hl => match us, hl with | [_, _, _], _ => rfl
  have F28 := fun_mk (st := s_law) l28 c28 k28
  have b28 := F28.binds (ps := ["script"]) fun _ _ _ _ _ _ us hl => match us, hl with | [_], _ => rfl
  have F29 := fun_mk (st := s__law_fault) l29 c29 k29
  have b29 := F29.binds (ps := ["call"]) fun _ _ _ _ _ _ us hl => match us, hl with | [_], _ => rfl
  { a_is_number := f0, d_is_number := _,
    F_is_number := F0, b_is_number := b0,
    m_is_number := PySem.W.mg_of X G a0,
    a_check_number := f1, d_check_number := _,
    F_check_number := F1, b_check_number := b1,
    m_check_number := PySem.W.mg_of X G a1,
    a_check_count := f2, d_check_count := _,
    F_check_count := F2, b_check_count := b2,
    m_check_count := PySem.W.mg_of X G a2,
    a_check_letters := f3, d_check_letters := _,
    F_check_letters := F3, b_check_letters := b3,
    m_check_letters := PySem.W.mg_of X G a3,
    a_is_spelled := f4, d_is_spelled := _,
    F_is_spelled := F4, b_is_spelled := b4,
    m_is_spelled := PySem.W.mg_of X G a4,
    a_check_word := f5, d_check_word := _,
    F_check_word := F5, b_check_word := b5,
    m_check_word := PySem.W.mg_of X G a5,
    a_check_both := f6, d_check_both := _,
    F_check_both := F6, b_check_both := b6,
    m_check_both := PySem.W.mg_of X G a6,
    a_order_words := f7, d_order_words := _,
    F_order_words := F7, b_order_words := b7,
    m_order_words := PySem.W.mg_of X G a7,
    a_count_common := f8, d_count_common := _,
    F_count_common := F8, b_count_common := b8,
    m_count_common := PySem.W.mg_of X G a8,
    a_is_word := f9, d_is_word := _,
    F_is_word := F9, b_is_word := b9,
    m_is_word := PySem.W.mg_of X G a9,
    a_compare_words := f10, d_compare_words := _,
    F_compare_words := F10, b_compare_words := b10,
    m_compare_words := PySem.W.mg_of X G a10,
    a_common_end := f11, d_common_end := _,
    F_common_end := F11, b_common_end := b11,
    m_common_end := PySem.W.mg_of X G a11,
    a_is_end := f12, d_is_end := _,
    F_is_end := F12, b_is_end := b12,
    m_is_end := PySem.W.mg_of X G a12,
    a_in_order := f13, d_in_order := _,
    F_in_order := F13, b_in_order := b13,
    m_in_order := PySem.W.mg_of X G a13,
    a_sorted_words := f14, d_sorted_words := _,
    F_sorted_words := F14, b_sorted_words := b14,
    m_sorted_words := PySem.W.mg_of X G a14,
    a__raised := f15, d__raised := _,
    F__raised := F15, b__raised := b15,
    m__raised := PySem.W.mg_of X G a15,
    a_words_of := f16, d_words_of := _,
    F_words_of := F16, b_words_of := b16,
    m_words_of := PySem.W.mg_of X G a16,
    a_words_to := f17, d_words_to := _,
    F_words_to := F17, b_words_to := b17,
    m_words_to := PySem.W.mg_of X G a17,
    a__sizes := f18, d__sizes := _,
    F__sizes := F18, b__sizes := b18,
    m__sizes := PySem.W.mg_of X G a18,
    a_word_place := f19, d_word_place := _,
    F_word_place := F19, b_word_place := b19,
    m_word_place := PySem.W.mg_of X G a19,
    a_word_at := f20, d_word_at := _,
    F_word_at := F20, b_word_at := b20,
    m_word_at := PySem.W.mg_of X G a20,
    a__law_bag := f21, d__law_bag := _,
    F__law_bag := F21, b__law_bag := b21,
    m__law_bag := PySem.W.mg_of X G a21,
    a__law_grab := f22, d__law_grab := _,
    F__law_grab := F22, b__law_grab := b22,
    m__law_grab := PySem.W.mg_of X G a22,
    a__law_one_of := f23, d__law_one_of := _,
    F__law_one_of := F23, b__law_one_of := b23,
    m__law_one_of := PySem.W.mg_of X G a23,
    a__law_flags := f24, d__law_flags := _,
    F__law_flags := F24, b__law_flags := b24,
    m__law_flags := PySem.W.mg_of X G a24,
    a__law_kept_right := f25, d__law_kept_right := _,
    F__law_kept_right := F25, b__law_kept_right := b25,
    m__law_kept_right := PySem.W.mg_of X G a25,
    a__law_two_right := f26, d__law_two_right := _,
    F__law_two_right := F26, b__law_two_right := b26,
    m__law_two_right := PySem.W.mg_of X G a26,
    a__law_lists_right := f27, d__law_lists_right := _,
    F__law_lists_right := F27, b__law_lists_right := b27,
    m__law_lists_right := PySem.W.mg_of X G a27,
    a_law := f28, d_law := _,
    F_law := F28, b_law := b28,
    m_law := PySem.W.mg_of X G a28,
    a__law_fault := f29, d__law_fault := _,
    F__law_fault := F29, b__law_fault := b29,
    m__law_fault := PySem.W.mg_of X G a29,
    t_MAX_LETTERS := tk_MAX_LETTERS, g_MAX_LETTERS := PySem.W.mg_of X G g_MAX_LETTERS,
    t_MAX_WORD := tk_MAX_WORD, g_MAX_WORD := PySem.W.mg_of X G g_MAX_WORD,
    t_MOST_SORTED := tk_MOST_SORTED, g_MOST_SORTED := PySem.W.mg_of X G g_MOST_SORTED,
    t_MOST_LISTED := tk_MOST_LISTED, g_MOST_LISTED := PySem.W.mg_of X G g_MOST_LISTED,
    t_MOST_PLACED := tk_MOST_PLACED, g_MOST_PLACED := PySem.W.mg_of X G g_MOST_PLACED,
    n_bool := PySem.W.mg_none_of X G z_bool,
    n_len := PySem.W.mg_none_of X G z_len,
    n_min := PySem.W.mg_none_of X G z_min,
    n_max := PySem.W.mg_none_of X G z_max,
    n_abs := PySem.W.mg_none_of X G z_abs,
    n_int := PySem.W.mg_none_of X G z_int,
    n_isinstance := PySem.W.mg_none_of X G z_isinstance,
    n_tuple := PySem.W.mg_none_of X G z_tuple,
    n_list := PySem.W.mg_none_of X G z_list,
    n_all := PySem.W.mg_none_of X G z_all,
    n_range := PySem.W.mg_none_of X G z_range,
    n_repr := PySem.W.mg_none_of X G z_repr,
    n_enumerate := PySem.W.mg_none_of X G z_enumerate,
    n_sorted := PySem.W.mg_none_of X G z_sorted,
    n_divmod := PySem.W.mg_none_of X G z_divmod,
    n_ValueError := PySem.W.mg_none_of X G z_ValueError,
    n_KeyError := PySem.W.mg_none_of X G z_KeyError,
    n_IndexError := PySem.W.mg_none_of X G z_IndexError,
    n_OverflowError := PySem.W.mg_none_of X G z_OverflowError,
    n_ArithmeticError := PySem.W.mg_none_of X G z_ArithmeticError,
    n_LookupError := PySem.W.mg_none_of X G z_LookupError,
    C_RoomError := X_RoomError, mC_RoomError := PySem.W.mg_of X G xa_RoomError,
    sn_InvalidWord := xs_InvalidWord, e_InvalidWord := xe_InvalidWord, t_InvalidWord := xt_InvalidWord,
    C_InvalidWord := X_InvalidWord, mC_InvalidWord := PySem.W.mg_of X G xa_InvalidWord, k_InvalidWord := xk_InvalidWord,
    x_InvalidWord := xx_InvalidWord,
    ec_InvalidWord := ⟨xga_InvalidWord, xgg_InvalidWord, xe_InvalidWord, xhd_InvalidWord, xcl_InvalidWord, ocn, oct, xmo_InvalidWord⟩,
    C_InvalidHeight := X_InvalidHeight, mC_InvalidHeight := PySem.W.mg_of X G xa_InvalidHeight, k_InvalidHeight := xk_InvalidHeight,
    x_InvalidHeight := xx_InvalidHeight,
    ec_InvalidHeight := ⟨xga_InvalidHeight, xgg_InvalidHeight, xe_InvalidHeight, xhd_InvalidHeight, xcl_InvalidHeight, ocn, oct, xmo_InvalidHeight⟩,
    C_InvalidMachine := X_InvalidMachine, mC_InvalidMachine := PySem.W.mg_of X G xa_InvalidMachine, k_InvalidMachine := xk_InvalidMachine,
    x_InvalidMachine := xx_InvalidMachine,
    ec_InvalidMachine := ⟨xga_InvalidMachine, xgg_InvalidMachine, xe_InvalidMachine, xhd_InvalidMachine, xcl_InvalidMachine, ocn, oct, xmo_InvalidMachine⟩,
    C_InvalidReader := X_InvalidReader, mC_InvalidReader := PySem.W.mg_of X G xa_InvalidReader, k_InvalidReader := xk_InvalidReader,
    x_InvalidReader := xx_InvalidReader,
    ec_InvalidReader := ⟨xga_InvalidReader, xgg_InvalidReader, xe_InvalidReader, xhd_InvalidReader, xcl_InvalidReader, ocn, oct, xmo_InvalidReader⟩,
    C_InvalidRooms := X_InvalidRooms, mC_InvalidRooms := PySem.W.mg_of X G xa_InvalidRooms, k_InvalidRooms := xk_InvalidRooms,
    x_InvalidRooms := xx_InvalidRooms,
    ec_InvalidRooms := ⟨xga_InvalidRooms, xgg_InvalidRooms, xe_InvalidRooms, xhd_InvalidRooms, xcl_InvalidRooms, ocn, oct, xmo_InvalidRooms⟩,
    C_InvalidLines := X_InvalidLines, mC_InvalidLines := PySem.W.mg_of X G xa_InvalidLines, k_InvalidLines := xk_InvalidLines,
    x_InvalidLines := xx_InvalidLines,
    ec_InvalidLines := ⟨xga_InvalidLines, xgg_InvalidLines, xe_InvalidLines, xhd_InvalidLines, xcl_InvalidLines, ocn, oct, xmo_InvalidLines⟩,
    C_InvalidOrder := X_InvalidOrder, mC_InvalidOrder := PySem.W.mg_of X G xa_InvalidOrder, k_InvalidOrder := xk_InvalidOrder,
    x_InvalidOrder := xx_InvalidOrder,
    ec_InvalidOrder := ⟨xga_InvalidOrder, xgg_InvalidOrder, xe_InvalidOrder, xhd_InvalidOrder, xcl_InvalidOrder, ocn, oct, xmo_InvalidOrder⟩,
    sn_InvalidOperation := xs_InvalidOperation, e_InvalidOperation := xe_InvalidOperation, t_InvalidOperation := xt_InvalidOperation,
    C_InvalidOperation := X_InvalidOperation, mC_InvalidOperation := PySem.W.mg_of X G xa_InvalidOperation, k_InvalidOperation := xk_InvalidOperation,
    x_InvalidOperation := xx_InvalidOperation,
    ec_InvalidOperation := ⟨xga_InvalidOperation, xgg_InvalidOperation, xe_InvalidOperation, xhd_InvalidOperation, xcl_InvalidOperation, ocn, oct, xmo_InvalidOperation⟩,
    C_InvalidName := X_InvalidName, mC_InvalidName := PySem.W.mg_of X G xa_InvalidName, k_InvalidName := xk_InvalidName,
    x_InvalidName := xx_InvalidName,
    ec_InvalidName := ⟨xga_InvalidName, xgg_InvalidName, xe_InvalidName, xhd_InvalidName, xcl_InvalidName, ocn, oct, xmo_InvalidName⟩,
    C_ParseError := X_ParseError, mC_ParseError := PySem.W.mg_of X G xa_ParseError, k_ParseError := xk_ParseError,
    i_ParseError := I_ParseError, kp_ParseError := ⟨PySem.W.mg_of X G xa_ParseError, xi_ParseError, xo_ParseError, xsa_ParseError, xga_ParseError, xgg_ParseError, xno_ParseError, xin_ParseError, xit_ParseError, xk_ParseError, xe_ParseError, xt_ParseError, xhd_ParseError, fname_spot, ⟨_, _, _, _, _, _, _, _, _, _, _, _, _, _, _, xl_ParseError, xcc_ParseError⟩⟩, xf_ParseError := ⟨xga_ParseError, xgg_ParseError, xe_ParseError, xhd_ParseError⟩,
    ec_ParseError := ⟨xga_ParseError, xgg_ParseError, xe_ParseError, xhd_ParseError, xcl_ParseError, ocn, oct, xmo_ParseError⟩,
    sn_InvalidNumber := xs_InvalidNumber, e_InvalidNumber := xe_InvalidNumber, t_InvalidNumber := xt_InvalidNumber,
    C_InvalidNumber := X_InvalidNumber, mC_InvalidNumber := PySem.W.mg_of X G xa_InvalidNumber, k_InvalidNumber := xk_InvalidNumber,
    i_InvalidNumber := I_InvalidNumber, kp_InvalidNumber := ⟨PySem.W.mg_of X G xa_InvalidNumber, xi_InvalidNumber, xo_InvalidNumber, xsa_InvalidNumber, xga_InvalidNumber, xgg_InvalidNumber, xno_InvalidNumber, xin_InvalidNumber, xit_InvalidNumber, xk_InvalidNumber, xe_InvalidNumber, xt_InvalidNumber, xhd_InvalidNumber, PySem.OwX.fname_given, ⟨_, _, _, _, _, _, _, _, _, _, _, _, _, _, _, xl_InvalidNumber, xcc_InvalidNumber⟩⟩, xf_InvalidNumber := ⟨xga_InvalidNumber, xgg_InvalidNumber, xe_InvalidNumber, xhd_InvalidNumber⟩,
    ec_InvalidNumber := ⟨xga_InvalidNumber, xgg_InvalidNumber, xe_InvalidNumber, xhd_InvalidNumber, xcl_InvalidNumber, ocn, oct, xmo_InvalidNumber⟩,
    C_UnknownName := X_UnknownName, mC_UnknownName := PySem.W.mg_of X G xa_UnknownName, k_UnknownName := xk_UnknownName,
    i_UnknownName := I_UnknownName, kp_UnknownName := ⟨PySem.W.mg_of X G xa_UnknownName, xi_UnknownName, xo_UnknownName, xsa_UnknownName, xga_UnknownName, xgg_UnknownName, xno_UnknownName, xin_UnknownName, xit_UnknownName, xk_UnknownName, xe_UnknownName, xt_UnknownName, xhd_UnknownName, fname_wanted, ⟨_, _, _, _, _, _, _, _, _, _, _, _, _, _, _, xl_UnknownName, xcc_UnknownName⟩⟩, xf_UnknownName := ⟨xga_UnknownName, xgg_UnknownName, xe_UnknownName, xhd_UnknownName⟩,
    ec_UnknownName := ⟨xga_UnknownName, xgg_UnknownName, xe_UnknownName, xhd_UnknownName, xcl_UnknownName, ocn, oct, xmo_UnknownName⟩,
    C_TooMany := X_TooMany, mC_TooMany := PySem.W.mg_of X G xa_TooMany, k_TooMany := xk_TooMany,
    i_TooMany := I_TooMany, kp_TooMany := ⟨PySem.W.mg_of X G xa_TooMany, xi_TooMany, xo_TooMany, xsa_TooMany, xga_TooMany, xgg_TooMany, xno_TooMany, xin_TooMany, xit_TooMany, xk_TooMany, xe_TooMany, xt_TooMany, xhd_TooMany, fname_limit, ⟨_, _, _, _, _, _, _, _, _, _, _, _, _, _, _, xl_TooMany, xcc_TooMany⟩⟩, xf_TooMany := ⟨xga_TooMany, xgg_TooMany, xe_TooMany, xhd_TooMany⟩,
    ec_TooMany := ⟨xga_TooMany, xgg_TooMany, xe_TooMany, xhd_TooMany, xcl_TooMany, ocn, oct, xmo_TooMany⟩,
    C_Refused := X_Refused, mC_Refused := PySem.W.mg_of X G xa_Refused, k_Refused := xk_Refused,
    i_Refused := I_Refused, kp_Refused := ⟨PySem.W.mg_of X G xa_Refused, xi_Refused, xo_Refused, xsa_Refused, xga_Refused, xgg_Refused, xno_Refused, xin_Refused, xit_Refused, xk_Refused, xe_Refused, xt_Refused, xhd_Refused, fname_reason, ⟨_, _, _, _, _, _, _, _, _, _, _, _, _, _, _, xl_Refused, xcc_Refused⟩⟩, xf_Refused := ⟨xga_Refused, xgg_Refused, xe_Refused, xhd_Refused⟩,
    ec_Refused := ⟨xga_Refused, xgg_Refused, xe_Refused, xhd_Refused, xcl_Refused, ocn, oct, xmo_Refused⟩,
    C_NothingToUndo := X_NothingToUndo, mC_NothingToUndo := PySem.W.mg_of X G xa_NothingToUndo, k_NothingToUndo := xk_NothingToUndo,
    i_NothingToUndo := I_NothingToUndo, kp_NothingToUndo := ⟨PySem.W.mg_of X G xa_NothingToUndo, xi_NothingToUndo, xo_NothingToUndo, xsa_NothingToUndo, xga_NothingToUndo, xgg_NothingToUndo, xno_NothingToUndo, xin_NothingToUndo, xit_NothingToUndo, xk_NothingToUndo, xe_NothingToUndo, xt_NothingToUndo, xhd_NothingToUndo, fname_steps, ⟨_, _, _, _, _, _, _, _, _, _, _, _, _, _, _, xl_NothingToUndo, xcc_NothingToUndo⟩⟩, xf_NothingToUndo := ⟨xga_NothingToUndo, xgg_NothingToUndo, xe_NothingToUndo, xhd_NothingToUndo⟩,
    ec_NothingToUndo := ⟨xga_NothingToUndo, xgg_NothingToUndo, xe_NothingToUndo, xhd_NothingToUndo, xcl_NothingToUndo, ocn, oct, xmo_NothingToUndo⟩,
    fl_InvalidWord := ⟨kit_self, kit_rr xq_InvalidWord_InvalidHeight xc_InvalidHeight xt_InvalidHeight xm_InvalidWord_InvalidHeight, kit_rr xq_InvalidWord_InvalidMachine xc_InvalidMachine xt_InvalidMachine xm_InvalidWord_InvalidMachine, kit_rr xq_InvalidWord_InvalidReader xc_InvalidReader xt_InvalidReader xm_InvalidWord_InvalidReader, kit_rr xq_InvalidWord_InvalidRooms xc_InvalidRooms xt_InvalidRooms xm_InvalidWord_InvalidRooms, kit_rr xq_InvalidWord_InvalidLines xc_InvalidLines xt_InvalidLines xm_InvalidWord_InvalidLines, kit_rr xq_InvalidWord_InvalidOrder xc_InvalidOrder xt_InvalidOrder xm_InvalidWord_InvalidOrder, kit_rr xq_InvalidWord_InvalidOperation xc_InvalidOperation xt_InvalidOperation xm_InvalidWord_InvalidOperation, kit_rr xq_InvalidWord_InvalidName xc_InvalidName xt_InvalidName xm_InvalidWord_InvalidName, kit_rr xq_InvalidWord_ParseError xc_ParseError xt_ParseError xm_InvalidWord_ParseError, trivial⟩,
    rm_InvalidWord := kit_rr xq_InvalidWord_RoomError xc_RoomError xt_RoomError xm_InvalidWord_RoomError,
    ve_InvalidWord := kit_own xv_InvalidWord (by decide +kernel),
    fl_InvalidHeight := ⟨kit_rr xq_InvalidHeight_InvalidWord xc_InvalidWord xt_InvalidWord xm_InvalidHeight_InvalidWord, kit_self, kit_rr xq_InvalidHeight_InvalidMachine xc_InvalidMachine xt_InvalidMachine xm_InvalidHeight_InvalidMachine, kit_rr xq_InvalidHeight_InvalidReader xc_InvalidReader xt_InvalidReader xm_InvalidHeight_InvalidReader, kit_rr xq_InvalidHeight_InvalidRooms xc_InvalidRooms xt_InvalidRooms xm_InvalidHeight_InvalidRooms, kit_rr xq_InvalidHeight_InvalidLines xc_InvalidLines xt_InvalidLines xm_InvalidHeight_InvalidLines, kit_rr xq_InvalidHeight_InvalidOrder xc_InvalidOrder xt_InvalidOrder xm_InvalidHeight_InvalidOrder, kit_rr xq_InvalidHeight_InvalidOperation xc_InvalidOperation xt_InvalidOperation xm_InvalidHeight_InvalidOperation, kit_rr xq_InvalidHeight_InvalidName xc_InvalidName xt_InvalidName xm_InvalidHeight_InvalidName, kit_rr xq_InvalidHeight_ParseError xc_ParseError xt_ParseError xm_InvalidHeight_ParseError, trivial⟩,
    rm_InvalidHeight := kit_rr xq_InvalidHeight_RoomError xc_RoomError xt_RoomError xm_InvalidHeight_RoomError,
    ve_InvalidHeight := kit_own xv_InvalidHeight (by decide +kernel),
    fl_InvalidMachine := ⟨kit_rr xq_InvalidMachine_InvalidWord xc_InvalidWord xt_InvalidWord xm_InvalidMachine_InvalidWord, kit_rr xq_InvalidMachine_InvalidHeight xc_InvalidHeight xt_InvalidHeight xm_InvalidMachine_InvalidHeight, kit_self, kit_rr xq_InvalidMachine_InvalidReader xc_InvalidReader xt_InvalidReader xm_InvalidMachine_InvalidReader, kit_rr xq_InvalidMachine_InvalidRooms xc_InvalidRooms xt_InvalidRooms xm_InvalidMachine_InvalidRooms, kit_rr xq_InvalidMachine_InvalidLines xc_InvalidLines xt_InvalidLines xm_InvalidMachine_InvalidLines, kit_rr xq_InvalidMachine_InvalidOrder xc_InvalidOrder xt_InvalidOrder xm_InvalidMachine_InvalidOrder, kit_rr xq_InvalidMachine_InvalidOperation xc_InvalidOperation xt_InvalidOperation xm_InvalidMachine_InvalidOperation, kit_rr xq_InvalidMachine_InvalidName xc_InvalidName xt_InvalidName xm_InvalidMachine_InvalidName, kit_rr xq_InvalidMachine_ParseError xc_ParseError xt_ParseError xm_InvalidMachine_ParseError, trivial⟩,
    rm_InvalidMachine := kit_rr xq_InvalidMachine_RoomError xc_RoomError xt_RoomError xm_InvalidMachine_RoomError,
    ve_InvalidMachine := kit_own xv_InvalidMachine (by decide +kernel),
    fl_InvalidReader := ⟨kit_rr xq_InvalidReader_InvalidWord xc_InvalidWord xt_InvalidWord xm_InvalidReader_InvalidWord, kit_rr xq_InvalidReader_InvalidHeight xc_InvalidHeight xt_InvalidHeight xm_InvalidReader_InvalidHeight, kit_rr xq_InvalidReader_InvalidMachine xc_InvalidMachine xt_InvalidMachine xm_InvalidReader_InvalidMachine, kit_self, kit_rr xq_InvalidReader_InvalidRooms xc_InvalidRooms xt_InvalidRooms xm_InvalidReader_InvalidRooms, kit_rr xq_InvalidReader_InvalidLines xc_InvalidLines xt_InvalidLines xm_InvalidReader_InvalidLines, kit_rr xq_InvalidReader_InvalidOrder xc_InvalidOrder xt_InvalidOrder xm_InvalidReader_InvalidOrder, kit_rr xq_InvalidReader_InvalidOperation xc_InvalidOperation xt_InvalidOperation xm_InvalidReader_InvalidOperation, kit_rr xq_InvalidReader_InvalidName xc_InvalidName xt_InvalidName xm_InvalidReader_InvalidName, kit_rr xq_InvalidReader_ParseError xc_ParseError xt_ParseError xm_InvalidReader_ParseError, trivial⟩,
    rm_InvalidReader := kit_rr xq_InvalidReader_RoomError xc_RoomError xt_RoomError xm_InvalidReader_RoomError,
    ve_InvalidReader := kit_own xv_InvalidReader (by decide +kernel),
    fl_InvalidRooms := ⟨kit_rr xq_InvalidRooms_InvalidWord xc_InvalidWord xt_InvalidWord xm_InvalidRooms_InvalidWord, kit_rr xq_InvalidRooms_InvalidHeight xc_InvalidHeight xt_InvalidHeight xm_InvalidRooms_InvalidHeight, kit_rr xq_InvalidRooms_InvalidMachine xc_InvalidMachine xt_InvalidMachine xm_InvalidRooms_InvalidMachine, kit_rr xq_InvalidRooms_InvalidReader xc_InvalidReader xt_InvalidReader xm_InvalidRooms_InvalidReader, kit_self, kit_rr xq_InvalidRooms_InvalidLines xc_InvalidLines xt_InvalidLines xm_InvalidRooms_InvalidLines, kit_rr xq_InvalidRooms_InvalidOrder xc_InvalidOrder xt_InvalidOrder xm_InvalidRooms_InvalidOrder, kit_rr xq_InvalidRooms_InvalidOperation xc_InvalidOperation xt_InvalidOperation xm_InvalidRooms_InvalidOperation, kit_rr xq_InvalidRooms_InvalidName xc_InvalidName xt_InvalidName xm_InvalidRooms_InvalidName, kit_rr xq_InvalidRooms_ParseError xc_ParseError xt_ParseError xm_InvalidRooms_ParseError, trivial⟩,
    rm_InvalidRooms := kit_rr xq_InvalidRooms_RoomError xc_RoomError xt_RoomError xm_InvalidRooms_RoomError,
    ve_InvalidRooms := kit_own xv_InvalidRooms (by decide +kernel),
    fl_InvalidLines := ⟨kit_rr xq_InvalidLines_InvalidWord xc_InvalidWord xt_InvalidWord xm_InvalidLines_InvalidWord, kit_rr xq_InvalidLines_InvalidHeight xc_InvalidHeight xt_InvalidHeight xm_InvalidLines_InvalidHeight, kit_rr xq_InvalidLines_InvalidMachine xc_InvalidMachine xt_InvalidMachine xm_InvalidLines_InvalidMachine, kit_rr xq_InvalidLines_InvalidReader xc_InvalidReader xt_InvalidReader xm_InvalidLines_InvalidReader, kit_rr xq_InvalidLines_InvalidRooms xc_InvalidRooms xt_InvalidRooms xm_InvalidLines_InvalidRooms, kit_self, kit_rr xq_InvalidLines_InvalidOrder xc_InvalidOrder xt_InvalidOrder xm_InvalidLines_InvalidOrder, kit_rr xq_InvalidLines_InvalidOperation xc_InvalidOperation xt_InvalidOperation xm_InvalidLines_InvalidOperation, kit_rr xq_InvalidLines_InvalidName xc_InvalidName xt_InvalidName xm_InvalidLines_InvalidName, kit_rr xq_InvalidLines_ParseError xc_ParseError xt_ParseError xm_InvalidLines_ParseError, trivial⟩,
    rm_InvalidLines := kit_rr xq_InvalidLines_RoomError xc_RoomError xt_RoomError xm_InvalidLines_RoomError,
    ve_InvalidLines := kit_own xv_InvalidLines (by decide +kernel),
    fl_InvalidOrder := ⟨kit_rr xq_InvalidOrder_InvalidWord xc_InvalidWord xt_InvalidWord xm_InvalidOrder_InvalidWord, kit_rr xq_InvalidOrder_InvalidHeight xc_InvalidHeight xt_InvalidHeight xm_InvalidOrder_InvalidHeight, kit_rr xq_InvalidOrder_InvalidMachine xc_InvalidMachine xt_InvalidMachine xm_InvalidOrder_InvalidMachine, kit_rr xq_InvalidOrder_InvalidReader xc_InvalidReader xt_InvalidReader xm_InvalidOrder_InvalidReader, kit_rr xq_InvalidOrder_InvalidRooms xc_InvalidRooms xt_InvalidRooms xm_InvalidOrder_InvalidRooms, kit_rr xq_InvalidOrder_InvalidLines xc_InvalidLines xt_InvalidLines xm_InvalidOrder_InvalidLines, kit_self, kit_rr xq_InvalidOrder_InvalidOperation xc_InvalidOperation xt_InvalidOperation xm_InvalidOrder_InvalidOperation, kit_rr xq_InvalidOrder_InvalidName xc_InvalidName xt_InvalidName xm_InvalidOrder_InvalidName, kit_rr xq_InvalidOrder_ParseError xc_ParseError xt_ParseError xm_InvalidOrder_ParseError, trivial⟩,
    rm_InvalidOrder := kit_rr xq_InvalidOrder_RoomError xc_RoomError xt_RoomError xm_InvalidOrder_RoomError,
    ve_InvalidOrder := kit_own xv_InvalidOrder (by decide +kernel),
    fl_InvalidOperation := ⟨kit_rr xq_InvalidOperation_InvalidWord xc_InvalidWord xt_InvalidWord xm_InvalidOperation_InvalidWord, kit_rr xq_InvalidOperation_InvalidHeight xc_InvalidHeight xt_InvalidHeight xm_InvalidOperation_InvalidHeight, kit_rr xq_InvalidOperation_InvalidMachine xc_InvalidMachine xt_InvalidMachine xm_InvalidOperation_InvalidMachine, kit_rr xq_InvalidOperation_InvalidReader xc_InvalidReader xt_InvalidReader xm_InvalidOperation_InvalidReader, kit_rr xq_InvalidOperation_InvalidRooms xc_InvalidRooms xt_InvalidRooms xm_InvalidOperation_InvalidRooms, kit_rr xq_InvalidOperation_InvalidLines xc_InvalidLines xt_InvalidLines xm_InvalidOperation_InvalidLines, kit_rr xq_InvalidOperation_InvalidOrder xc_InvalidOrder xt_InvalidOrder xm_InvalidOperation_InvalidOrder, kit_self, kit_rr xq_InvalidOperation_InvalidName xc_InvalidName xt_InvalidName xm_InvalidOperation_InvalidName, kit_rr xq_InvalidOperation_ParseError xc_ParseError xt_ParseError xm_InvalidOperation_ParseError, trivial⟩,
    rm_InvalidOperation := kit_rr xq_InvalidOperation_RoomError xc_RoomError xt_RoomError xm_InvalidOperation_RoomError,
    ve_InvalidOperation := kit_own xv_InvalidOperation (by decide +kernel),
    fl_InvalidName := ⟨kit_rr xq_InvalidName_InvalidWord xc_InvalidWord xt_InvalidWord xm_InvalidName_InvalidWord, kit_rr xq_InvalidName_InvalidHeight xc_InvalidHeight xt_InvalidHeight xm_InvalidName_InvalidHeight, kit_rr xq_InvalidName_InvalidMachine xc_InvalidMachine xt_InvalidMachine xm_InvalidName_InvalidMachine, kit_rr xq_InvalidName_InvalidReader xc_InvalidReader xt_InvalidReader xm_InvalidName_InvalidReader, kit_rr xq_InvalidName_InvalidRooms xc_InvalidRooms xt_InvalidRooms xm_InvalidName_InvalidRooms, kit_rr xq_InvalidName_InvalidLines xc_InvalidLines xt_InvalidLines xm_InvalidName_InvalidLines, kit_rr xq_InvalidName_InvalidOrder xc_InvalidOrder xt_InvalidOrder xm_InvalidName_InvalidOrder, kit_rr xq_InvalidName_InvalidOperation xc_InvalidOperation xt_InvalidOperation xm_InvalidName_InvalidOperation, kit_self, kit_rr xq_InvalidName_ParseError xc_ParseError xt_ParseError xm_InvalidName_ParseError, trivial⟩,
    rm_InvalidName := kit_rr xq_InvalidName_RoomError xc_RoomError xt_RoomError xm_InvalidName_RoomError,
    ve_InvalidName := kit_own xv_InvalidName (by decide +kernel),
    fl_ParseError := ⟨kit_rr xq_ParseError_InvalidWord xc_InvalidWord xt_InvalidWord xm_ParseError_InvalidWord, kit_rr xq_ParseError_InvalidHeight xc_InvalidHeight xt_InvalidHeight xm_ParseError_InvalidHeight, kit_rr xq_ParseError_InvalidMachine xc_InvalidMachine xt_InvalidMachine xm_ParseError_InvalidMachine, kit_rr xq_ParseError_InvalidReader xc_InvalidReader xt_InvalidReader xm_ParseError_InvalidReader, kit_rr xq_ParseError_InvalidRooms xc_InvalidRooms xt_InvalidRooms xm_ParseError_InvalidRooms, kit_rr xq_ParseError_InvalidLines xc_InvalidLines xt_InvalidLines xm_ParseError_InvalidLines, kit_rr xq_ParseError_InvalidOrder xc_InvalidOrder xt_InvalidOrder xm_ParseError_InvalidOrder, kit_rr xq_ParseError_InvalidOperation xc_InvalidOperation xt_InvalidOperation xm_ParseError_InvalidOperation, kit_rr xq_ParseError_InvalidName xc_InvalidName xt_InvalidName xm_ParseError_InvalidName, kit_self, trivial⟩,
    rm_ParseError := kit_rr xq_ParseError_RoomError xc_RoomError xt_RoomError xm_ParseError_RoomError,
    ve_ParseError := kit_own xv_ParseError (by decide +kernel),
    fl_InvalidNumber := ⟨kit_rr xq_InvalidNumber_InvalidWord xc_InvalidWord xt_InvalidWord xm_InvalidNumber_InvalidWord, kit_rr xq_InvalidNumber_InvalidHeight xc_InvalidHeight xt_InvalidHeight xm_InvalidNumber_InvalidHeight, kit_rr xq_InvalidNumber_InvalidMachine xc_InvalidMachine xt_InvalidMachine xm_InvalidNumber_InvalidMachine, kit_rr xq_InvalidNumber_InvalidReader xc_InvalidReader xt_InvalidReader xm_InvalidNumber_InvalidReader, kit_rr xq_InvalidNumber_InvalidRooms xc_InvalidRooms xt_InvalidRooms xm_InvalidNumber_InvalidRooms, kit_rr xq_InvalidNumber_InvalidLines xc_InvalidLines xt_InvalidLines xm_InvalidNumber_InvalidLines, kit_rr xq_InvalidNumber_InvalidOrder xc_InvalidOrder xt_InvalidOrder xm_InvalidNumber_InvalidOrder, kit_rr xq_InvalidNumber_InvalidOperation xc_InvalidOperation xt_InvalidOperation xm_InvalidNumber_InvalidOperation, kit_rr xq_InvalidNumber_InvalidName xc_InvalidName xt_InvalidName xm_InvalidNumber_InvalidName, kit_rr xq_InvalidNumber_ParseError xc_ParseError xt_ParseError xm_InvalidNumber_ParseError, trivial⟩,
    rm_InvalidNumber := kit_rr xq_InvalidNumber_RoomError xc_RoomError xt_RoomError xm_InvalidNumber_RoomError,
    fl_UnknownName := ⟨kit_rr xq_UnknownName_InvalidWord xc_InvalidWord xt_InvalidWord xm_UnknownName_InvalidWord, kit_rr xq_UnknownName_InvalidHeight xc_InvalidHeight xt_InvalidHeight xm_UnknownName_InvalidHeight, kit_rr xq_UnknownName_InvalidMachine xc_InvalidMachine xt_InvalidMachine xm_UnknownName_InvalidMachine, kit_rr xq_UnknownName_InvalidReader xc_InvalidReader xt_InvalidReader xm_UnknownName_InvalidReader, kit_rr xq_UnknownName_InvalidRooms xc_InvalidRooms xt_InvalidRooms xm_UnknownName_InvalidRooms, kit_rr xq_UnknownName_InvalidLines xc_InvalidLines xt_InvalidLines xm_UnknownName_InvalidLines, kit_rr xq_UnknownName_InvalidOrder xc_InvalidOrder xt_InvalidOrder xm_UnknownName_InvalidOrder, kit_rr xq_UnknownName_InvalidOperation xc_InvalidOperation xt_InvalidOperation xm_UnknownName_InvalidOperation, kit_rr xq_UnknownName_InvalidName xc_InvalidName xt_InvalidName xm_UnknownName_InvalidName, kit_rr xq_UnknownName_ParseError xc_ParseError xt_ParseError xm_UnknownName_ParseError, trivial⟩,
    rm_UnknownName := kit_rr xq_UnknownName_RoomError xc_RoomError xt_RoomError xm_UnknownName_RoomError,
    fl_TooMany := ⟨kit_rr xq_TooMany_InvalidWord xc_InvalidWord xt_InvalidWord xm_TooMany_InvalidWord, kit_rr xq_TooMany_InvalidHeight xc_InvalidHeight xt_InvalidHeight xm_TooMany_InvalidHeight, kit_rr xq_TooMany_InvalidMachine xc_InvalidMachine xt_InvalidMachine xm_TooMany_InvalidMachine, kit_rr xq_TooMany_InvalidReader xc_InvalidReader xt_InvalidReader xm_TooMany_InvalidReader, kit_rr xq_TooMany_InvalidRooms xc_InvalidRooms xt_InvalidRooms xm_TooMany_InvalidRooms, kit_rr xq_TooMany_InvalidLines xc_InvalidLines xt_InvalidLines xm_TooMany_InvalidLines, kit_rr xq_TooMany_InvalidOrder xc_InvalidOrder xt_InvalidOrder xm_TooMany_InvalidOrder, kit_rr xq_TooMany_InvalidOperation xc_InvalidOperation xt_InvalidOperation xm_TooMany_InvalidOperation, kit_rr xq_TooMany_InvalidName xc_InvalidName xt_InvalidName xm_TooMany_InvalidName, kit_rr xq_TooMany_ParseError xc_ParseError xt_ParseError xm_TooMany_ParseError, trivial⟩,
    rm_TooMany := kit_rr xq_TooMany_RoomError xc_RoomError xt_RoomError xm_TooMany_RoomError,
    fl_Refused := ⟨kit_rr xq_Refused_InvalidWord xc_InvalidWord xt_InvalidWord xm_Refused_InvalidWord, kit_rr xq_Refused_InvalidHeight xc_InvalidHeight xt_InvalidHeight xm_Refused_InvalidHeight, kit_rr xq_Refused_InvalidMachine xc_InvalidMachine xt_InvalidMachine xm_Refused_InvalidMachine, kit_rr xq_Refused_InvalidReader xc_InvalidReader xt_InvalidReader xm_Refused_InvalidReader, kit_rr xq_Refused_InvalidRooms xc_InvalidRooms xt_InvalidRooms xm_Refused_InvalidRooms, kit_rr xq_Refused_InvalidLines xc_InvalidLines xt_InvalidLines xm_Refused_InvalidLines, kit_rr xq_Refused_InvalidOrder xc_InvalidOrder xt_InvalidOrder xm_Refused_InvalidOrder, kit_rr xq_Refused_InvalidOperation xc_InvalidOperation xt_InvalidOperation xm_Refused_InvalidOperation, kit_rr xq_Refused_InvalidName xc_InvalidName xt_InvalidName xm_Refused_InvalidName, kit_rr xq_Refused_ParseError xc_ParseError xt_ParseError xm_Refused_ParseError, trivial⟩,
    rm_Refused := kit_rr xq_Refused_RoomError xc_RoomError xt_RoomError xm_Refused_RoomError,
    fl_NothingToUndo := ⟨kit_rr xq_NothingToUndo_InvalidWord xc_InvalidWord xt_InvalidWord xm_NothingToUndo_InvalidWord, kit_rr xq_NothingToUndo_InvalidHeight xc_InvalidHeight xt_InvalidHeight xm_NothingToUndo_InvalidHeight, kit_rr xq_NothingToUndo_InvalidMachine xc_InvalidMachine xt_InvalidMachine xm_NothingToUndo_InvalidMachine, kit_rr xq_NothingToUndo_InvalidReader xc_InvalidReader xt_InvalidReader xm_NothingToUndo_InvalidReader, kit_rr xq_NothingToUndo_InvalidRooms xc_InvalidRooms xt_InvalidRooms xm_NothingToUndo_InvalidRooms, kit_rr xq_NothingToUndo_InvalidLines xc_InvalidLines xt_InvalidLines xm_NothingToUndo_InvalidLines, kit_rr xq_NothingToUndo_InvalidOrder xc_InvalidOrder xt_InvalidOrder xm_NothingToUndo_InvalidOrder, kit_rr xq_NothingToUndo_InvalidOperation xc_InvalidOperation xt_InvalidOperation xm_NothingToUndo_InvalidOperation, kit_rr xq_NothingToUndo_InvalidName xc_InvalidName xt_InvalidName xm_NothingToUndo_InvalidName, kit_rr xq_NothingToUndo_ParseError xc_ParseError xt_ParseError xm_NothingToUndo_ParseError, trivial⟩,
    rm_NothingToUndo := kit_rr xq_NothingToUndo_RoomError xc_RoomError xt_RoomError xm_NothingToUndo_RoomError,
    fk_InvalidNumber_KeyError := kit_own xf_InvalidNumber_KeyError (by decide +kernel),
    fk_InvalidNumber_IndexError := kit_own xf_InvalidNumber_IndexError (by decide +kernel),
    fk_UnknownName_KeyError := kit_own xf_UnknownName_KeyError (by decide +kernel),
    fk_TooMany_OverflowError := kit_own xf_TooMany_OverflowError (by decide +kernel),
    fk_NothingToUndo_IndexError := kit_own xf_NothingToUndo_IndexError (by decide +kernel),
    fk_NothingToUndo_KeyError := kit_own xf_NothingToUndo_KeyError (by decide +kernel),
    fk_Refused_ArithmeticError := kit_own xf_Refused_ArithmeticError (by decide +kernel),
    fk_NothingToUndo_LookupError := kit_own xf_NothingToUndo_LookupError (by decide +kernel),
    em_InvalidWord_InvalidWord := exm_mk xe_InvalidWord xc_InvalidWord xt_InvalidWord xm_InvalidWord_InvalidWord,
    em_InvalidOperation_InvalidWord := exm_mk xe_InvalidWord xc_InvalidWord xt_InvalidWord xm_InvalidOperation_InvalidWord,
    em_InvalidOperation_InvalidOperation := exm_mk xe_InvalidOperation xc_InvalidOperation xt_InvalidOperation xm_InvalidOperation_InvalidOperation,
    em_InvalidNumber_InvalidWord := exm_mk xe_InvalidWord xc_InvalidWord xt_InvalidWord xm_InvalidNumber_InvalidWord,
    em_InvalidNumber_InvalidOperation := exm_mk xe_InvalidOperation xc_InvalidOperation xt_InvalidOperation xm_InvalidNumber_InvalidOperation,
    em_InvalidNumber_InvalidNumber := exm_mk xe_InvalidNumber xc_InvalidNumber xt_InvalidNumber xm_InvalidNumber_InvalidNumber,
    c__law_two_right := cc26, P__law_two_right := P26, hc__law_two_right := rfl, tb__law_two_right := tb26, nk__law_two_right := nk26,
    c__law_lists_right := cc27, P__law_lists_right := P27, hc__law_lists_right := rfl, tb__law_lists_right := tb27, nk__law_lists_right := nk27,
    c_law := cc28, P_law := P28, hc_law := rfl, tb_law := tb28, nk_law := nk28,
    n_0_1 := ne0_1,
    n_0_2 := ne0_2,
    n_1_2 := ne1_2 }
theorem all_mk {l : PySem.W.OpenLaw} {q : Program} {w : World} {K : PySem.W.Frag} {mg : Str → Option Value} {fa : Addr} {h : Heap} (hfa : mg "law" = some (.ref fa)) (ok : TabsOk q K h) (T : Txt K mg) (hb : ∀ (s : Shared) (v : Value), BindsTo s T.d_law ⟨[v], []⟩ [("script", v)])
    (r26 : ((recsOf q).find? fun e => e.name == ("_law_two_right" : Str)).isSome = true)
    (r27 : ((recsOf q).find? fun e => e.name == ("_law_lists_right" : Str)).isSome = true)
    (r28 : ((recsOf q).find? fun e => e.name == ("law" : Str)).isSome = true) :
    LawAtG l w K CX0 12 63 "script" mg fa h := by
  have e := hfa.symm.trans T.m_law
  cases e
  have cs : ∀ p ∈ T.cs, (PySem.W.CodeHd h p.1 p.2 ∧ h.get? p.2 = some { cls := .none, data := .fields #[] }) ∧ K.lookup p.2 = none := by
    intro p hp
    rcases List.mem_cons.mp hp with rfl | hp
    · exact ⟨ok _ _ _ r26 T.tb__law_two_right, T.nk__law_two_right⟩
    rcases List.mem_cons.mp hp with rfl | hp
    · exact ⟨ok _ _ _ r27 T.tb__law_lists_right, T.nk__law_lists_right⟩
    rcases List.mem_cons.mp hp with rfl | hp
    · exact ⟨ok _ _ _ r28 T.tb_law, T.nk_law⟩
    cases hp
  refine ⟨T.d_law, T.cs, sp_law T, fun p hp => (cs p hp).1.2, fun p hp => (cs p hp).2, fun p hp => (cs p hp).1.1, hb, fun H a ns hl _ ht hS => ⟨a, ns, rfl, hS, by omega, fun p hp => ?_, fun _ => rfl⟩, fun base _ _ TB => ok_law T TB⟩
  rcases List.mem_cons.mp hp with rfl | hp
  · exact TabS.nil (ht _ T.in__law_two_right)
  rcases List.mem_cons.mp hp with rfl | hp
  · exact TabS.nil (ht _ T.in__law_lists_right)
  rcases List.mem_cons.mp hp with rfl | hp
  · exact TabS.nil (ht _ T.in_law)
  cases hp
end K01
open PySem PySem.W PyProof.Rows
set_option maxHeartbeats 0 in
theorem PySem.Challenge.cw_roomlines_k01_errors_and_what_they_keep_holds : PySem.Challenge.rw_roomlines_k01_errors_and_what_they_keep.Holds := by
  w_on; o_law; k_head; (case hw => w_witness2)
  k_fill
  refine RL.walk_ofTG (l := PySem.Challenge.rw_roomlines_k01_errors_and_what_they_keep) (n := 63) (k := 12) (x := "script") (CX := fun _ => L2.CX0) rfl (by decide) rfl ⟨rfl, by decide, by decide⟩ (fun w h Y => PySem.W.km_in_of Y) ?F (fun _ _ _ _ _ h => h)
  case F =>
    intro w mg fa h Y KX G hmg tabs
    refine' K01.all_mk hmg tabs (K01.txt_mk KX G ?a0 ?l0 ?c0 ?k0 ?a1 ?l1 ?c1 ?k1 ?a2 ?l2 ?c2 ?k2 ?a3 ?l3 ?c3 ?k3 ?a4 ?l4 ?c4 ?k4 ?a5 ?l5 ?c5 ?k5 ?a6 ?l6 ?c6 ?k6 ?a7 ?l7 ?c7 ?k7 ?a8 ?l8 ?c8 ?k8 ?a9 ?l9 ?c9 ?k9 ?a10 ?l10 ?c10 ?k10 ?a11 ?l11 ?c11 ?k11 ?a12 ?l12 ?c12 ?k12 ?a13 ?l13 ?c13 ?k13 ?a14 ?l14 ?c14 ?k14 ?a15 ?l15 ?c15 ?k15 ?a16 ?l16 ?c16 ?k16 ?a17 ?l17 ?c17 ?k17 ?a18 ?l18 ?c18 ?k18 ?a19 ?l19 ?c19 ?k19 ?a20 ?l20 ?c20 ?k20 ?a21 ?l21 ?c21 ?k21 ?a22 ?l22 ?c22 ?k22 ?a23 ?l23 ?c23 ?k23 ?a24 ?l24 ?c24 ?k24 ?a25 ?l25 ?c25 ?k25 ?a26 ?l26 ?c26 ?k26 ?a27 ?l27 ?c27 ?k27 ?a28 ?l28 ?c28 ?k28 ?a29 ?l29 ?c29 ?k29 ?g_MAX_LETTERS ?g_MAX_WORD ?g_MOST_SORTED ?g_MOST_LISTED ?g_MOST_PLACED ?z_bool ?z_len ?z_min ?z_max ?z_abs ?z_int ?z_isinstance ?z_tuple ?z_list ?z_all ?z_range ?z_repr ?z_enumerate ?z_sorted ?z_divmod ?z_ValueError ?z_KeyError ?z_IndexError ?z_OverflowError ?z_ArithmeticError ?z_LookupError ?xa_RoomError ?xc_RoomError ?xt_RoomError ?ocn ?oct ?xa_InvalidWord ?xk_InvalidWord ?xe_InvalidWord ?xt_InvalidWord ?xc_InvalidWord ?xhd_InvalidWord ?xga_InvalidWord ?xgg_InvalidWord ?xcl_InvalidWord ?xmo_InvalidWord ?xs_InvalidWord ?xx_InvalidWord ?xa_InvalidHeight ?xk_InvalidHeight ?xe_InvalidHeight ?xt_InvalidHeight ?xc_InvalidHeight ?xhd_InvalidHeight ?xga_InvalidHeight ?xgg_InvalidHeight ?xcl_InvalidHeight ?xmo_InvalidHeight ?xx_InvalidHeight ?xa_InvalidMachine ?xk_InvalidMachine ?xe_InvalidMachine ?xt_InvalidMachine ?xc_InvalidMachine ?xhd_InvalidMachine ?xga_InvalidMachine ?xgg_InvalidMachine ?xcl_InvalidMachine ?xmo_InvalidMachine ?xx_InvalidMachine ?xa_InvalidReader ?xk_InvalidReader ?xe_InvalidReader ?xt_InvalidReader ?xc_InvalidReader ?xhd_InvalidReader ?xga_InvalidReader ?xgg_InvalidReader ?xcl_InvalidReader ?xmo_InvalidReader ?xx_InvalidReader ?xa_InvalidRooms ?xk_InvalidRooms ?xe_InvalidRooms ?xt_InvalidRooms ?xc_InvalidRooms ?xhd_InvalidRooms ?xga_InvalidRooms ?xgg_InvalidRooms ?xcl_InvalidRooms ?xmo_InvalidRooms ?xx_InvalidRooms ?xa_InvalidLines ?xk_InvalidLines ?xe_InvalidLines ?xt_InvalidLines ?xc_InvalidLines ?xhd_InvalidLines ?xga_InvalidLines ?xgg_InvalidLines ?xcl_InvalidLines ?xmo_InvalidLines ?xx_InvalidLines ?xa_InvalidOrder ?xk_InvalidOrder ?xe_InvalidOrder ?xt_InvalidOrder ?xc_InvalidOrder ?xhd_InvalidOrder ?xga_InvalidOrder ?xgg_InvalidOrder ?xcl_InvalidOrder ?xmo_InvalidOrder ?xx_InvalidOrder ?xa_InvalidOperation ?xk_InvalidOperation ?xe_InvalidOperation ?xt_InvalidOperation ?xc_InvalidOperation ?xhd_InvalidOperation ?xga_InvalidOperation ?xgg_InvalidOperation ?xcl_InvalidOperation ?xmo_InvalidOperation ?xs_InvalidOperation ?xx_InvalidOperation ?xa_InvalidName ?xk_InvalidName ?xe_InvalidName ?xt_InvalidName ?xc_InvalidName ?xhd_InvalidName ?xga_InvalidName ?xgg_InvalidName ?xcl_InvalidName ?xmo_InvalidName ?xx_InvalidName ?xa_ParseError ?xk_ParseError ?xe_ParseError ?xt_ParseError ?xc_ParseError ?xhd_ParseError ?xga_ParseError ?xgg_ParseError ?xcl_ParseError ?xmo_ParseError ?xi_ParseError ?xo_ParseError ?xsa_ParseError ?xno_ParseError ?xin_ParseError ?xit_ParseError ?xl_ParseError ?xcc_ParseError ?xa_InvalidNumber ?xk_InvalidNumber ?xe_InvalidNumber ?xt_InvalidNumber ?xc_InvalidNumber ?xhd_InvalidNumber ?xga_InvalidNumber ?xgg_InvalidNumber ?xcl_InvalidNumber ?xmo_InvalidNumber ?xs_InvalidNumber ?xi_InvalidNumber ?xo_InvalidNumber ?xsa_InvalidNumber ?xno_InvalidNumber ?xin_InvalidNumber ?xit_InvalidNumber ?xl_InvalidNumber ?xcc_InvalidNumber ?xa_UnknownName ?xk_UnknownName ?xe_UnknownName ?xt_UnknownName ?xc_UnknownName ?xhd_UnknownName ?xga_UnknownName ?xgg_UnknownName ?xcl_UnknownName ?xmo_UnknownName ?xi_UnknownName ?xo_UnknownName ?xsa_UnknownName ?xno_UnknownName ?xin_UnknownName ?xit_UnknownName ?xl_UnknownName ?xcc_UnknownName ?xa_TooMany ?xk_TooMany ?xe_TooMany ?xt_TooMany ?xc_TooMany ?xhd_TooMany ?xga_TooMany ?xgg_TooMany ?xcl_TooMany ?xmo_TooMany ?xi_TooMany ?xo_TooMany ?xsa_TooMany ?xno_TooMany ?xin_TooMany ?xit_TooMany ?xl_TooMany ?xcc_TooMany ?xa_Refused ?xk_Refused ?xe_Refused ?xt_Refused ?xc_Refused ?xhd_Refused ?xga_Refused ?xgg_Refused ?xcl_Refused ?xmo_Refused ?xi_Refused ?xo_Refused ?xsa_Refused ?xno_Refused ?xin_Refused ?xit_Refused ?xl_Refused ?xcc_Refused ?xa_NothingToUndo ?xk_NothingToUndo ?xe_NothingToUndo ?xt_NothingToUndo ?xc_NothingToUndo ?xhd_NothingToUndo ?xga_NothingToUndo ?xgg_NothingToUndo ?xcl_NothingToUndo ?xmo_NothingToUndo ?xi_NothingToUndo ?xo_NothingToUndo ?xsa_NothingToUndo ?xno_NothingToUndo ?xin_NothingToUndo ?xit_NothingToUndo ?xl_NothingToUndo ?xcc_NothingToUndo ?xm_InvalidWord_InvalidHeight ?xq_InvalidWord_InvalidHeight ?xm_InvalidWord_InvalidMachine ?xq_InvalidWord_InvalidMachine ?xm_InvalidWord_InvalidReader ?xq_InvalidWord_InvalidReader ?xm_InvalidWord_InvalidRooms ?xq_InvalidWord_InvalidRooms ?xm_InvalidWord_InvalidLines ?xq_InvalidWord_InvalidLines ?xm_InvalidWord_InvalidOrder ?xq_InvalidWord_InvalidOrder ?xm_InvalidWord_InvalidOperation ?xq_InvalidWord_InvalidOperation ?xm_InvalidWord_InvalidName ?xq_InvalidWord_InvalidName ?xm_InvalidWord_ParseError ?xq_InvalidWord_ParseError ?xm_InvalidWord_RoomError ?xq_InvalidWord_RoomError ?xv_InvalidWord ?xm_InvalidHeight_InvalidWord ?xq_InvalidHeight_InvalidWord ?xm_InvalidHeight_InvalidMachine ?xq_InvalidHeight_InvalidMachine ?xm_InvalidHeight_InvalidReader ?xq_InvalidHeight_InvalidReader ?xm_InvalidHeight_InvalidRooms ?xq_InvalidHeight_InvalidRooms ?xm_InvalidHeight_InvalidLines ?xq_InvalidHeight_InvalidLines ?xm_InvalidHeight_InvalidOrder ?xq_InvalidHeight_InvalidOrder ?xm_InvalidHeight_InvalidOperation ?xq_InvalidHeight_InvalidOperation ?xm_InvalidHeight_InvalidName ?xq_InvalidHeight_InvalidName ?xm_InvalidHeight_ParseError ?xq_InvalidHeight_ParseError ?xm_InvalidHeight_RoomError ?xq_InvalidHeight_RoomError ?xv_InvalidHeight ?xm_InvalidMachine_InvalidWord ?xq_InvalidMachine_InvalidWord ?xm_InvalidMachine_InvalidHeight ?xq_InvalidMachine_InvalidHeight ?xm_InvalidMachine_InvalidReader ?xq_InvalidMachine_InvalidReader ?xm_InvalidMachine_InvalidRooms ?xq_InvalidMachine_InvalidRooms ?xm_InvalidMachine_InvalidLines ?xq_InvalidMachine_InvalidLines ?xm_InvalidMachine_InvalidOrder ?xq_InvalidMachine_InvalidOrder ?xm_InvalidMachine_InvalidOperation ?xq_InvalidMachine_InvalidOperation ?xm_InvalidMachine_InvalidName ?xq_InvalidMachine_InvalidName ?xm_InvalidMachine_ParseError ?xq_InvalidMachine_ParseError ?xm_InvalidMachine_RoomError ?xq_InvalidMachine_RoomError ?xv_InvalidMachine ?xm_InvalidReader_InvalidWord ?xq_InvalidReader_InvalidWord ?xm_InvalidReader_InvalidHeight ?xq_InvalidReader_InvalidHeight ?xm_InvalidReader_InvalidMachine ?xq_InvalidReader_InvalidMachine ?xm_InvalidReader_InvalidRooms ?xq_InvalidReader_InvalidRooms ?xm_InvalidReader_InvalidLines ?xq_InvalidReader_InvalidLines ?xm_InvalidReader_InvalidOrder ?xq_InvalidReader_InvalidOrder ?xm_InvalidReader_InvalidOperation ?xq_InvalidReader_InvalidOperation ?xm_InvalidReader_InvalidName ?xq_InvalidReader_InvalidName ?xm_InvalidReader_ParseError ?xq_InvalidReader_ParseError ?xm_InvalidReader_RoomError ?xq_InvalidReader_RoomError ?xv_InvalidReader ?xm_InvalidRooms_InvalidWord ?xq_InvalidRooms_InvalidWord ?xm_InvalidRooms_InvalidHeight ?xq_InvalidRooms_InvalidHeight ?xm_InvalidRooms_InvalidMachine ?xq_InvalidRooms_InvalidMachine ?xm_InvalidRooms_InvalidReader ?xq_InvalidRooms_InvalidReader ?xm_InvalidRooms_InvalidLines ?xq_InvalidRooms_InvalidLines ?xm_InvalidRooms_InvalidOrder ?xq_InvalidRooms_InvalidOrder ?xm_InvalidRooms_InvalidOperation ?xq_InvalidRooms_InvalidOperation ?xm_InvalidRooms_InvalidName ?xq_InvalidRooms_InvalidName ?xm_InvalidRooms_ParseError ?xq_InvalidRooms_ParseError ?xm_InvalidRooms_RoomError ?xq_InvalidRooms_RoomError ?xv_InvalidRooms ?xm_InvalidLines_InvalidWord ?xq_InvalidLines_InvalidWord ?xm_InvalidLines_InvalidHeight ?xq_InvalidLines_InvalidHeight ?xm_InvalidLines_InvalidMachine ?xq_InvalidLines_InvalidMachine ?xm_InvalidLines_InvalidReader ?xq_InvalidLines_InvalidReader ?xm_InvalidLines_InvalidRooms ?xq_InvalidLines_InvalidRooms ?xm_InvalidLines_InvalidOrder ?xq_InvalidLines_InvalidOrder ?xm_InvalidLines_InvalidOperation ?xq_InvalidLines_InvalidOperation ?xm_InvalidLines_InvalidName ?xq_InvalidLines_InvalidName ?xm_InvalidLines_ParseError ?xq_InvalidLines_ParseError ?xm_InvalidLines_RoomError ?xq_InvalidLines_RoomError ?xv_InvalidLines ?xm_InvalidOrder_InvalidWord ?xq_InvalidOrder_InvalidWord ?xm_InvalidOrder_InvalidHeight ?xq_InvalidOrder_InvalidHeight ?xm_InvalidOrder_InvalidMachine ?xq_InvalidOrder_InvalidMachine ?xm_InvalidOrder_InvalidReader ?xq_InvalidOrder_InvalidReader ?xm_InvalidOrder_InvalidRooms ?xq_InvalidOrder_InvalidRooms ?xm_InvalidOrder_InvalidLines ?xq_InvalidOrder_InvalidLines ?xm_InvalidOrder_InvalidOperation ?xq_InvalidOrder_InvalidOperation ?xm_InvalidOrder_InvalidName ?xq_InvalidOrder_InvalidName ?xm_InvalidOrder_ParseError ?xq_InvalidOrder_ParseError ?xm_InvalidOrder_RoomError ?xq_InvalidOrder_RoomError ?xv_InvalidOrder ?xm_InvalidOperation_InvalidWord ?xq_InvalidOperation_InvalidWord ?xm_InvalidOperation_InvalidHeight ?xq_InvalidOperation_InvalidHeight ?xm_InvalidOperation_InvalidMachine ?xq_InvalidOperation_InvalidMachine ?xm_InvalidOperation_InvalidReader ?xq_InvalidOperation_InvalidReader ?xm_InvalidOperation_InvalidRooms ?xq_InvalidOperation_InvalidRooms ?xm_InvalidOperation_InvalidLines ?xq_InvalidOperation_InvalidLines ?xm_InvalidOperation_InvalidOrder ?xq_InvalidOperation_InvalidOrder ?xm_InvalidOperation_InvalidName ?xq_InvalidOperation_InvalidName ?xm_InvalidOperation_ParseError ?xq_InvalidOperation_ParseError ?xm_InvalidOperation_RoomError ?xq_InvalidOperation_RoomError ?xv_InvalidOperation ?xm_InvalidName_InvalidWord ?xq_InvalidName_InvalidWord ?xm_InvalidName_InvalidHeight ?xq_InvalidName_InvalidHeight ?xm_InvalidName_InvalidMachine ?xq_InvalidName_InvalidMachine ?xm_InvalidName_InvalidReader ?xq_InvalidName_InvalidReader ?xm_InvalidName_InvalidRooms ?xq_InvalidName_InvalidRooms ?xm_InvalidName_InvalidLines ?xq_InvalidName_InvalidLines ?xm_InvalidName_InvalidOrder ?xq_InvalidName_InvalidOrder ?xm_InvalidName_InvalidOperation ?xq_InvalidName_InvalidOperation ?xm_InvalidName_ParseError ?xq_InvalidName_ParseError ?xm_InvalidName_RoomError ?xq_InvalidName_RoomError ?xv_InvalidName ?xm_ParseError_InvalidWord ?xq_ParseError_InvalidWord ?xm_ParseError_InvalidHeight ?xq_ParseError_InvalidHeight ?xm_ParseError_InvalidMachine ?xq_ParseError_InvalidMachine ?xm_ParseError_InvalidReader ?xq_ParseError_InvalidReader ?xm_ParseError_InvalidRooms ?xq_ParseError_InvalidRooms ?xm_ParseError_InvalidLines ?xq_ParseError_InvalidLines ?xm_ParseError_InvalidOrder ?xq_ParseError_InvalidOrder ?xm_ParseError_InvalidOperation ?xq_ParseError_InvalidOperation ?xm_ParseError_InvalidName ?xq_ParseError_InvalidName ?xm_ParseError_RoomError ?xq_ParseError_RoomError ?xv_ParseError ?xm_InvalidNumber_InvalidWord ?xq_InvalidNumber_InvalidWord ?xm_InvalidNumber_InvalidHeight ?xq_InvalidNumber_InvalidHeight ?xm_InvalidNumber_InvalidMachine ?xq_InvalidNumber_InvalidMachine ?xm_InvalidNumber_InvalidReader ?xq_InvalidNumber_InvalidReader ?xm_InvalidNumber_InvalidRooms ?xq_InvalidNumber_InvalidRooms ?xm_InvalidNumber_InvalidLines ?xq_InvalidNumber_InvalidLines ?xm_InvalidNumber_InvalidOrder ?xq_InvalidNumber_InvalidOrder ?xm_InvalidNumber_InvalidOperation ?xq_InvalidNumber_InvalidOperation ?xm_InvalidNumber_InvalidName ?xq_InvalidNumber_InvalidName ?xm_InvalidNumber_ParseError ?xq_InvalidNumber_ParseError ?xm_InvalidNumber_RoomError ?xq_InvalidNumber_RoomError ?xm_UnknownName_InvalidWord ?xq_UnknownName_InvalidWord ?xm_UnknownName_InvalidHeight ?xq_UnknownName_InvalidHeight ?xm_UnknownName_InvalidMachine ?xq_UnknownName_InvalidMachine ?xm_UnknownName_InvalidReader ?xq_UnknownName_InvalidReader ?xm_UnknownName_InvalidRooms ?xq_UnknownName_InvalidRooms ?xm_UnknownName_InvalidLines ?xq_UnknownName_InvalidLines ?xm_UnknownName_InvalidOrder ?xq_UnknownName_InvalidOrder ?xm_UnknownName_InvalidOperation ?xq_UnknownName_InvalidOperation ?xm_UnknownName_InvalidName ?xq_UnknownName_InvalidName ?xm_UnknownName_ParseError ?xq_UnknownName_ParseError ?xm_UnknownName_RoomError ?xq_UnknownName_RoomError ?xm_TooMany_InvalidWord ?xq_TooMany_InvalidWord ?xm_TooMany_InvalidHeight ?xq_TooMany_InvalidHeight ?xm_TooMany_InvalidMachine ?xq_TooMany_InvalidMachine ?xm_TooMany_InvalidReader ?xq_TooMany_InvalidReader ?xm_TooMany_InvalidRooms ?xq_TooMany_InvalidRooms ?xm_TooMany_InvalidLines ?xq_TooMany_InvalidLines ?xm_TooMany_InvalidOrder ?xq_TooMany_InvalidOrder ?xm_TooMany_InvalidOperation ?xq_TooMany_InvalidOperation ?xm_TooMany_InvalidName ?xq_TooMany_InvalidName ?xm_TooMany_ParseError ?xq_TooMany_ParseError ?xm_TooMany_RoomError ?xq_TooMany_RoomError ?xm_Refused_InvalidWord ?xq_Refused_InvalidWord ?xm_Refused_InvalidHeight ?xq_Refused_InvalidHeight ?xm_Refused_InvalidMachine ?xq_Refused_InvalidMachine ?xm_Refused_InvalidReader ?xq_Refused_InvalidReader ?xm_Refused_InvalidRooms ?xq_Refused_InvalidRooms ?xm_Refused_InvalidLines ?xq_Refused_InvalidLines ?xm_Refused_InvalidOrder ?xq_Refused_InvalidOrder ?xm_Refused_InvalidOperation ?xq_Refused_InvalidOperation ?xm_Refused_InvalidName ?xq_Refused_InvalidName ?xm_Refused_ParseError ?xq_Refused_ParseError ?xm_Refused_RoomError ?xq_Refused_RoomError ?xm_NothingToUndo_InvalidWord ?xq_NothingToUndo_InvalidWord ?xm_NothingToUndo_InvalidHeight ?xq_NothingToUndo_InvalidHeight ?xm_NothingToUndo_InvalidMachine ?xq_NothingToUndo_InvalidMachine ?xm_NothingToUndo_InvalidReader ?xq_NothingToUndo_InvalidReader ?xm_NothingToUndo_InvalidRooms ?xq_NothingToUndo_InvalidRooms ?xm_NothingToUndo_InvalidLines ?xq_NothingToUndo_InvalidLines ?xm_NothingToUndo_InvalidOrder ?xq_NothingToUndo_InvalidOrder ?xm_NothingToUndo_InvalidOperation ?xq_NothingToUndo_InvalidOperation ?xm_NothingToUndo_InvalidName ?xq_NothingToUndo_InvalidName ?xm_NothingToUndo_ParseError ?xq_NothingToUndo_ParseError ?xm_NothingToUndo_RoomError ?xq_NothingToUndo_RoomError ?xf_InvalidNumber_KeyError ?xf_InvalidNumber_IndexError ?xf_UnknownName_KeyError ?xf_TooMany_OverflowError ?xf_NothingToUndo_IndexError ?xf_NothingToUndo_KeyError ?xf_Refused_ArithmeticError ?xf_NothingToUndo_LookupError ?xm_InvalidWord_InvalidWord ?xm_InvalidOperation_InvalidOperation ?xm_InvalidNumber_InvalidNumber ?tb26 ?nk26 ?tb27 ?nk27 ?tb28 ?nk28 ?ne0_1 ?ne0_2 ?ne1_2) ?hb ?r26 ?r27 ?r28
    (case a0 => k_is)
    (case l0 => k_is)
    (case c0 => k_is)
    (case k0 => k_is)
    (case a1 => k_is)
    (case l1 => k_is)
    (case c1 => k_is)
    (case k1 => k_is)
    (case a2 => k_is)
    (case l2 => k_is)
    (case c2 => k_is)
    (case k2 => k_is)
    (case a3 => k_is)
    (case l3 => k_is)
    (case c3 => k_is)
    (case k3 => k_is)
    (case a4 => k_is)
    (case l4 => k_is)
    (case c4 => k_is)
    (case k4 => k_is)
    (case a5 => k_is)
    (case l5 => k_is)
    (case c5 => k_is)
    (case k5 => k_is)
    (case a6 => k_is)
    (case l6 => k_is)
    (case c6 => k_is)
    (case k6 => k_is)
    (case a7 => k_is)
    (case l7 => k_is)
    (case c7 => k_is)
    (case k7 => k_is)
    (case a8 => k_is)
    (case l8 => k_is)
    (case c8 => k_is)
    (case k8 => k_is)
    (case a9 => k_is)
    (case l9 => k_is)
    (case c9 => k_is)
    (case k9 => k_is)
    (case a10 => k_is)
    (case l10 => k_is)
    (case c10 => k_is)
    (case k10 => k_is)
    (case a11 => k_is)
    (case l11 => k_is)
    (case c11 => k_is)
    (case k11 => k_is)
    (case a12 => k_is)
    (case l12 => k_is)
    (case c12 => k_is)
    (case k12 => k_is)
    (case a13 => k_is)
    (case l13 => k_is)
    (case c13 => k_is)
    (case k13 => k_is)
    (case a14 => k_is)
    (case l14 => k_is)
    (case c14 => k_is)
    (case k14 => k_is)
    (case a15 => k_is)
    (case l15 => k_is)
    (case c15 => k_is)
    (case k15 => k_is)
    (case a16 => k_is)
    (case l16 => k_is)
    (case c16 => k_is)
    (case k16 => k_is)
    (case a17 => k_is)
    (case l17 => k_is)
    (case c17 => k_is)
    (case k17 => k_is)
    (case a18 => k_is)
    (case l18 => k_is)
    (case c18 => k_is)
    (case k18 => k_is)
    (case a19 => k_is)
    (case l19 => k_is)
    (case c19 => k_is)
    (case k19 => k_is)
    (case a20 => k_is)
    (case l20 => k_is)
    (case c20 => k_is)
    (case k20 => k_is)
    (case a21 => k_is)
    (case l21 => k_is)
    (case c21 => k_is)
    (case k21 => k_is)
    (case a22 => k_is)
    (case l22 => k_is)
    (case c22 => k_is)
    (case k22 => k_is)
    (case a23 => k_is)
    (case l23 => k_is)
    (case c23 => k_is)
    (case k23 => k_is)
    (case a24 => k_is)
    (case l24 => k_is)
    (case c24 => k_is)
    (case k24 => k_is)
    (case a25 => k_is)
    (case l25 => k_is)
    (case c25 => k_is)
    (case k25 => k_is)
    (case a26 => k_is)
    (case l26 => k_is)
    (case c26 => k_is)
    (case k26 => k_is)
    (case a27 => k_is)
    (case l27 => k_is)
    (case c27 => k_is)
    (case k27 => k_is)
    (case a28 => k_is)
    (case l28 => k_is)
    (case c28 => k_is)
    (case k28 => k_is)
    (case a29 => k_is)
    (case l29 => k_is)
    (case c29 => k_is)
    (case k29 => k_is)
    (case g_MAX_LETTERS => k_is)
    (case g_MAX_WORD => k_is)
    (case g_MOST_SORTED => k_is)
    (case g_MOST_LISTED => k_is)
    (case g_MOST_PLACED => k_is)
    (case z_bool => k_is)
    (case z_len => k_is)
    (case z_min => k_is)
    (case z_max => k_is)
    (case z_abs => k_is)
    (case z_int => k_is)
    (case z_isinstance => k_is)
    (case z_tuple => k_is)
    (case z_list => k_is)
    (case z_all => k_is)
    (case z_range => k_is)
    (case z_repr => k_is)
    (case z_enumerate => k_is)
    (case z_sorted => k_is)
    (case z_divmod => k_is)
    (case z_ValueError => k_is)
    (case z_KeyError => k_is)
    (case z_IndexError => k_is)
    (case z_OverflowError => k_is)
    (case z_ArithmeticError => k_is)
    (case z_LookupError => k_is)
    (case xa_RoomError => k_is)
    (case xc_RoomError => k_is)
    (case xt_RoomError => k_is)
    (case ocn => k_is)
    (case oct => k_is)
    (case xa_InvalidWord => k_is)
    (case xk_InvalidWord => k_is)
    (case xe_InvalidWord => k_is)
    (case xt_InvalidWord => k_is)
    (case xc_InvalidWord => k_is)
    (case xhd_InvalidWord => k_is)
    (case xga_InvalidWord => k_is)
    (case xgg_InvalidWord => k_is)
    (case xcl_InvalidWord => k_is)
    (case xmo_InvalidWord => k_is)
    (case xs_InvalidWord => k_is)
    (case xx_InvalidWord => k_exc)
    (case xa_InvalidHeight => k_is)
    (case xk_InvalidHeight => k_is)
    (case xe_InvalidHeight => k_is)
    (case xt_InvalidHeight => k_is)
    (case xc_InvalidHeight => k_is)
    (case xhd_InvalidHeight => k_is)
    (case xga_InvalidHeight => k_is)
    (case xgg_InvalidHeight => k_is)
    (case xcl_InvalidHeight => k_is)
    (case xmo_InvalidHeight => k_is)
    (case xx_InvalidHeight => k_exc)
    (case xa_InvalidMachine => k_is)
    (case xk_InvalidMachine => k_is)
    (case xe_InvalidMachine => k_is)
    (case xt_InvalidMachine => k_is)
    (case xc_InvalidMachine => k_is)
    (case xhd_InvalidMachine => k_is)
    (case xga_InvalidMachine => k_is)
    (case xgg_InvalidMachine => k_is)
    (case xcl_InvalidMachine => k_is)
    (case xmo_InvalidMachine => k_is)
    (case xx_InvalidMachine => k_exc)
    (case xa_InvalidReader => k_is)
    (case xk_InvalidReader => k_is)
    (case xe_InvalidReader => k_is)
    (case xt_InvalidReader => k_is)
    (case xc_InvalidReader => k_is)
    (case xhd_InvalidReader => k_is)
    (case xga_InvalidReader => k_is)
    (case xgg_InvalidReader => k_is)
    (case xcl_InvalidReader => k_is)
    (case xmo_InvalidReader => k_is)
    (case xx_InvalidReader => k_exc)
    (case xa_InvalidRooms => k_is)
    (case xk_InvalidRooms => k_is)
    (case xe_InvalidRooms => k_is)
    (case xt_InvalidRooms => k_is)
    (case xc_InvalidRooms => k_is)
    (case xhd_InvalidRooms => k_is)
    (case xga_InvalidRooms => k_is)
    (case xgg_InvalidRooms => k_is)
    (case xcl_InvalidRooms => k_is)
    (case xmo_InvalidRooms => k_is)
    (case xx_InvalidRooms => k_exc)
    (case xa_InvalidLines => k_is)
    (case xk_InvalidLines => k_is)
    (case xe_InvalidLines => k_is)
    (case xt_InvalidLines => k_is)
    (case xc_InvalidLines => k_is)
    (case xhd_InvalidLines => k_is)
    (case xga_InvalidLines => k_is)
    (case xgg_InvalidLines => k_is)
    (case xcl_InvalidLines => k_is)
    (case xmo_InvalidLines => k_is)
    (case xx_InvalidLines => k_exc)
    (case xa_InvalidOrder => k_is)
    (case xk_InvalidOrder => k_is)
    (case xe_InvalidOrder => k_is)
    (case xt_InvalidOrder => k_is)
    (case xc_InvalidOrder => k_is)
    (case xhd_InvalidOrder => k_is)
    (case xga_InvalidOrder => k_is)
    (case xgg_InvalidOrder => k_is)
    (case xcl_InvalidOrder => k_is)
    (case xmo_InvalidOrder => k_is)
    (case xx_InvalidOrder => k_exc)
    (case xa_InvalidOperation => k_is)
    (case xk_InvalidOperation => k_is)
    (case xe_InvalidOperation => k_is)
    (case xt_InvalidOperation => k_is)
    (case xc_InvalidOperation => k_is)
    (case xhd_InvalidOperation => k_is)
    (case xga_InvalidOperation => k_is)
    (case xgg_InvalidOperation => k_is)
    (case xcl_InvalidOperation => k_is)
    (case xmo_InvalidOperation => k_is)
    (case xs_InvalidOperation => k_is)
    (case xx_InvalidOperation => k_exc)
    (case xa_InvalidName => k_is)
    (case xk_InvalidName => k_is)
    (case xe_InvalidName => k_is)
    (case xt_InvalidName => k_is)
    (case xc_InvalidName => k_is)
    (case xhd_InvalidName => k_is)
    (case xga_InvalidName => k_is)
    (case xgg_InvalidName => k_is)
    (case xcl_InvalidName => k_is)
    (case xmo_InvalidName => k_is)
    (case xx_InvalidName => k_exc)
    (case xa_ParseError => k_is)
    (case xk_ParseError => k_is)
    (case xe_ParseError => k_is)
    (case xt_ParseError => k_is)
    (case xc_ParseError => k_is)
    (case xhd_ParseError => k_is)
    (case xga_ParseError => k_is)
    (case xgg_ParseError => k_is)
    (case xcl_ParseError => k_is)
    (case xmo_ParseError => k_is)
    (case xi_ParseError => kx_is)
    (case xo_ParseError => kx_is)
    (case xsa_ParseError => k_is)
    (case xno_ParseError => k_is)
    (case xin_ParseError => k_is)
    (case xit_ParseError => k_is)
    (case xl_ParseError => k_is)
    (case xcc_ParseError => k_is)
    (case xa_InvalidNumber => k_is)
    (case xk_InvalidNumber => k_is)
    (case xe_InvalidNumber => k_is)
    (case xt_InvalidNumber => k_is)
    (case xc_InvalidNumber => k_is)
    (case xhd_InvalidNumber => k_is)
    (case xga_InvalidNumber => k_is)
    (case xgg_InvalidNumber => k_is)
    (case xcl_InvalidNumber => k_is)
    (case xmo_InvalidNumber => k_is)
    (case xs_InvalidNumber => k_is)
    (case xi_InvalidNumber => kx_is)
    (case xo_InvalidNumber => kx_is)
    (case xsa_InvalidNumber => k_is)
    (case xno_InvalidNumber => k_is)
    (case xin_InvalidNumber => k_is)
    (case xit_InvalidNumber => k_is)
    (case xl_InvalidNumber => k_is)
    (case xcc_InvalidNumber => k_is)
    (case xa_UnknownName => k_is)
    (case xk_UnknownName => k_is)
    (case xe_UnknownName => k_is)
    (case xt_UnknownName => k_is)
    (case xc_UnknownName => k_is)
    (case xhd_UnknownName => k_is)
    (case xga_UnknownName => k_is)
    (case xgg_UnknownName => k_is)
    (case xcl_UnknownName => k_is)
    (case xmo_UnknownName => k_is)
    (case xi_UnknownName => kx_is)
    (case xo_UnknownName => kx_is)
    (case xsa_UnknownName => k_is)
    (case xno_UnknownName => k_is)
    (case xin_UnknownName => k_is)
    (case xit_UnknownName => k_is)
    (case xl_UnknownName => k_is)
    (case xcc_UnknownName => k_is)
    (case xa_TooMany => k_is)
    (case xk_TooMany => k_is)
    (case xe_TooMany => k_is)
    (case xt_TooMany => k_is)
    (case xc_TooMany => k_is)
    (case xhd_TooMany => k_is)
    (case xga_TooMany => k_is)
    (case xgg_TooMany => k_is)
    (case xcl_TooMany => k_is)
    (case xmo_TooMany => k_is)
    (case xi_TooMany => kx_is)
    (case xo_TooMany => kx_is)
    (case xsa_TooMany => k_is)
    (case xno_TooMany => k_is)
    (case xin_TooMany => k_is)
    (case xit_TooMany => k_is)
    (case xl_TooMany => k_is)
    (case xcc_TooMany => k_is)
    (case xa_Refused => k_is)
    (case xk_Refused => k_is)
    (case xe_Refused => k_is)
    (case xt_Refused => k_is)
    (case xc_Refused => k_is)
    (case xhd_Refused => k_is)
    (case xga_Refused => k_is)
    (case xgg_Refused => k_is)
    (case xcl_Refused => k_is)
    (case xmo_Refused => k_is)
    (case xi_Refused => kx_is)
    (case xo_Refused => kx_is)
    (case xsa_Refused => k_is)
    (case xno_Refused => k_is)
    (case xin_Refused => k_is)
    (case xit_Refused => k_is)
    (case xl_Refused => k_is)
    (case xcc_Refused => k_is)
    (case xa_NothingToUndo => k_is)
    (case xk_NothingToUndo => k_is)
    (case xe_NothingToUndo => k_is)
    (case xt_NothingToUndo => k_is)
    (case xc_NothingToUndo => k_is)
    (case xhd_NothingToUndo => k_is)
    (case xga_NothingToUndo => k_is)
    (case xgg_NothingToUndo => k_is)
    (case xcl_NothingToUndo => k_is)
    (case xmo_NothingToUndo => k_is)
    (case xi_NothingToUndo => kx_is)
    (case xo_NothingToUndo => kx_is)
    (case xsa_NothingToUndo => k_is)
    (case xno_NothingToUndo => k_is)
    (case xin_NothingToUndo => k_is)
    (case xit_NothingToUndo => k_is)
    (case xl_NothingToUndo => k_is)
    (case xcc_NothingToUndo => k_is)
    (case xm_InvalidWord_InvalidHeight => first | k_is | rfl)
    (case xq_InvalidWord_InvalidHeight => decide)
    (case xm_InvalidWord_InvalidMachine => first | k_is | rfl)
    (case xq_InvalidWord_InvalidMachine => decide)
    (case xm_InvalidWord_InvalidReader => first | k_is | rfl)
    (case xq_InvalidWord_InvalidReader => decide)
    (case xm_InvalidWord_InvalidRooms => first | k_is | rfl)
    (case xq_InvalidWord_InvalidRooms => decide)
    (case xm_InvalidWord_InvalidLines => first | k_is | rfl)
    (case xq_InvalidWord_InvalidLines => decide)
    (case xm_InvalidWord_InvalidOrder => first | k_is | rfl)
    (case xq_InvalidWord_InvalidOrder => decide)
    (case xm_InvalidWord_InvalidOperation => first | k_is | rfl)
    (case xq_InvalidWord_InvalidOperation => decide)
    (case xm_InvalidWord_InvalidName => first | k_is | rfl)
    (case xq_InvalidWord_InvalidName => decide)
    (case xm_InvalidWord_ParseError => first | k_is | rfl)
    (case xq_InvalidWord_ParseError => decide)
    (case xm_InvalidWord_RoomError => first | k_is | rfl)
    (case xq_InvalidWord_RoomError => decide)
    (case xv_InvalidWord => k_is)
    (case xm_InvalidHeight_InvalidWord => first | k_is | rfl)
    (case xq_InvalidHeight_InvalidWord => decide)
    (case xm_InvalidHeight_InvalidMachine => first | k_is | rfl)
    (case xq_InvalidHeight_InvalidMachine => decide)
    (case xm_InvalidHeight_InvalidReader => first | k_is | rfl)
    (case xq_InvalidHeight_InvalidReader => decide)
    (case xm_InvalidHeight_InvalidRooms => first | k_is | rfl)
    (case xq_InvalidHeight_InvalidRooms => decide)
    (case xm_InvalidHeight_InvalidLines => first | k_is | rfl)
    (case xq_InvalidHeight_InvalidLines => decide)
    (case xm_InvalidHeight_InvalidOrder => first | k_is | rfl)
    (case xq_InvalidHeight_InvalidOrder => decide)
    (case xm_InvalidHeight_InvalidOperation => first | k_is | rfl)
    (case xq_InvalidHeight_InvalidOperation => decide)
    (case xm_InvalidHeight_InvalidName => first | k_is | rfl)
    (case xq_InvalidHeight_InvalidName => decide)
    (case xm_InvalidHeight_ParseError => first | k_is | rfl)
    (case xq_InvalidHeight_ParseError => decide)
    (case xm_InvalidHeight_RoomError => first | k_is | rfl)
    (case xq_InvalidHeight_RoomError => decide)
    (case xv_InvalidHeight => k_is)
    (case xm_InvalidMachine_InvalidWord => first | k_is | rfl)
    (case xq_InvalidMachine_InvalidWord => decide)
    (case xm_InvalidMachine_InvalidHeight => first | k_is | rfl)
    (case xq_InvalidMachine_InvalidHeight => decide)
    (case xm_InvalidMachine_InvalidReader => first | k_is | rfl)
    (case xq_InvalidMachine_InvalidReader => decide)
    (case xm_InvalidMachine_InvalidRooms => first | k_is | rfl)
    (case xq_InvalidMachine_InvalidRooms => decide)
    (case xm_InvalidMachine_InvalidLines => first | k_is | rfl)
    (case xq_InvalidMachine_InvalidLines => decide)
    (case xm_InvalidMachine_InvalidOrder => first | k_is | rfl)
    (case xq_InvalidMachine_InvalidOrder => decide)
    (case xm_InvalidMachine_InvalidOperation => first | k_is | rfl)
    (case xq_InvalidMachine_InvalidOperation => decide)
    (case xm_InvalidMachine_InvalidName => first | k_is | rfl)
    (case xq_InvalidMachine_InvalidName => decide)
    (case xm_InvalidMachine_ParseError => first | k_is | rfl)
    (case xq_InvalidMachine_ParseError => decide)
    (case xm_InvalidMachine_RoomError => first | k_is | rfl)
    (case xq_InvalidMachine_RoomError => decide)
    (case xv_InvalidMachine => k_is)
    (case xm_InvalidReader_InvalidWord => first | k_is | rfl)
    (case xq_InvalidReader_InvalidWord => decide)
    (case xm_InvalidReader_InvalidHeight => first | k_is | rfl)
    (case xq_InvalidReader_InvalidHeight => decide)
    (case xm_InvalidReader_InvalidMachine => first | k_is | rfl)
    (case xq_InvalidReader_InvalidMachine => decide)
    (case xm_InvalidReader_InvalidRooms => first | k_is | rfl)
    (case xq_InvalidReader_InvalidRooms => decide)
    (case xm_InvalidReader_InvalidLines => first | k_is | rfl)
    (case xq_InvalidReader_InvalidLines => decide)
    (case xm_InvalidReader_InvalidOrder => first | k_is | rfl)
    (case xq_InvalidReader_InvalidOrder => decide)
    (case xm_InvalidReader_InvalidOperation => first | k_is | rfl)
    (case xq_InvalidReader_InvalidOperation => decide)
    (case xm_InvalidReader_InvalidName => first | k_is | rfl)
    (case xq_InvalidReader_InvalidName => decide)
    (case xm_InvalidReader_ParseError => first | k_is | rfl)
    (case xq_InvalidReader_ParseError => decide)
    (case xm_InvalidReader_RoomError => first | k_is | rfl)
    (case xq_InvalidReader_RoomError => decide)
    (case xv_InvalidReader => k_is)
    (case xm_InvalidRooms_InvalidWord => first | k_is | rfl)
    (case xq_InvalidRooms_InvalidWord => decide)
    (case xm_InvalidRooms_InvalidHeight => first | k_is | rfl)
    (case xq_InvalidRooms_InvalidHeight => decide)
    (case xm_InvalidRooms_InvalidMachine => first | k_is | rfl)
    (case xq_InvalidRooms_InvalidMachine => decide)
    (case xm_InvalidRooms_InvalidReader => first | k_is | rfl)
    (case xq_InvalidRooms_InvalidReader => decide)
    (case xm_InvalidRooms_InvalidLines => first | k_is | rfl)
    (case xq_InvalidRooms_InvalidLines => decide)
    (case xm_InvalidRooms_InvalidOrder => first | k_is | rfl)
    (case xq_InvalidRooms_InvalidOrder => decide)
    (case xm_InvalidRooms_InvalidOperation => first | k_is | rfl)
    (case xq_InvalidRooms_InvalidOperation => decide)
    (case xm_InvalidRooms_InvalidName => first | k_is | rfl)
    (case xq_InvalidRooms_InvalidName => decide)
    (case xm_InvalidRooms_ParseError => first | k_is | rfl)
    (case xq_InvalidRooms_ParseError => decide)
    (case xm_InvalidRooms_RoomError => first | k_is | rfl)
    (case xq_InvalidRooms_RoomError => decide)
    (case xv_InvalidRooms => k_is)
    (case xm_InvalidLines_InvalidWord => first | k_is | rfl)
    (case xq_InvalidLines_InvalidWord => decide)
    (case xm_InvalidLines_InvalidHeight => first | k_is | rfl)
    (case xq_InvalidLines_InvalidHeight => decide)
    (case xm_InvalidLines_InvalidMachine => first | k_is | rfl)
    (case xq_InvalidLines_InvalidMachine => decide)
    (case xm_InvalidLines_InvalidReader => first | k_is | rfl)
    (case xq_InvalidLines_InvalidReader => decide)
    (case xm_InvalidLines_InvalidRooms => first | k_is | rfl)
    (case xq_InvalidLines_InvalidRooms => decide)
    (case xm_InvalidLines_InvalidOrder => first | k_is | rfl)
    (case xq_InvalidLines_InvalidOrder => decide)
    (case xm_InvalidLines_InvalidOperation => first | k_is | rfl)
    (case xq_InvalidLines_InvalidOperation => decide)
    (case xm_InvalidLines_InvalidName => first | k_is | rfl)
    (case xq_InvalidLines_InvalidName => decide)
    (case xm_InvalidLines_ParseError => first | k_is | rfl)
    (case xq_InvalidLines_ParseError => decide)
    (case xm_InvalidLines_RoomError => first | k_is | rfl)
    (case xq_InvalidLines_RoomError => decide)
    (case xv_InvalidLines => k_is)
    (case xm_InvalidOrder_InvalidWord => first | k_is | rfl)
    (case xq_InvalidOrder_InvalidWord => decide)
    (case xm_InvalidOrder_InvalidHeight => first | k_is | rfl)
    (case xq_InvalidOrder_InvalidHeight => decide)
    (case xm_InvalidOrder_InvalidMachine => first | k_is | rfl)
    (case xq_InvalidOrder_InvalidMachine => decide)
    (case xm_InvalidOrder_InvalidReader => first | k_is | rfl)
    (case xq_InvalidOrder_InvalidReader => decide)
    (case xm_InvalidOrder_InvalidRooms => first | k_is | rfl)
    (case xq_InvalidOrder_InvalidRooms => decide)
    (case xm_InvalidOrder_InvalidLines => first | k_is | rfl)
    (case xq_InvalidOrder_InvalidLines => decide)
    (case xm_InvalidOrder_InvalidOperation => first | k_is | rfl)
    (case xq_InvalidOrder_InvalidOperation => decide)
    (case xm_InvalidOrder_InvalidName => first | k_is | rfl)
    (case xq_InvalidOrder_InvalidName => decide)
    (case xm_InvalidOrder_ParseError => first | k_is | rfl)
    (case xq_InvalidOrder_ParseError => decide)
    (case xm_InvalidOrder_RoomError => first | k_is | rfl)
    (case xq_InvalidOrder_RoomError => decide)
    (case xv_InvalidOrder => k_is)
    (case xm_InvalidOperation_InvalidWord => first | k_is | rfl)
    (case xq_InvalidOperation_InvalidWord => decide)
    (case xm_InvalidOperation_InvalidHeight => first | k_is | rfl)
    (case xq_InvalidOperation_InvalidHeight => decide)
    (case xm_InvalidOperation_InvalidMachine => first | k_is | rfl)
    (case xq_InvalidOperation_InvalidMachine => decide)
    (case xm_InvalidOperation_InvalidReader => first | k_is | rfl)
    (case xq_InvalidOperation_InvalidReader => decide)
    (case xm_InvalidOperation_InvalidRooms => first | k_is | rfl)
    (case xq_InvalidOperation_InvalidRooms => decide)
    (case xm_InvalidOperation_InvalidLines => first | k_is | rfl)
    (case xq_InvalidOperation_InvalidLines => decide)
    (case xm_InvalidOperation_InvalidOrder => first | k_is | rfl)
    (case xq_InvalidOperation_InvalidOrder => decide)
    (case xm_InvalidOperation_InvalidName => first | k_is | rfl)
    (case xq_InvalidOperation_InvalidName => decide)
    (case xm_InvalidOperation_ParseError => first | k_is | rfl)
    (case xq_InvalidOperation_ParseError => decide)
    (case xm_InvalidOperation_RoomError => first | k_is | rfl)
    (case xq_InvalidOperation_RoomError => decide)
    (case xv_InvalidOperation => k_is)
    (case xm_InvalidName_InvalidWord => first | k_is | rfl)
    (case xq_InvalidName_InvalidWord => decide)
    (case xm_InvalidName_InvalidHeight => first | k_is | rfl)
    (case xq_InvalidName_InvalidHeight => decide)
    (case xm_InvalidName_InvalidMachine => first | k_is | rfl)
    (case xq_InvalidName_InvalidMachine => decide)
    (case xm_InvalidName_InvalidReader => first | k_is | rfl)
    (case xq_InvalidName_InvalidReader => decide)
    (case xm_InvalidName_InvalidRooms => first | k_is | rfl)
    (case xq_InvalidName_InvalidRooms => decide)
    (case xm_InvalidName_InvalidLines => first | k_is | rfl)
    (case xq_InvalidName_InvalidLines => decide)
    (case xm_InvalidName_InvalidOrder => first | k_is | rfl)
    (case xq_InvalidName_InvalidOrder => decide)
    (case xm_InvalidName_InvalidOperation => first | k_is | rfl)
    (case xq_InvalidName_InvalidOperation => decide)
    (case xm_InvalidName_ParseError => first | k_is | rfl)
    (case xq_InvalidName_ParseError => decide)
    (case xm_InvalidName_RoomError => first | k_is | rfl)
    (case xq_InvalidName_RoomError => decide)
    (case xv_InvalidName => k_is)
    (case xm_ParseError_InvalidWord => first | k_is | rfl)
    (case xq_ParseError_InvalidWord => decide)
    (case xm_ParseError_InvalidHeight => first | k_is | rfl)
    (case xq_ParseError_InvalidHeight => decide)
    (case xm_ParseError_InvalidMachine => first | k_is | rfl)
    (case xq_ParseError_InvalidMachine => decide)
    (case xm_ParseError_InvalidReader => first | k_is | rfl)
    (case xq_ParseError_InvalidReader => decide)
    (case xm_ParseError_InvalidRooms => first | k_is | rfl)
    (case xq_ParseError_InvalidRooms => decide)
    (case xm_ParseError_InvalidLines => first | k_is | rfl)
    (case xq_ParseError_InvalidLines => decide)
    (case xm_ParseError_InvalidOrder => first | k_is | rfl)
    (case xq_ParseError_InvalidOrder => decide)
    (case xm_ParseError_InvalidOperation => first | k_is | rfl)
    (case xq_ParseError_InvalidOperation => decide)
    (case xm_ParseError_InvalidName => first | k_is | rfl)
    (case xq_ParseError_InvalidName => decide)
    (case xm_ParseError_RoomError => first | k_is | rfl)
    (case xq_ParseError_RoomError => decide)
    (case xv_ParseError => k_is)
    (case xm_InvalidNumber_InvalidWord => first | k_is | rfl)
    (case xq_InvalidNumber_InvalidWord => decide)
    (case xm_InvalidNumber_InvalidHeight => first | k_is | rfl)
    (case xq_InvalidNumber_InvalidHeight => decide)
    (case xm_InvalidNumber_InvalidMachine => first | k_is | rfl)
    (case xq_InvalidNumber_InvalidMachine => decide)
    (case xm_InvalidNumber_InvalidReader => first | k_is | rfl)
    (case xq_InvalidNumber_InvalidReader => decide)
    (case xm_InvalidNumber_InvalidRooms => first | k_is | rfl)
    (case xq_InvalidNumber_InvalidRooms => decide)
    (case xm_InvalidNumber_InvalidLines => first | k_is | rfl)
    (case xq_InvalidNumber_InvalidLines => decide)
    (case xm_InvalidNumber_InvalidOrder => first | k_is | rfl)
    (case xq_InvalidNumber_InvalidOrder => decide)
    (case xm_InvalidNumber_InvalidOperation => first | k_is | rfl)
    (case xq_InvalidNumber_InvalidOperation => decide)
    (case xm_InvalidNumber_InvalidName => first | k_is | rfl)
    (case xq_InvalidNumber_InvalidName => decide)
    (case xm_InvalidNumber_ParseError => first | k_is | rfl)
    (case xq_InvalidNumber_ParseError => decide)
    (case xm_InvalidNumber_RoomError => first | k_is | rfl)
    (case xq_InvalidNumber_RoomError => decide)
    (case xm_UnknownName_InvalidWord => first | k_is | rfl)
    (case xq_UnknownName_InvalidWord => decide)
    (case xm_UnknownName_InvalidHeight => first | k_is | rfl)
    (case xq_UnknownName_InvalidHeight => decide)
    (case xm_UnknownName_InvalidMachine => first | k_is | rfl)
    (case xq_UnknownName_InvalidMachine => decide)
    (case xm_UnknownName_InvalidReader => first | k_is | rfl)
    (case xq_UnknownName_InvalidReader => decide)
    (case xm_UnknownName_InvalidRooms => first | k_is | rfl)
    (case xq_UnknownName_InvalidRooms => decide)
    (case xm_UnknownName_InvalidLines => first | k_is | rfl)
    (case xq_UnknownName_InvalidLines => decide)
    (case xm_UnknownName_InvalidOrder => first | k_is | rfl)
    (case xq_UnknownName_InvalidOrder => decide)
    (case xm_UnknownName_InvalidOperation => first | k_is | rfl)
    (case xq_UnknownName_InvalidOperation => decide)
    (case xm_UnknownName_InvalidName => first | k_is | rfl)
    (case xq_UnknownName_InvalidName => decide)
    (case xm_UnknownName_ParseError => first | k_is | rfl)
    (case xq_UnknownName_ParseError => decide)
    (case xm_UnknownName_RoomError => first | k_is | rfl)
    (case xq_UnknownName_RoomError => decide)
    (case xm_TooMany_InvalidWord => first | k_is | rfl)
    (case xq_TooMany_InvalidWord => decide)
    (case xm_TooMany_InvalidHeight => first | k_is | rfl)
    (case xq_TooMany_InvalidHeight => decide)
    (case xm_TooMany_InvalidMachine => first | k_is | rfl)
    (case xq_TooMany_InvalidMachine => decide)
    (case xm_TooMany_InvalidReader => first | k_is | rfl)
    (case xq_TooMany_InvalidReader => decide)
    (case xm_TooMany_InvalidRooms => first | k_is | rfl)
    (case xq_TooMany_InvalidRooms => decide)
    (case xm_TooMany_InvalidLines => first | k_is | rfl)
    (case xq_TooMany_InvalidLines => decide)
    (case xm_TooMany_InvalidOrder => first | k_is | rfl)
    (case xq_TooMany_InvalidOrder => decide)
    (case xm_TooMany_InvalidOperation => first | k_is | rfl)
    (case xq_TooMany_InvalidOperation => decide)
    (case xm_TooMany_InvalidName => first | k_is | rfl)
    (case xq_TooMany_InvalidName => decide)
    (case xm_TooMany_ParseError => first | k_is | rfl)
    (case xq_TooMany_ParseError => decide)
    (case xm_TooMany_RoomError => first | k_is | rfl)
    (case xq_TooMany_RoomError => decide)
    (case xm_Refused_InvalidWord => first | k_is | rfl)
    (case xq_Refused_InvalidWord => decide)
    (case xm_Refused_InvalidHeight => first | k_is | rfl)
    (case xq_Refused_InvalidHeight => decide)
    (case xm_Refused_InvalidMachine => first | k_is | rfl)
    (case xq_Refused_InvalidMachine => decide)
    (case xm_Refused_InvalidReader => first | k_is | rfl)
    (case xq_Refused_InvalidReader => decide)
    (case xm_Refused_InvalidRooms => first | k_is | rfl)
    (case xq_Refused_InvalidRooms => decide)
    (case xm_Refused_InvalidLines => first | k_is | rfl)
    (case xq_Refused_InvalidLines => decide)
    (case xm_Refused_InvalidOrder => first | k_is | rfl)
    (case xq_Refused_InvalidOrder => decide)
    (case xm_Refused_InvalidOperation => first | k_is | rfl)
    (case xq_Refused_InvalidOperation => decide)
    (case xm_Refused_InvalidName => first | k_is | rfl)
    (case xq_Refused_InvalidName => decide)
    (case xm_Refused_ParseError => first | k_is | rfl)
    (case xq_Refused_ParseError => decide)
    (case xm_Refused_RoomError => first | k_is | rfl)
    (case xq_Refused_RoomError => decide)
    (case xm_NothingToUndo_InvalidWord => first | k_is | rfl)
    (case xq_NothingToUndo_InvalidWord => decide)
    (case xm_NothingToUndo_InvalidHeight => first | k_is | rfl)
    (case xq_NothingToUndo_InvalidHeight => decide)
    (case xm_NothingToUndo_InvalidMachine => first | k_is | rfl)
    (case xq_NothingToUndo_InvalidMachine => decide)
    (case xm_NothingToUndo_InvalidReader => first | k_is | rfl)
    (case xq_NothingToUndo_InvalidReader => decide)
    (case xm_NothingToUndo_InvalidRooms => first | k_is | rfl)
    (case xq_NothingToUndo_InvalidRooms => decide)
    (case xm_NothingToUndo_InvalidLines => first | k_is | rfl)
    (case xq_NothingToUndo_InvalidLines => decide)
    (case xm_NothingToUndo_InvalidOrder => first | k_is | rfl)
    (case xq_NothingToUndo_InvalidOrder => decide)
    (case xm_NothingToUndo_InvalidOperation => first | k_is | rfl)
    (case xq_NothingToUndo_InvalidOperation => decide)
    (case xm_NothingToUndo_InvalidName => first | k_is | rfl)
    (case xq_NothingToUndo_InvalidName => decide)
    (case xm_NothingToUndo_ParseError => first | k_is | rfl)
    (case xq_NothingToUndo_ParseError => decide)
    (case xm_NothingToUndo_RoomError => first | k_is | rfl)
    (case xq_NothingToUndo_RoomError => decide)
    (case xf_InvalidNumber_KeyError => k_is)
    (case xf_InvalidNumber_IndexError => k_is)
    (case xf_UnknownName_KeyError => k_is)
    (case xf_TooMany_OverflowError => k_is)
    (case xf_NothingToUndo_IndexError => k_is)
    (case xf_NothingToUndo_KeyError => k_is)
    (case xf_Refused_ArithmeticError => k_is)
    (case xf_NothingToUndo_LookupError => k_is)
    (case xm_InvalidWord_InvalidWord => first | k_is | rfl)
    (case xm_InvalidOperation_InvalidOperation => first | k_is | rfl)
    (case xm_InvalidNumber_InvalidNumber => first | k_is | rfl)
    (case tb26 => refine' K01.tab_mk ?ta ?tl ?tc ?tk ?tv; (case ta => k_is); (case tl => k_is); (case tc => rfl); (case tk => k_is); (case tv => rfl))
    (case nk26 => first | k_is | rfl)
    (case tb27 => refine' K01.tab_mk ?ta ?tl ?tc ?tk ?tv; (case ta => k_is); (case tl => k_is); (case tc => rfl); (case tk => k_is); (case tv => rfl))
    (case nk27 => first | k_is | rfl)
    (case tb28 => refine' K01.tab_mk ?ta ?tl ?tc ?tk ?tv; (case ta => k_is); (case tl => k_is); (case tc => rfl); (case tk => k_is); (case tv => rfl))
    (case nk28 => first | k_is | rfl)
    (case ne0_1 => decide)
    (case ne0_2 => decide)
    (case ne1_2 => decide)
    (case hb => exact fun s v => .of_eq rfl)
    (case r26 => decide +kernel)
    (case r27 => decide +kernel)
    (case r28 => decide +kernel)
