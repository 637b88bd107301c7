import PyProof.Rows.All
import Wide.All
import OpenK.AllK
import Wide.FinOn
import HandS.ForMost
import HandS.Style
import HandS.TupAny
import HandS.TupMul
import HandS.Zip
import HandS.Wide
import HandS.WideBits
import HandS.IsInst
import HandS.GenYield
import PyProof.Draws
import HandS.SetBool
import HandS.TupSets
import KE.SortData
import KE.LtSeq
import HandS.GenList
import HandS.NoneIn
import KE.IntBitsLaws
import KE.DatumOrd
import PySem.Challenge.RW_roomlines_k00_whole_words_in_order
/-! S1 -/
set_option Elab.async false
set_option linter.all false
set_option maxRecDepth 100000
set_option maxHeartbeats 2000000
namespace HT
open PySem PySem.Spec PyProof.Rows
section
variable {prog : Program} {w : World} {A : Around} {E : Value → Shared → Prop} {s : Shared}
theorem rev_pick (items : Array Value) : ((List.range items.size).filterMap fun (k : Nat) => items[(((items.size : Int) - 1) + (k : Int) * (-1)).toNat]?).toArray = items.toList.reverse.toArray := by
  have h := PySem.W.krv_pick items
  unfold slicePick at h
  rw [PySem.W.krv_bounds] at h
  rw [← h]
  show _ = ((sliceRange ((items.size : Int) - 1) (-1) (-1)).filterMap (items[·]?)).toArray
  rw [PySem.W.krv_sliceRange, List.filterMap_map]
  congr 1
  have e : ∀ l : List Nat, (∀ k ∈ l, k < items.size) → l.filterMap (fun (k : Nat) => items[(((items.size : Int) - 1) + (k : Int) * (-1)).toNat]?) = l.filterMap ((fun x => items[x]?) ∘ fun k => items.size - 1 - k) := by
    intro l
    induction l with
    | nil => intro _; rfl
    | cons a l ih =>
      intro hl
      have ha := hl a List.mem_cons_self
      have e1 : (((items.size : Int) - 1) + (a : Int) * (-1)).toNat = items.size - 1 - a := by omega
      have q := ih fun k hk => hl k (List.mem_cons_of_mem _ hk)
      rw [List.filterMap_cons, List.filterMap_cons, e1, q]
      rfl
  exact e _ fun k hk => List.mem_range.mp hk
theorem getItem_tuple_rev {t sl : Addr} {items : Array Value} {tk : Tok} {Q : Value → Shared → Prop} (ht : IsTup s.heap t items) (hs : s.heap.IsSliceOf sl .none .none (.int (-1) tk))
    (h : Q (.ref s.heap.objs.size) { s with heap := s.heap.push { cls := .type "tuple", data := .seq items.toList.reverse.toArray } })
    (hsz : items.size ≤ sizeLine) : wpAny (model prog w) A (getItem (.ref t) (.ref sl)) Q E s := by
  have htake : sizeOk (.seq items.toList.reverse.toArray) := by
    show items.toList.reverse.toArray.size ≤ sizeLine
    rw [List.size_toArray, List.length_reverse, Array.length_toList]
    exact hsz
  obtain ⟨os, hos, hcs, hds⟩ := id hs
  have hTs : s.TypeIs (.ref sl) "slice" := ⟨os, hos, hcs⟩
  unfold getItem
  try with_reducible refine wpAny_holding ?_
  first | refine wpAny_bind (wpAny_pure ?_) | skip
  refine wpAny_bind (wpAny_sequenceKey ht.typeIs (by decide) ?_)
  refine wpAny_bind (wpAny_callSpecial?_slot (name := Str.ofString "__getitem__") ht.typeIs PyProof.Rows.slot_tuple_getitem
    (wpAny_call_entry PyProof.Rows.slot_tuple_getitem ht.typeIs entry_tuple_getitem ?_ (args_tuple_getitem _ _)))
  show wpAny _ _ (Builtin.Tuple.tupleItemsOf (.ref t) >>= _) _ _ s
  refine wpAny_bind (tupleItemsOf_ ht ?_)
  refine wpAny_bind (wpAny_typeOf hTs ?_)
  rw [if_pos (by decide)]
  have sa : ∀ {A : Around} {E : Value → Shared → Prop} {Q : Int × Int × Nat → Shared → Prop}, Q (((items.size : Int) - 1), -1, items.size) s → wpAny (model prog w) A (Builtin.Slice.sliceApplied (.ref sl) (pure (items.size : Int))) Q E s := by
    intro A E Q h
    unfold Builtin.Slice.sliceApplied Builtin.Slice.sliceFields
    refine wpAny_bind (wpAny_bind (wpAny_field hos hds (x := .none) rfl (wpAny_bind (wpAny_field hos hds (x := .none) rfl (wpAny_bind (wpAny_field hos hds (x := .int (-1) tk) rfl (wpAny_pure ?_)))))))
    refine wpAny_bind (slicePart_int ?_)
    show wpAny _ _ (if ((-1 : Int) == 0) = true then _ else _) _ _ s
    rw [if_neg (by decide)]
    refine wpAny_bind (slicePart_none (wpAny_bind (slicePart_none (wpAny_bind (wpAny_pure ?_)))))
    show wpAny _ _ (pure (((items.size : Int) - 1), (-1 : Int), Builtin.Slice.slicePlaces ((items.size : Int) - 1) (-1) (-1))) _ _ s
    have e : Builtin.Slice.slicePlaces ((items.size : Int) - 1) (-1) (-1) = items.size := by
      unfold Builtin.Slice.slicePlaces
      have h1 : ¬ ((-1 : Int) > 0) := by decide
      simp only [h1, if_false]
      rw [show (- -1 : Int) = 1 by decide, Int.ediv_one]
      split <;> omega
    rw [e]
    exact wpAny_pure h
  refine wpAny_bind (sa ?_)
  have hno : ¬ ((((items.size : Int) - 1) == 0 && (-1 : Int) == 1 && items.size == items.size) = true) := by
    intro q
    rw [Bool.and_eq_true, Bool.and_eq_true] at q
    exact absurd (eq_of_beq q.1.2) (by decide)
  show wpAny _ _ (if (((items.size : Int) - 1) == 0 && (-1 : Int) == 1 && items.size == items.size) = true then _ else _) _ _ s
  rw [if_neg hno, rev_pick]
  first
    | exact wpAny_bind (m := Builtin.Tuple.tupleExact _) (wpAny_newObj_type (wpAny_pure ⟨_, rfl, wpAny_pure h⟩) htake)
    | exact wpAny_bind (m := Builtin.Tuple.tupleExact _) (wpAny_newObj_type (wpAny_bind (wpAny_pure (wpAny_pure ⟨_, rfl, wpAny_pure h⟩))) htake)
    | exact wpAny_bind (wpAny_bind (m := Builtin.Tuple.tupleExact _) (wpAny_newObj_type (wpAny_pure (wpAny_pure ⟨_, rfl, wpAny_pure h⟩)) htake))
    | exact wpAny_bind (wpAny_bind (m := Builtin.Tuple.tupleExact _) (wpAny_newObj_type (wpAny_pure ⟨_, rfl, wpAny_pure h⟩) htake))
end
end HT
namespace L2
open PySem PySem.Spec PyProof.Rows
section
variable {X : Cx}
/-- t[::-1] -/
def tRevT (K : PySem.W.Frag) (te : TE) : TE := fun σ H Q => te σ H fun x H1 => ∃ a xs, x = .ref a ∧ SqT K H1 a xs ∧ ∀ p, H1 p = none → Q (.ref p) (upd H1 p (.tup xs.reverse))
theorem pe_revT {e : Expr} {te : TE} {k : Nat} {p1 p2 p3 pos : Pos} (he : PE X e te) : PE X (.Subscript e (.Slice none none (some (.UnaryOp .USub (.Constant (.int 1) k p1) p2)) p3) pos) (tRevT X.K te) := by
  refine ⟨fun pins s σ H Q I h => ?_⟩
  refine Subscript_ (thn (he.run pins s σ H _ I h) fun v s1 ⟨x, H1, I1, r1, q1⟩ => ?_)
  obtain ⟨a, xs, ex, hx, q⟩ := q1
  subst ex
  cases r1
  have hst : PO X (some (.UnaryOp .USub (.Constant (.int 1) k p1) p2)) (tPart (tUn (rU fun i => .int (-i)) (tC (.int 1)))) := po_some (pe_un un_neg pe_int)
  refine wpAny_Slice (thn (po_none.run pins s1 σ H1 (fun o H2 => o = none ∧ H2 = H1) I1 ⟨rfl, rfl⟩) fun vl s2 ⟨l, H2, I2, pl, el, e2⟩ => ?_)
  subst el e2
  refine thn (po_none.run pins s2 σ H2 (fun o H3 => o = none ∧ H3 = H2) I2 ⟨rfl, rfl⟩) fun vu s3 ⟨u, H3, I3, pu, eu, e3⟩ => ?_
  subst eu e3
  refine thn (hst.run pins s3 σ H3 (fun o H4 => o = some (-1) ∧ H4 = H3) I3 ⟨1, rfl, -1, rfl, rfl, rfl⟩) fun vs s4 ⟨o, H4, I4, ps, eo, e4⟩ => ?_
  subst eo e4
  have I5 : Inv X pins σ H4 { s4 with heap := s4.heap.push { cls := .type "slice", data := .fields #[vl, vu, vs] } } := I4.kept (t' := s4.toks) fun b ob q => Heap.get?_push_of_some _ q
  obtain ⟨its, r, ht, hz⟩ := I5.tuple hx
  have hlen := r.length
  cases pl
  cases pu
  cases ps with
  | int _ tk =>
    show wpAny (model X.prog X.w) X.A (subscriptTail e (.Slice none none (some (.UnaryOp .USub (.Constant (.int 1) k p1) p2)) p3) (.ref a) (.ref s4.heap.objs.size)) (EP X pins σ Q) X.xe { s4 with heap := s4.heap.push { cls := .type "slice", data := .fields #[.none, .none, .int (-1) tk] } }
    refine tail_any (ops := [.ref a, .ref s4.heap.objs.size]) ht.typeIs (PyProof.Rows.slot_tuple_getitem.lookup) ?_ (by with_unfolding_all rfl)
    refine HT.getItem_tuple_rev ht (Heap.IsSliceOf.new _ .none .none (.int (-1) tk)) ?_ (by rw [List.size_toArray]; omega)
    refine ⟨.ref _, _, I5.laid (t' := s4.toks) (o := .tup xs.reverse) (fun b ob q => Heap.get?_push_of_some _ q) (Nat.le_refl _) ?_, rfl, q _ (I5.hok.fresh (Nat.le_refl _))⟩
    refine ⟨by rw [List.length_reverse]; exact hz, _, r.reverse, ?_⟩
    exact IsTup.new _ _
end
end L2
/-! S2 -/
set_option Elab.async false
set_option linter.all false
set_option maxRecDepth 100000
set_option maxHeartbeats 2000000
namespace HT
open PySem PySem.Spec PyProof.Rows
theorem meets_enumerate_newT (l : Addr) (items : Array Value) (n : Nat) (dct : Option Addr) (sl : Array (Option Value)) :
    Meets (Builtin.«enumerate.__new__» ⟨[.type "enumerate", .ref l], []⟩) (fun _ R s => s.heap.get? l = some { cls := .type "tuple", dict := dct, data := .seq items n, slots := sl } ∧
      R (.ok (.ret (.ref (s.heap.push { cls := .type "tuple_iterator", data := .fields #[.ref l, .int 0 0] }).objs.size)))
        { s with heap := (s.heap.push { cls := .type "tuple_iterator", data := .fields #[.ref l, .int 0 0] }).push { cls := .type "enumerate", data := .fields #[.none, .bool false, .ref s.heap.objs.size, rawInt 0, .none, .none] } }) :=
  .of_wp fun prog w A R s h => by
    obtain ⟨hp, g, d, tk, os⟩ := s; obtain ⟨hl, h⟩ := h
    have hsub := sub_enumerate
    have hL : Heap.IsTuple (Shared.heap ⟨hp, g, d, tk, os⟩) l items := ⟨_, hl, rfl, n, rfl⟩
    wp_walk using wpAny_loadPart' hl
    refine wpAny_stack_any fun st => wpAny_pure ?_
    split
    · rename_i c _ _ _ _ _
      cases (c == Value.type "enumerate")
      · wp_walk using wpAny_loadPart' hl, wpAny_pyIter_tuple hL
        exact ⟨_, rfl, h⟩
      · wp_walk using wpAny_loadPart' hl, wpAny_pyIter_tuple hL
        exact ⟨_, rfl, h⟩
    · wp_walk using wpAny_loadPart' hl, wpAny_pyIter_tuple hL
      exact ⟨_, rfl, h⟩
end HT
namespace HT
open PySem PySem.Spec PyProof.Rows
section
variable {prog : Program} {w : World} {A : Around} {E : Value → Shared → Prop} {s : Shared}
theorem call_enumerate_tup {l : Addr} {items : Array Value} {Q : Value → Shared → Prop} (hL : IsTup s.heap l items)
    (h : ∀ h', IsEnum h' (s.heap.objs.size + 1) s.heap.objs.size 0 .none → h'.IsTupleIter s.heap.objs.size l 0 → h'.objs.size = s.heap.objs.size + 2 →
      (∀ b o, s.heap.get? b = some o → h'.get? b = some o) → Q (.ref (s.heap.objs.size + 1)) { s with heap := h' }) :
    wpAny (model prog w) A (call (.type "enumerate") [.ref l]) Q E s := by
  obtain ⟨⟨c, dct, dt, sl⟩, hl, hc, n, hd⟩ := hL
  replace hc : c = .type "tuple" := hc
  replace hd : dt = .seq items n := hd
  subst hc hd
  refine callType_new F.called_enumerate (by decide) (F.typeCall_enumerate_1 _) (F.newCall_enumerate_1 _) (fun obj => F.args_object_init_2 obj _) F.entry_enumerate_new
    (meets_enumerate_newT l items n dct sl) ⟨hl, ?_⟩
  have hz : (s.heap.push { cls := .type "tuple_iterator", data := .fields #[.ref l, .int 0 0] }).objs.size = s.heap.objs.size + 1 := Heap.size_push ..
  show _ ∧ _
  rw [hz]
  have he : IsEnum ((s.heap.push { cls := .type "tuple_iterator", data := .fields #[.ref l, .int 0 0] }).push
      { cls := .type "enumerate", data := .fields #[.none, .bool false, .ref s.heap.objs.size, rawInt 0, .none, .none] }) (s.heap.objs.size + 1) s.heap.objs.size 0 .none := by
    have := Heap.get?_push_size (s.heap.push { cls := .type "tuple_iterator", data := .fields #[.ref l, .int 0 0] })
      (o := { cls := .type "enumerate", data := .fields #[.none, .bool false, .ref s.heap.objs.size, rawInt 0, .none, .none] }) rfl
    rw [hz] at this; exact this
  refine ⟨⟨_, he, rfl⟩, h _ he ⟨_, Heap.get?_push_of_some _ (Heap.get?_push_size _ rfl), rfl, rfl⟩ (by rw [Heap.size_push, hz]) fun b o x => Heap.get?_push_of_some _ (Heap.get?_push_of_some _ x)⟩
theorem nextOf_tup_item {it t : Addr} {i : Nat} {items : Array Value} {x : Value} {Q : Value → Shared → Prop} (hit : s.heap.IsTupleIter it t i) (ht : IsTup s.heap t items) (hx : items[i]? = some x)
    (hQ : ∀ h', h'.IsTupleIter it t (i + 1) → Heap.SameBut it s.heap h' → Q x { s with heap := h' }) :
    wpAny (model prog w) A (Builtin.SmallTypes.nextOf (.ref it)) Q E s := by
  obtain ⟨o, ho, hc, hd⟩ := id hit
  obtain ⟨ol, hol, _, nl, hdl⟩ := ht
  unfold Builtin.SmallTypes.nextOf
  refine wpAny_bind (wpAny_callSpecial?_slot (name := Str.ofString "__next__") hit.typeIs slot_tupleiter_next (wpAny_call_entry slot_tupleiter_next hit.typeIs entry_tupleiter_next ?_ (args_tupleiter_next _)))
  show wpAny _ _ (field (.ref it) 0 >>= _) _ _ s
  refine wpAny_bind (wpAny_field ho hd (x := .ref t) rfl ?_)
  show wpAny _ _ (if (Value.ref t == Value.none) = true then _ else _) _ _ s
  rw [if_neg (show ¬ ((Value.ref t == Value.none) = true) from Bool.false_ne_true)]
  show wpAny _ _ (field (.ref it) 1 >>= _) _ _ s
  refine wpAny_bind (wpAny_field ho hd (x := .int i 0) rfl ?_)
  show wpAny _ _ (seqItems? (.ref t) >>= _) _ _ s
  refine wpAny_bind (wpAny_seqItems hol hdl ?_)
  simp only [Int.toNat_natCast, hx]
  refine wpAny_bind (wpAny_setField ho hd (by simp) (wpAny_pure ⟨x, rfl, wpAny_pure (hQ _ ?_ (Heap.SameBut.update ..))⟩))
  exact ⟨_, Heap.get?_update_self _ ho (Obj.isFreed_of_fields (Obj.data_mapFields hd _)), (Obj.cls_mapFields ..).trans hc, by
    rw [Obj.data_mapFields hd]; simp [rawInt]⟩
theorem nextOf_tup_end {it t : Addr} {i : Nat} {items : Array Value} {Q : Value → Shared → Prop} (hh : A.handled = none) (hit : s.heap.IsTupleIter it t i) (ht : IsTup s.heap t items) (hx : items[i]? = none)
    (hE : ∀ h' e, Heap.ExtBut it s.heap h' → (∃ o, h'.get? e = some o ∧ o.cls = .type "StopIteration") → E (.ref e) { s with heap := h' }) :
    wpAny (model prog w) A (Builtin.SmallTypes.nextOf (.ref it)) Q E s := by
  obtain ⟨o, ho, hc, hd⟩ := id hit
  obtain ⟨ol, hol, _, nl, hdl⟩ := ht
  unfold Builtin.SmallTypes.nextOf
  refine wpAny_bind (wpAny_callSpecial?_slot (name := Str.ofString "__next__") hit.typeIs slot_tupleiter_next (wpAny_call_entry slot_tupleiter_next hit.typeIs entry_tupleiter_next ?_ (args_tupleiter_next _)))
  show wpAny _ _ (field (.ref it) 0 >>= _) _ _ s
  refine wpAny_bind (wpAny_field ho hd (x := .ref t) rfl ?_)
  show wpAny _ _ (if (Value.ref t == Value.none) = true then _ else _) _ _ s
  rw [if_neg (show ¬ ((Value.ref t == Value.none) = true) from Bool.false_ne_true)]
  show wpAny _ _ (field (.ref it) 1 >>= _) _ _ s
  refine wpAny_bind (wpAny_field ho hd (x := .int i 0) rfl ?_)
  show wpAny _ _ (seqItems? (.ref t) >>= _) _ _ s
  refine wpAny_bind (wpAny_seqItems hol hdl ?_)
  simp only [Int.toNat_natCast, hx]
  refine wpAny_bind (wpAny_rule (wpAny_bind (wpAny_setField ho hd (by simp) ?_)))
  show wpAny _ _ (newExc (.type "StopIteration") [] >>= _) _ _ _
  refine wpAny_bind ?_
  simp only [newExc, newTuple]
  refine wpAny_bind (wpAny_newObj_type ?_ (by size_fits))
  refine wpAny_bind (m := firstArgMember _ _) (wpAny_of_eq (a := Value.none) (by first | rfl | (simp only [firstArgMember]; rfl)) ?_)
  refine wpAny_newObj_type ?_ (by size_fits)
  simp only [raiseNew]
  refine wpAny_bind (wpAny_handled ?_)
  first | rw [show A.in1.handled = none from hh] | rw [hh]
  refine wpAny_bind (wpAny_pure (wpAny_throw ?_))
  exact hE _ _ (((Heap.SameBut.update ..).extBut.push _).push _) ⟨_, Heap.get?_push_size _ rfl, rfl⟩
end
theorem draws_tup {prog : Program} {w : World} {A : Around} (hh : A.handled = none) (it l : Addr) (hne : l ≠ it) (items : Array Value) :
    Draws prog w A it [it, l] items.size (fun i v => items[i]? = some v) (fun i h => h.IsTupleIter it l i ∧ IsTup h l items) where
  live := fun _ _ st => let ⟨o, ho, _⟩ := st.1; ⟨o, ho⟩
  frame := fun _ _ _ st hk => ⟨let ⟨o, ho, r⟩ := st.1; ⟨o, hk it (by simp) o ho, r⟩, let ⟨o, ho, r⟩ := st.2; ⟨o, hk l (by simp) o ho, r⟩⟩
  item := fun i s Q E hi st hQ => by
    refine nextOf_tup_item st.1 st.2 (x := items[i]) (by simp [hi]) fun h' hit' hs' => ?_
    exact hQ _ h' s.toks (by simp [hi]) ⟨hit', let ⟨o, ho, r⟩ := st.2; ⟨o, hs'.2 l hne ▸ ho, r⟩⟩ hs'
  done := fun s Q E st hE => nextOf_tup_end hh st.1 st.2 (by simp) hE
end HT
/-! S3 -/
set_option Elab.async false
set_option linter.all false
set_option maxRecDepth 100000
set_option maxHeartbeats 2000000
namespace L2
open PySem PySem.Spec PyProof.Rows
/-- the tuple at a as it stands at each turn, each item in a new pair -/
def IteT (K : PySem.W.Frag) (a : Addr) : It :=
  ⟨fun i H => ∃ (xs : List V) (x : V), SqT K H a xs ∧ xs[i]? = some x, fun i H v H' => ∃ T x, v = .ref T ∧ H T = none ∧ H' = upd H T (.tup [.int (i : Nat), x]) ∧ ∀ xs, SqT K H a xs → xs[i]? = some x, fun i H => ∃ xs : List V, SqT K H a xs ∧ xs.length ≤ i⟩
theorem turn_enumT {P : Program} {w : World} {K : PySem.W.Frag} {elts : List Expr} {kk : Nat} {tpos : Pos} (a e it : Addr) :
    Turn P w K (.Tuple elts kk tpos) (IteT K a) [e, it] e (fun i h => (∃ old, IsEnum h e it ((i : Nat) : Int) old) ∧ h.IsTupleIter it a i ∧ e ≠ it) where
  mem := by simp
  obj := fun i h st b hb => by
    obtain ⟨⟨old, he⟩, ⟨o, ho, hc, hd⟩, _⟩ := st
    have e' : b = e ∨ b = it := by simpa using hb
    rcases e' with z | z
    · rw [z]; exact ⟨_, he, fun v q => nomatch q⟩
    · rw [z]; exact ⟨o, ho, fun v q => by rw [hd] at q; cases q⟩
  keep := fun i h h' st k => let ⟨⟨old, he⟩, ⟨o, ho, r⟩, hne⟩ := st; ⟨⟨old, k e (by simp) _ he⟩, ⟨o, k it (by simp) o ho, r⟩, hne⟩
  item := by
    intro X hP hw hK hc i pins s σ H E I hf st hg
    subst hP hw hK
    obtain ⟨⟨old, he⟩, hit, hne⟩ := st
    obtain ⟨xs, x, hq, hx⟩ := hg
    obtain ⟨its, rv, p, hz⟩ := I.tuple hq
    obtain ⟨u, hu, ru⟩ := rv.get hx
    have hel : e < s.heap.objs.size := Heap.lt_size he
    have hil : it < s.heap.objs.size := by obtain ⟨_, q, _⟩ := hit; exact Heap.lt_size q
    have hae : a ≠ it := fun z => by
      obtain ⟨o, ho, c, _⟩ := hit
      obtain ⟨o', ho', c', _⟩ := p
      rw [z, ho] at ho'
      cases ho'
      rw [c] at c'
      exact absurd (Value.type.inj c') (by decide)
    have haE : e ∉ [it, a] := fun z => by
      have z' : e = it ∨ e = a := by simpa using z
      rcases z' with z | z
      · exact hne z
      · obtain ⟨o', ho', c', _⟩ := p
        have he' : s.heap.get? e = some _ := he
        rw [z, ho'] at he'
        have c2 := Option.some.inj he'
        rw [c2] at c'
        exact absurd (Value.type.inj c') (by decide)
    have hil2 : i < its.toArray.size := by
      rw [List.size_toArray]
      exact (List.getElem?_eq_some_iff.mp hu).1
    have D := HT.draws_tup (prog := X.prog) (w := X.w) (A := X.A.in1) (I.ok.hd hc) it a hae its.toArray
    refine wpAny_pyNext_enum_itemD D he ⟨hit, p⟩ hil2 hne haE fun y h' tk hy ho hit' hT hsz hk => ?_
    have ey : y = u := by
      have hy' : its.toArray[i]? = some y := hy
      rw [List.getElem?_toArray, hu] at hy'
      exact (Option.some.inj hy').symm
    subst ey
    have ho' : IsEnumOut h' e it ((i : Int) + 1) y s.heap.objs.size := ho
    refine ⟨_, rfl, wpAny_letOwnedTupleGo_enum (s := { s with heap := h', toks := tk + 1 }) ho' fun h'' he' sb => ?_⟩
    have hT2 : h''.get? s.heap.objs.size = some { cls := .type "tuple", data := .seq #[.int i tk, y] } := (sb.2 _ (Nat.ne_of_gt hel)).trans hT
    have new : ObjOk X.prog X.w (upd H s.heap.objs.size (.tup [.int (i : Nat), x])) h'' s.heap.objs.size (.tup [.int (i : Nat), x]) :=
      ⟨by show 2 ≤ sizeLine; decide, [.int i tk, y], .cons ⟨_, rfl⟩ (.cons ru .nil), ⟨_, hT2, rfl, _, rfl⟩⟩
    have I1 : Inv X pins σ (upd H s.heap.objs.size (.tup [.int (i : Nat), x])) { s with heap := h'', toks := tk + 1 } :=
      I.turnedNew (ch := [e, it]) (fun b ob hb q => (sb.2 b (fun z => hb (by simp [z]))).trans (hk b ob (fun z => hb (by simp [z])) (fun z => hb (by simp [z])) q)) hf (Nat.le_refl _) new
    refine ⟨.ref s.heap.objs.size, _, I1, rfl, ⟨_, x, rfl, I.hok.fresh (Nat.le_refl _), rfl, fun ys hy => by rw [I.tuple_inj hy hq]; exact hx⟩, ⟨⟨y, ?_⟩, ?_, hne⟩, fun b hb => ?_⟩
    · have e1 : ((i + 1 : Nat) : Int) = (i : Int) + 1 := by omega
      rw [e1]; exact he'
    · obtain ⟨o, ho2, r⟩ := hit'.1
      exact ⟨o, (sb.2 it (Ne.symm hne)).trans ho2, r⟩
    · have hb' : b < s.heap.objs.size := by
        have e' : b = e ∨ b = it := by simpa using hb
        rcases e' with z | z
        · rw [z]; exact hel
        · rw [z]; exact hil
      rw [upd_ne (Nat.ne_of_lt hb')]
      exact (hf b hb).1
  done := by
    intro X hP hw hK hc i pins s σ H E I hf st hg
    subst hP hw hK
    obtain ⟨⟨old, he⟩, hit, hne⟩ := st
    obtain ⟨xs, hq, hx⟩ := hg
    obtain ⟨its, rv, p, hz⟩ := I.tuple hq
    obtain ⟨f0, f1, f2, f3, f4, f5⟩ := hf it (by simp)
    have hl := rv.length
    have hT : s.TypeIs (.ref e) "enumerate" := ⟨_, he, rfl⟩
    unfold pyNext
    refine wpAny_bind (wpAny_attempt (wpAny_callSpecial?_slot (name := Str.ofString "__next__") hT F.slot_enumerate_next
      (wpAny_call_entry F.slot_enumerate_next hT F.entry_enumerate_next ?_ (F.args_enumerate_next_1 _))))
    show wpAny _ _ (field (.ref e) 2 >>= _) _ _ _
    refine wpAny_bind (wpAny_field he rfl (x := .ref it) rfl ?_)
    have hno : its.toArray[i]? = none := by rw [List.getElem?_toArray]; exact List.getElem?_eq_none (by omega)
    refine wpAny_bind (HT.nextOf_tup_end (I.ok.hd hc) hit p hno fun h' x he' hx' => ?_)
    obtain ⟨o, ho, hc⟩ := hx'
    refine wpAny_bind (wpAny_isInstance (T := "StopIteration") (b := true) ⟨o, ho, hc⟩ isSubtype_stop ?_)
    exact wpAny_pure ⟨rfl, I.turned (t' := s.toks) (fun b o hb q => he' b o hb q) f0 f1 f3 f4 f5⟩
  self := fun A i s Q E st h => let ⟨⟨_, he⟩, _⟩ := st; wpAny_pyIter_enum he h
def iEnumT (K : PySem.W.Frag) (ta : TA) : TI := fun σ H R => ta σ H fun vs H1 => ∃ a xs, vs = [.ref a] ∧ SqT K H1 a xs ∧ R (IteT K a) H1
theorem pi_enumT {X : Cx} {e : Expr} {ta : TA} {p pos tpos : Pos} {elts : List Expr} {kk : Nat} (hg : Gl X "enumerate") (hm : X.mg "enumerate" = none) (ha : PA X [e] ta) (hs : starEach [e] X.env = [(false, eval e X.env)] := by rfl) :
    PI X (.Tuple elts kk tpos) (.Call (.Name "enumerate" p) [e] [] pos) (iEnumT X.K ta) := by
  refine ⟨fun pins s σ H R I h => ?_⟩
  refine Call_ (ld_blt I hg hm boot_enumerate (PyProof.Rows.callWith_type1 (thn (ha.run pos pins s σ H _ I h) fun us s1 ⟨vs, H1, I1, r1, q1⟩ => ?_) hs rfl))
  obtain ⟨a, xs, ex, hq, q⟩ := q1
  subst ex
  cases r1 with
  | cons r rr =>
    cases rr
    cases r
    obtain ⟨its, rv, p', hz⟩ := I1.tuple hq
    refine HT.call_enumerate_tup p' fun h' he hit hsz hk => wpAny_pyIter_enum he ?_
    have I2 : Inv X pins σ H1 { s1 with heap := h' } := I1.kept (t' := s1.toks) hk
    refine ⟨s1.heap.objs.size + 1, [s1.heap.objs.size + 1, s1.heap.objs.size], _, _, H1, rfl, I2, turn_enumT a (s1.heap.objs.size + 1) s1.heap.objs.size, ⟨⟨.none, he⟩, hit, Nat.succ_ne_self _⟩, fun b hb => ?_, q⟩
    have e' : b = s1.heap.objs.size + 1 ∨ b = s1.heap.objs.size := by simpa using hb
    have hle : s1.heap.objs.size ≤ b := by
      rcases e' with z | z
      · rw [z]; exact Nat.le_add_right _ _
      · rw [z]; exact Nat.le_refl _
    exact I1.fpOk hle (I1.hok.fresh hle)
end L2
/-! S4 -/
set_option Elab.async false
set_option linter.all false
set_option maxRecDepth 100000
set_option maxHeartbeats 2000000
namespace RL
open PySem PySem.Spec PyProof.Rows L2
theorem same_upd {H : Hp} {p : Addr} (h : H p = none) (o : HO) : Same H (upd H p o) := fun b u q => by rw [upd_ne (ne_of_none q h)]; exact q
theorem Same.sqt {K : PySem.W.Frag} {H H' : Hp} {a : Addr} {xs : List V} (e : Same H H') (h : SqT K H a xs) : SqT K H' a xs := by
  rcases h with (h | ⟨o, h⟩) | h
  · exact .inl (.inl (e _ _ h))
  · exact .inl (.inr ⟨o, e _ _ h⟩)
  · exact .inr h
/-- a tuple of xs is handed on, all that was tracked stands -/
def NewT (K : PySem.W.Frag) (H : Hp) (Q : VK) (xs : List V) : Prop := ∀ H' p, Same H H' → SqT K H' p xs → Q (.ref p) H'
theorem NewT.al {K : PySem.W.Frag} {H : Hp} {Q : VK} {xs : List V} (h : NewT K H Q xs) : ∀ p, H p = none → Q (.ref p) (upd H p (.tup xs)) := fun p hp => h _ p (same_upd hp _) (SqT.of upd_same)
theorem NewT.here {K : PySem.W.Frag} {H : Hp} {Q : VK} {xs : List V} (h : NewT K H Q xs) {a : Addr} (ha : SqT K H a xs) : Q (.ref a) H := h H a (Same.refl H) ha
/-- a new list -/
def NewL (H : Hp) (Q : VK) (xs : List V) : Prop := ∀ H' p, Same H H' → H p = none → H' p = some (.lst xs) → Q (.ref p) H'
theorem NewL.al {H : Hp} {Q : VK} {xs : List V} (h : NewL H Q xs) : ∀ p, H p = none → Q (.ref p) (upd H p (.lst xs)) := fun p hp => h _ p (same_upd hp _) hp upd_same

section
variable {X : Cx}
theorem pe_weak {e : Expr} {t t' : TE} (h : PE X e t) (k : ∀ σ H Q, t' σ H Q → t σ H Q) : PE X e t' := ⟨fun pins s σ H Q I q => h.run pins s σ H Q I (k σ H Q q)⟩
theorem opr_weak {f : Value → Value → Sem Value} {r r' : R2} (h : OpR X f r) (k : ∀ x y H Q, r' x y H Q → r x y H Q) : OpR X f r' := fun pins s σ H x y v u Q I rx ry q => h pins s σ H x y v u Q I rx ry (k x y H Q q)
theorem callr_weak {f : Value} {r r' : List V → Hp → VK → Prop} (h : CallR X f r) (k : ∀ xs H Q, r' xs H Q → r xs H Q) : CallR X f r' := fun pins s σ H vs us Q I r q => h pins s σ H vs us Q I r (k _ _ _ q)
theorem slr_weak {r r' : V → Option Int → Option Int → Hp → VK → Prop} (h : SlR X r) (k : ∀ x lo hi H Q, r' x lo hi H Q → r x lo hi H Q) : SlR X r' := fun pins s σ H x v vl vu lo hi sl Q I rx hs pl pu q => h pins s σ H x v vl vu lo hi sl Q I rx hs pl pu (k _ _ _ _ _ q)
/-- a reading whose wish may be weakened -/
def upE (te : TE) : TE := fun σ H Q => ∃ Q0 : VK, te σ H Q0 ∧ ∀ x H1, Q0 x H1 → Q x H1
theorem pe_up {e : Expr} {te : TE} (he : PE X e te) : PE X e (upE te) := ⟨fun pins s σ H Q I q => by
    obtain ⟨Q0, h0, h1⟩ := q
    exact thn (he.run pins s σ H Q0 I h0) fun v s1 ⟨x, H1, I1, r1, q1⟩ => ⟨x, H1, I1, r1, h1 _ _ q1⟩⟩
def upA (t : TA) : TA := fun σ H Q => ∃ Q0 : List V → Hp → Prop, t σ H Q0 ∧ ∀ x H1, Q0 x H1 → Q x H1
theorem pa_up {es : List Expr} {t : TA} (h : PA X es t) : PA X es (upA t) := ⟨fun pos pins s σ H Q I q => by
    obtain ⟨Q0, h0, h1⟩ := q
    exact thn (h.run pos pins s σ H Q0 I h0) fun v s1 ⟨x, H1, I1, r1, q1⟩ => ⟨x, H1, I1, r1, h1 _ _ q1⟩⟩
/-- t + u -/
def rCatS (K : PySem.W.Frag) : R2 := fun x y H Q => ∃ a b xs ys, x = .ref a ∧ y = .ref b ∧ SqT K H a xs ∧ SqT K H b ys ∧ xs.length + ys.length ≤ sizeLine ∧ NewT K H Q (xs ++ ys)
theorem op_catS : OpR X (binaryOp .Add) (rCatS X.K) := opr_weak op_catA fun x y H Q h => by
  obtain ⟨a, b, xs, ys, ex, ey, hx, hy, hz, q⟩ := h
  refine ⟨a, b, xs, ys, ex, ey, hx, hy, hz, fun e => ?_, fun _ e => ?_, fun _ _ => q.al⟩
  · subst e
    exact q.here hy
  · subst e
    rw [List.append_nil] at q
    exact q.here hx
/-- t[i:j] -/
def rSlU (K : PySem.W.Frag) : V → Option Int → Option Int → Hp → VK → Prop := fun x lo hi H Q => ∃ a xs, x = .ref a ∧ SqT K H a xs ∧ NewT K H Q (cutV xs lo hi)
theorem cut_whole {xs : List V} {lo hi : Option Int} (h : HT.sIx xs.length 0 lo = 0 ∧ HT.sIx xs.length xs.length hi = xs.length) : cutV xs lo hi = xs := by
  unfold cutV
  rw [h.1, h.2]
  simp
theorem sl_tupU : SlR X (rSlU X.K) := slr_weak sl_tupA fun x lo hi H Q h => by
  obtain ⟨a, xs, ex, hx, q⟩ := h
  refine ⟨a, xs, ex, hx, fun e => ?_, fun _ => q.al⟩
  rw [cut_whole e] at q
  exact q.here hx
/-- t[::-1] -/
def tRevS (K : PySem.W.Frag) (te : TE) : TE := fun σ H Q => te σ H fun x H1 => ∃ a xs, x = .ref a ∧ SqT K H1 a xs ∧ NewT K H1 Q xs.reverse
theorem pe_revS {e : Expr} {te : TE} {k : Nat} {p1 p2 p3 pos : Pos} (he : PE X e te) : PE X (.Subscript e (.Slice none none (some (.UnaryOp .USub (.Constant (.int 1) k p1) p2)) p3) pos) (tRevS X.K te) :=
  pe_weak (pe_revT (pe_up he)) fun σ H Q q => ⟨_, q, fun x H1 ⟨a, xs, ex, hx, n⟩ => ⟨a, xs, ex, hx, n.al⟩⟩
/-- (a, b, ..), [a, b, ..] -/
def tTupS (K : PySem.W.Frag) (t : TA) : TE := fun σ H Q => t σ H fun xs H1 => xs.length ≤ sizeLine ∧ NewT K H1 Q xs
theorem pe_tupS {es : List Expr} {t : TA} {x1} {pos : Pos} (h : PA X es t) : PE X (.Tuple es x1 pos) (tTupS X.K t) :=
  pe_weak (pe_tup (pa_up h)) fun σ H Q q => ⟨_, q, fun x H1 ⟨z, n⟩ => ⟨z, n.al⟩⟩
def tLstS (t : TA) : TE := fun σ H Q => t σ H fun xs H1 => xs.length ≤ sizeLine ∧ NewL H1 Q xs
theorem pe_lstS {es : List Expr} {t : TA} {pos : Pos} (h : PA X es t) : PE X (.List es pos) (tLstS t) :=
  pe_weak (pe_lst (pa_up h)) fun σ H Q q => ⟨_, q, fun x H1 ⟨z, n⟩ => ⟨z, n.al⟩⟩
/-- xs + ys, xs * k of lists -/
def rCatL : R2 := fun x y H Q => ∃ l b xs zs, x = .ref l ∧ y = .ref b ∧ H l = some (.lst xs) ∧ H b = some (.lst zs) ∧ xs.length + zs.length ≤ sizeLine ∧ NewL H Q (xs ++ zs)
theorem op_catL : OpR X (binaryOp .Add) rCatL := opr_weak op_cat fun x y H Q ⟨l, b, xs, zs, h1, h2, h3, h4, h5, q⟩ => ⟨l, b, xs, zs, h1, h2, h3, h4, h5, q.al⟩
def rRepL : R2 := fun x y H Q => ∃ l k xs, x = .ref l ∧ y = .int k ∧ H l = some (.lst xs) ∧ -(2 ^ 63) ≤ k ∧ k < 2 ^ 63 ∧ xs.length * k.toNat ≤ sizeLine ∧ NewL H Q (List.replicate k.toNat xs).flatten
theorem op_repL : OpR X (binaryOp .Mult) rRepL := opr_weak op_rep fun x y H Q ⟨l, k, xs, h1, h2, h3, h4, h5, h6, q⟩ => ⟨l, k, xs, h1, h2, h3, h4, h5, h6, q.al⟩
/-- xs[i:j] of lists -/
def rSlV (K : PySem.W.Frag) : V → Option Int → Option Int → Hp → VK → Prop := fun x lo hi H Q => ∃ a xs, x = .ref a ∧ SqL K H a xs ∧ NewL H Q (cutV xs lo hi)
theorem sl_lstU : SlR X (rSlV X.K) := slr_weak sl_list fun x lo hi H Q ⟨a, xs, ex, hx, q⟩ => ⟨a, xs, ex, hx, q.al⟩
/-- tuple(xs), list(xs) -/
def rTupOf (K : PySem.W.Frag) : List V → Hp → VK → Prop := fun vs H Q => ∃ p ys, vs = [.ref p] ∧ (SqL K H p ys ∨ SqT K H p ys) ∧ NewT K H Q ys
theorem call_tupS : CallR X (.type "tuple") (rTupOf X.K) := callr_weak call_tuple_of fun vs H Q ⟨p, ys, e, h, q⟩ => ⟨p, ys, e, h.elim (fun h => .inl ⟨h, q.al⟩) (fun h => .inr ⟨h, q.here h⟩)⟩
def rLstOf (K : PySem.W.Frag) : List V → Hp → VK → Prop := fun vs H Q => ∃ p ys, vs = [.ref p] ∧ (SqL K H p ys ∨ SqT K H p ys) ∧ NewL H Q ys
theorem call_lstS : CallR X (.type "list") (rLstOf X.K) := callr_weak call_list_of fun vs H Q ⟨p, ys, e, h, q⟩ => ⟨p, ys, e, h, q.al⟩
def rDivmod (K : PySem.W.Frag) : List V → Hp → VK → Prop := fun vs H Q => ∃ i j, vs = [.int i, .int j] ∧ CDivP i j ∧ NewT K H Q [.int (i / j), .int (i % j)]
theorem call_divmodS : CallR X (.builtin "divmod") (rDivmod X.K) := callr_weak call_divmodW fun vs H Q ⟨i, j, e, c, q⟩ => ⟨i, j, e, c, q.al⟩
end
end RL
/-! S5 -/
set_option Elab.async false
set_option linter.all false
set_option maxRecDepth 100000
set_option maxHeartbeats 2000000
namespace RL
open PySem PySem.Spec PyProof.Rows L2
theorem tuple_mul0 (l : Addr) (items : Array Value) (n : Nat) (dd : Option Addr) (sl : Array (Option Value)) (x : Int) (u : Tok) (c0 : (decide (x < -(2 ^ 63)) || decide (x ≥ 2 ^ 63)) = false) (c1 : (items.isEmpty || x == 1) = false) (c2 : (decide (x ≤ 0) || items.isEmpty) = true) :
    Meets (Builtin.«tuple.__mul__» ⟨[.ref l, .int x u], []⟩) (fun _ R s => s.heap.get? l = some { cls := .type "tuple", dict := dd, data := .seq items n, slots := sl } ∧
      R (.ok (.ret (Value.ref s.heap.objs.size))) { s with heap := s.heap.push { cls := Value.type "tuple", data := Data.seq #[] }, toks := s.toks }) :=
  .of_wp fun prog w A R s h => by
    obtain ⟨hp, g, d, tk, os⟩ := s
    obtain ⟨hl, h⟩ := h
    have f1 := AutoSeq1.idx_int
    wp_walk using wpAny_loadPart' hl
    repeat (first
      | (refine wpAny_ite_false (decide_eq_false (by rw [c0]; exact Bool.false_ne_true)) ?_; wp_walk using wpAny_loadPart' hl)
      | (refine wpAny_ite_false (decide_eq_false (by rw [c1]; exact Bool.false_ne_true)) ?_; wp_walk using wpAny_loadPart' hl)
      | (refine wpAny_ite_true (decide_eq_true c2) ?_; wp_walk using wpAny_loadPart' hl))
    exact ⟨_, rfl, h⟩
theorem tuple_mul1 (l : Addr) (items : Array Value) (n : Nat) (dd : Option Addr) (sl : Array (Option Value)) (x : Int) (u : Tok) (c0 : (decide (x < -(2 ^ 63)) || decide (x ≥ 2 ^ 63)) = false) (c1 : (items.isEmpty || x == 1) = true) :
    Meets (Builtin.«tuple.__mul__» ⟨[.ref l, .int x u], []⟩) (fun _ R s => s.heap.get? l = some { cls := .type "tuple", dict := dd, data := .seq items n, slots := sl } ∧
      R (.ok (.ret (Value.ref l))) s) :=
  .of_wp fun prog w A R s h => by
    obtain ⟨hp, g, d, tk, os⟩ := s
    obtain ⟨hl, h⟩ := h
    have f1 := AutoSeq1.idx_int
    wp_walk using wpAny_loadPart' hl
    repeat (first
      | (refine wpAny_ite_false (decide_eq_false (by rw [c0]; exact Bool.false_ne_true)) ?_; wp_walk using wpAny_loadPart' hl)
      | (refine wpAny_ite_true (decide_eq_true c1) ?_; wp_walk using wpAny_loadPart' hl))
    exact ⟨_, rfl, h⟩
/-- t * k, k any number to 1000 -/
def rRepS (K : PySem.W.Frag) : R2 := fun x y H Q => ∃ l k xs, x = .ref l ∧ y = .int k ∧ SqT K H l xs ∧ -(2 ^ 62) ≤ k ∧ k ≤ 1000 ∧ xs.length ≤ 1000 ∧ NewT K H Q (List.replicate k.toNat xs).flatten
section
variable {X : Cx}
theorem op_repS : OpR X (binaryOp .Mult) (rRepS X.K) := by
  intro pins s σ H x y v u Q I rx ry h
  obtain ⟨l, k, xs, rfl, rfl, hT, h1, h2, hz, q⟩ := h
  by_cases hbig : xs ≠ [] ∧ 2 ≤ k
  · exact op_repT pins s σ H _ _ v u Q I rx ry ⟨l, k, xs, rfl, rfl, hT, hbig.1, hbig.2, h2, hz, q.al⟩
  cases rx
  obtain ⟨t, rfl⟩ := ry
  obtain ⟨its, r, ht⟩ := I.tuple hT
  obtain ⟨⟨⟨cls, dd, data, sl⟩, ho, hc, n, hd⟩, hs⟩ := id ht
  simp only at hc hd
  subst hc hd
  have hle : its.length = xs.length := r.length.symm
  have c0 : (decide (k < -(2 ^ 63)) || decide (k ≥ 2 ^ 63)) = false := by
    rw [decide_eq_false (by omega), decide_eq_false (by omega)] <;> rfl
  by_cases hone : (its.toArray.isEmpty || k == 1) = true
  · refine wpAny_binaryOp_repeat_ref (T := "tuple") (U := "int") (by decide) ⟨_, ho, rfl⟩ (fun s' => typeIs_int s' k t) noFill_tuple_mul F.fills_int_mul F.slot_int_rmul repeat_tuple F.slot_int_index.lookup
      (call_meets F.slot_int_rmul (typeIs_int s k t) F.entry_int_rmul (F.args_int_rmul_2 _ _) (int_rmul_tuple k t l its.toArray n dd sl)
        ⟨ho, rfl, ⟨_, ho, rfl⟩, call_meets F.slot_tuple_mul ⟨_, ho, rfl⟩ F.entry_tuple_mul (F.args_tuple_mul_2 _ _) (tuple_mul1 l its.toArray n dd sl k t c0 hone) ⟨ho, ?_⟩⟩)
    refine ⟨.ref l, H, I, rfl, ?_⟩
    have e : (List.replicate k.toNat xs).flatten = xs := by
      rw [Bool.or_eq_true] at hone
      rcases hone with z | z
      · have e0 : its = [] := by
          cases its with
          | nil => rfl
          | cons a b => cases z
        have e1 : xs = [] := by
          rw [e0] at hle
          exact List.eq_nil_of_length_eq_zero hle.symm
        rw [e1]
        simp
      · have e0 : k = 1 := eq_of_beq z
        rw [e0]
        simp
    rw [e] at q
    exact q.here hT
  · have hone : (its.toArray.isEmpty || k == 1) = false := Bool.eq_false_iff.mpr hone
    have hk : k ≤ 0 := by
      rw [Bool.or_eq_false_iff] at hone
      have n1 : xs ≠ [] := fun z => by
        rw [z] at hle
        have e0 : its = [] := List.eq_nil_of_length_eq_zero hle
        rw [e0] at hone
        exact absurd hone.1 (by decide)
      have n2 : k ≠ 1 := beq_eq_false_iff_ne.mp hone.2
      have n3 : ¬ 2 ≤ k := fun z => hbig ⟨n1, z⟩
      omega
    have c2 : (decide (k ≤ 0) || its.toArray.isEmpty) = true := by rw [decide_eq_true hk, Bool.true_or]
    refine wpAny_binaryOp_repeat_ref (T := "tuple") (U := "int") (by decide) ⟨_, ho, rfl⟩ (fun s' => typeIs_int s' k t) noFill_tuple_mul F.fills_int_mul F.slot_int_rmul repeat_tuple F.slot_int_index.lookup
      (call_meets F.slot_int_rmul (typeIs_int s k t) F.entry_int_rmul (F.args_int_rmul_2 _ _) (int_rmul_tuple k t l its.toArray n dd sl)
        ⟨ho, rfl, ⟨_, ho, rfl⟩, call_meets F.slot_tuple_mul ⟨_, ho, rfl⟩ F.entry_tuple_mul (F.args_tuple_mul_2 _ _) (tuple_mul0 l its.toArray n dd sl k t c0 hone c2) ⟨ho, ?_⟩⟩)
    have e : k.toNat = 0 := by omega
    rw [e] at q
    refine ⟨.ref s.heap.objs.size, _, I.laid (t' := s.toks) (o := .tup []) (fun b ob q => Heap.get?_push_of_some _ q) (Nat.le_refl _) ?_, rfl, NewT.al (xs := []) q _ (I.hok.fresh (Nat.le_refl _))⟩
    exact ⟨Nat.zero_le _, [], .nil, IsTup.new _ _⟩
end
end RL
/-! S6 -/
set_option Elab.async false
set_option linter.all false
set_option maxRecDepth 100000
set_option maxHeartbeats 4000000
namespace RL
open PySem PySem.Spec PyProof.Rows L2 PpSet
/-- a set of tuples of ints stands at D, its members' tuples are known -/
def SetTs (K : PySem.W.Frag) (P : Program) (w : World) (H : Hp) (D : Addr) (L : List (Addr × List Int)) : Prop := H D = some (SetTO P w D L) ∧ ∀ p ∈ L, SqT K H p.1 (p.2.map V.int)
section
variable {X : Cx}
theorem addT_ok {pins : List (Addr × Obj)} {σ : L2.St} {H : Hp} {s : Shared} {E : Value → Shared → Prop} {D x : Addr} {L : List (Addr × List Int)} {k : List Int} {Q : Value → Shared → Prop} (hu : X.A.units + 3 < cLine) (I : Inv X pins σ H s)
    (hD : SetTs X.K X.prog X.w H D L) (hx : SqT X.K H x (k.map V.int)) (few : L.length + 1 < 64)
    (h : ∀ s' L', Inv X pins σ (upd H D (SetTO X.prog X.w D L')) s' → (k ∈ L.map (·.2) → L' = L) → (k ∉ L.map (·.2) → L'.Perm ((x, k) :: L)) → Q .none s') :
    wpAny (model X.prog X.w) X.A (call (.builtin "set.add") [.ref D, .ref x]) Q E s := by
  have R0 : SetT0 X.prog X.w s.heap D L := (I.hok D _ hD.1).1
  obtain ⟨es, ep, t, R⟩ := R0.full fun p hp => I.isT (hD.2 p hp)
  have ix := I.isT hx
  obtain ⟨o, ho, hex, hd⟩ := R.ob
  refine wpAny_call_entry F.slot_set_add ⟨o, ho, hex.1⟩ F.entry_set_add ?_ (F.args_set_add_2 _ _)
  unfold Builtin.«set.add» Builtin.Frozenset.oneOther
  simp only [List.isEmpty_nil, bind_assoc]
  unfold Builtin.Frozenset.addrOf setAdd
  refine wpAny_bind (wpAny_pure ?_)
  try dsimp only
  refine wpAny_bind (wpAny_pure ?_)
  try dsimp only
  refine wpAny_bind (wpAny_holding (wpAny_bind (wpAny_pyHash_tuple (by show X.A.units + 1 < cLine; omega) ix ?_)))
  refine add_at (s := { s with toks := s.toks + (k.length + 1) }) R ix (by show X.A.units + 1 < cLine; omega) few fun b h' L' es' ep' t' sb R' c1 c2 => ?_
  have he : ∃ u, h'.get? D = some u := by
    obtain ⟨o', ho', _⟩ := R'.ob
    exact ⟨o', ho'⟩
  exact wpAny_pure ⟨_, rfl, h _ L' (I.write (e := D) (t' := s.toks + (k.length + 1)) (by rw [hD.1]; trivial) (.inl rfl) (fun b u hb hu => (sb.2 b hb).trans hu) he (setTO_new R'.t0)) c1 c2⟩
/-- {elt for target in iter if ..}, elt a tuple of ints: D the new set -/
def tScT (K : PySem.W.Frag) (P : Program) (w : World) (wi : TI) (g : TG) (tt : TT) (te : TE) (vs : List Nat) : TE := fun σ H Q => wi σ H fun J H1 => ∀ D, H1 D = none → ∃ W : Nat → Nat → Hp → Prop, (∃ m, W 0 m (upd H1 D (SetTO P w D []))) ∧ ∀ i m H, W i m H →
  (J.stop i H ∧ Q (.ref D) H) ∨ (J.go i H ∧ ∃ Nx : Hp → Prop, (∀ H', Nx H' → ∃ m', m' < m ∧ W (i + 1) m' H') ∧ ∀ x H', J.yld i H x H' → g x (wipe σ vs) H' fun σ2 H2 => wipe σ2 vs = wipe σ vs ∧ tt σ2 H2 fun b H3 =>
    if b = true then te σ2 H3 fun y H4 => ∃ (a : Addr) (k : List Int) (L : List (Addr × List Int)), y = .ref a ∧ SetTs K P w H4 D L ∧ SqT K H4 a (k.map V.int) ∧ L.length + 1 < 64 ∧
      ∀ L', (k ∈ L.map (·.2) → L' = L) → (k ∉ L.map (·.2) → L'.Perm ((a, k) :: L)) → Nx (upd H4 D (SetTO P w D L')) else Nx H3)
theorem pe_scT {elt tg iter : Expr} {ifs : List Expr} {scope : Scope} {own : List (PySem.Str × Nat)} {pos : Pos} {wi : TI} {g : TG} {tt : TT} {te : TE} (hc : X.calm = true) (hu : X.A.units + 3 < cLine) (hN : X.N.Nodup) (hi : PI X tg iter wi) (ok : BlkOk X.N X.env.scope scope own)
    (hg : ∀ (s : Shared) (H : Hp) (C : Addr) (cl : List (PySem.Str × Addr)) (fp : List Addr), PG (X.blk s H scope (compEnvC scope cl C X.env) fp) tg g) (ht : ∀ (s : Shared) (H : Hp) (C : Addr) (cl : List (PySem.Str × Addr)) (fp : List Addr), PTs (X.blk s H scope (compEnvC scope cl C X.env) fp) ifs tt)
    (he : ∀ (s : Shared) (H : Hp) (C : Addr) (cl : List (PySem.Str × Addr)) (fp : List Addr), PE (X.blk s H scope (compEnvC scope cl C X.env) fp) elt te) (hs : ∀ x, foldedSetIterable iter X.env x = pure x := by intro _; rfl) :
    PE X (.SetComp elt [⟨tg, iter, ifs, 0⟩] scope pos) (tScT X.K X.prog X.w wi g tt te (own.map (·.2))) := by
  refine ⟨fun pins s σ H Q I h => ?_⟩
  rw [eval_SetComp]
  have caught : ∀ y ∈ scope.names, y.2 = .free → ∃ c, X.env.cells.lookup y.1 = some c := fun y hy e => (ok.free y hy e).elim (fun k => I.ok.has _ (.inl k)) (fun k => I.ok.has _ (.inr k))
  refine wpAny_comprehension_free (use := none) rfl hs (closure_ok caught) ok.kind (fun y hy e => by rw [ok.uniq y hy, e]) (thn (hi.run pins s σ H _ I h) fun _ s1 q1 => thn q1 fun _ s2 q2 => ?_)
  obtain ⟨it, fp, tn, J, H2, rfl, I2, T, st2, f2, q⟩ := q2
  refine newSet_ok (newEnv_comp ?_)
  obtain ⟨D, hD⟩ : ∃ D, s2.heap.objs.size = D := ⟨_, rfl⟩
  obtain ⟨W, ⟨m0, w0⟩, turn⟩ := q D (I2.hok.fresh (Nat.le_of_eq hD))
  obtain ⟨o0, ho0⟩ : ∃ o0 : Obj, o0 = { cls := .type "set", dict := none, data := .set #[] 0 (.fresh 0 0 (!X.w.params.followText "set-order")) } := ⟨_, rfl⟩
  rw [hD, ← ho0]
  obtain ⟨s3, hs3⟩ : ∃ s3 : Shared, s3 = { s2 with heap := s2.heap.push o0 } := ⟨_, rfl⟩
  obtain ⟨H3, hH3⟩ : ∃ H3 : Hp, H3 = upd H2 D (SetTO X.prog X.w D []) := ⟨_, rfl⟩
  rw [← hH3] at w0
  have I3 : Inv X pins σ H3 s3 := by
    rw [hH3, hs3]
    refine I2.laid (t' := s2.toks) (fun b o e => Heap.get?_push_of_some _ e) (Nat.le_of_eq hD) (setTO_new (SetTR.t0 (setTR_fresh ?_)))
    rw [← hD, ho0]
    exact Heap.get?_push_size _ rfl
  have h3 : s3.heap = s2.heap.push o0 := by rw [hs3]
  have low : ∀ b ∈ fp, b < s2.heap.objs.size := fun b hb => let ⟨o, e, _⟩ := T.obj _ _ st2 b hb; Heap.lt_size e
  have f3 : ∀ b ∈ fp, FpOk X pins H3 b ∧ b < s3.heap.objs.size := fun b hb => by
    refine ⟨⟨?_, (f2 b hb).2⟩, by rw [h3, Heap.size_push]; exact Nat.lt_succ_of_lt (low b hb)⟩
    rw [hH3, upd_ne (fun z => Nat.lt_irrefl _ (Nat.lt_of_lt_of_eq (low b hb) (hD.trans z.symm)))]
    exact (f2 b hb).1
  have st3 : tn 0 s3.heap := T.keep _ _ _ st2 fun b _ o e => by rw [h3]; exact Heap.get?_push_of_some _ e
  have I4 := block_start I3 ok hN f3
  obtain ⟨ce, hce⟩ : ∃ ce, ce = compEnvC scope (cellsFrom (s3.heap.objs.size + 1) scope.names (cloFrom X.env.cells scope.names [])) s3.heap.objs.size X.env := ⟨_, rfl⟩
  rw [← hce] at I4
  have pg : PG (X.blk s3 H3 scope ce fp) tg g := by rw [hce]; exact hg _ _ _ _ _
  have pt : PTs (X.blk s3 H3 scope ce fp) ifs tt := by rw [hce]; exact ht _ _ _ _ _
  have pe : PE (X.blk s3 H3 scope ce fp) elt te := by rw [hce]; exact he _ _ _ _ _
  have cL : ce.locals = s3.heap.objs.size := by rw [hce] <;> rfl
  obtain ⟨s4, hs4⟩ : ∃ s4 : Shared, s4 = { s3 with heap := pushCells (s3.heap.push { cls := .type "dict", data := .dict #[] }) scope.names } := ⟨_, rfl⟩
  rw [← hs4] at I4
  have goal_eq : codeAny (model X.prog X.w) X.A (.compStart (.SetComp elt [⟨tg, iter, ifs, 0⟩] scope pos) 0 (.ref it) (.ref D) ce) (compPost (model X.prog X.w) X.A X.xe none (EP X pins σ Q) (.ref D) s3.heap.objs.size) s4 := ?_
  · rw [hce, hs4, hs3] at goal_eq
    exact goal_eq
  have st4 : tn 0 s4.heap := T.keep _ _ _ st3 fun b _ o e => by rw [hs4]; exact pushCells_keeps _ _ _ _ (Heap.get?_push_of_some _ e)
  have foot : ∀ {σ' : L2.St} {H' : Hp} {s' : Shared}, Inv (X.blk s3 H3 scope ce fp) [] σ' H' s' → (∀ b ∈ fp, H' b = none) → ∀ b ∈ fp, FpOk (X.blk s3 H3 scope ce fp) [] H' b := fun {σ' H' s'} I' hn b hb =>
    ⟨hn b hb, (I'.ok.exf b hb).1, I'.ok.exfs b hb, .inl hb, fun x c e => (I'.ok.exf b hb).2 x c e, fun p hp => absurd (show p ∈ ([] : List (Addr × Obj)) ++ [] from hp) (by simp)⟩
  have loop : codeAny (model X.prog X.w) X.A (.compLoop (.SetComp elt [⟨tg, iter, ifs, 0⟩] scope pos) 0 (.ref it) (.ref D) ce) (compPost (model X.prog X.w) X.A X.xe none (EP X pins σ Q) (.ref D) s3.heap.objs.size) s4 := by
    refine compLoopS_any (fun n s' => ∃ i H', Inv (X.blk s3 H3 scope ce fp) [] (wipe σ (own.map (·.2))) H' s' ∧ tn i s'.heap ∧ (∀ b ∈ fp, H' b = none) ∧ W i n H') (fun n s5 j5 => ?_) m0 ⟨0, H3, I4, st4, fun b hb => (f3 b hb).1.1, w0⟩
    obtain ⟨i, H5, I5, st5, n5, w5⟩ := j5
    rcases turn i n H5 w5 with ⟨stop, qq⟩ | ⟨go, Nx, hNx, step⟩
    · refine thnF (T.done (X.blk s3 H3 scope ce fp) rfl rfl rfl hc i [] s5 _ H5 (fun _ _ => False) I5 (foot I5 n5) st5 stop) fun r s6 ⟨hr, I6⟩ => ?_
      subst hr
      have I7 : Inv X pins σ H5 s6 := I3.call' (ch := fp) I6.os I6.base I6.hok I6.bare fun b hb => ⟨(f3 b hb).1.2.2.2.1, (f3 b hb).1.2.1, (f3 b hb).1.2.2.2.2.1, (f3 b hb).1.2.2.2.2.2⟩
      have nC : H5 s3.heap.objs.size = none := cL ▸ I6.free
      obtain ⟨m, hn, _⟩ := I6.loc
      have hn : s6.heap.Ns s3.heap.objs.size m := cL ▸ hn
      refine ⟨m, hn, fun h'' sb => ?_⟩
      obtain ⟨a0, a1, a2, a3, a4, a5⟩ := I3.fpOk (Nat.le_refl _) nC
      exact ⟨.ref D, H5, I7.turned (t' := s6.toks) (fun b o hb e => (sb.2 b hb).trans e) a0 a1 a3 a4 a5, rfl, qq⟩
    · refine thnF (T.item (X.blk s3 H3 scope ce fp) rfl rfl rfl hc i [] s5 _ H5 (fun _ _ => False) I5 (foot I5 n5) st5 go) fun r s6 ⟨u, hr, h6⟩ => ?_
      subst hr
      refine thnF h6 fun _ s7 ⟨x, H7, I7, r7, y7, st7, n7⟩ => ?_
      refine thnF (pg.run _ s7 _ H7 x u _ (I7.pinned (foot I7 n7) (T.obj _ _ st7)) r7 (step x H7 y7)) fun _ s8 ⟨σ8, H8, I8, hw8, q8⟩ => ?_
      refine thnF (pt.run _ s8 σ8 H8 _ I8 q8) fun b s9 ⟨H9, I9, q9⟩ => ?_
      have fin : ∀ {s' : Shared} {H' : Hp}, Inv (X.blk s3 H3 scope ce fp) ([] ++ pinsAt fp s7.heap) σ8 H' s' → Nx H' → ∃ m, m < n ∧ ∃ i H', Inv (X.blk s3 H3 scope ce fp) [] (wipe σ (own.map (·.2))) H' s' ∧ tn i s'.heap ∧ (∀ b ∈ fp, H' b = none) ∧ W i m H' := fun {s' H'} I' nx => by
        obtain ⟨m', hm, w'⟩ := hNx H' nx
        have pin' : ∀ b ∈ fp, ∀ o, s7.heap.get? b = some o → s'.heap.get? b = some o ∧ H' b = none := fun b hb o e =>
          let z := I'.pin (b, o) (List.mem_append_right _ (List.mem_append_right _ (mem_pinsAt hb e)))
          ⟨z.1, z.2.1⟩
        refine ⟨m', hm, i + 1, H', (I'.unpinned (pins := [])).weak (by rw [← hw8, wipe_length]) (fun j v e => (wipe_some (by rw [hw8]; exact e)).1), T.keep _ _ _ st7 fun b hb o e => (pin' b hb o e).1, fun b hb => ?_, w'⟩
        obtain ⟨o, e, _⟩ := T.obj _ _ st7 b hb
        exact (pin' b hb o e).2
      cases b with
      | false =>
        simp only [Bool.false_eq_true, if_false] at q9 ⊢
        exact fin I9 q9
      | true =>
        simp only [if_true] at q9 ⊢
        refine thnF (pe.run _ s9 σ8 H9 _ I9 q9) fun z s10 ⟨yv, H10, I10, r10, a, k, L, ey, hD10, hk10, few, nx⟩ => ?_
        subst ey
        cases (show z = Value.ref a from r10)
        exact addT_ok (X := X.blk s3 H3 scope ce fp) hu I10 hD10 hk10 few fun s11 L' I11 c1 c2 => fin I11 (nx L' c1 c2)
  exact codeAny_compStart_set loop (T.self X.A 0 _ _ _ st4 loop)
end
end RL
/-! S7 -/
set_option Elab.async false
set_option linter.all false
set_option maxRecDepth 100000
set_option maxHeartbeats 4000000
namespace RS
open PySem PySem.Spec PyProof.Rows PySem.W PySem.SeqAt
section
variable {prog : Program} {w : World} {A : Around} {E : Value → Shared → Prop} {s : Shared}
/-- the call of tuple's own __lt__, as sorting makes it -/
theorem call_tuple_lt {Q : Value → Shared → Prop} {l b : Addr} {items items2 : Array Value} {e r : Nat → Bool} (hl : s.heap.IsTuple l items) (hb : s.heap.IsTuple b items2)
    (he : ∀ j (h1 : j < items.size) (h2 : j < items2.size), EqAt A.in1 s items[j] items2[j] (e j)) (hr : ∀ j (h1 : j < items.size) (h2 : j < items2.size), e j = false → RcLt A.in1 s items[j] items2[j] (r j))
    (h : Q (.bool (firstLt e r (decide (items.size < items2.size)) (List.range (min items.size items2.size)))) s) : wpAny (model prog w) A (call (.builtin "tuple.__lt__") [.ref l, .ref b]) Q E s := by
  obtain ⟨⟨cls, dd, data, sl⟩, ho, hc, n, hd⟩ := id hl
  obtain ⟨⟨cls2, dd2, data2, sl2⟩, ho2, hc2, n2, hd2⟩ := id hb
  simp only at hc hd hc2 hd2
  subst hc hd hc2 hd2
  exact call_meets F.slot_tuple_lt ⟨_, ho, rfl⟩ F.entry_tuple_lt (F.args_tuple_lt_2 _ _) (tuple_ltAt l b items items2 n n2 dd dd2 sl sl2 e r) ⟨ho, ho2, he, hr, h⟩
theorem oneLt_tups {f : Bool} {xs ys : List PyData} {a b : Value} {as bs : List Addr} {Q : Bool → Shared → Prop} (ra : Reads s.heap a (.tuple xs) as) (rb : Reads s.heap b (.tuple ys) bs) (h : alike (.tuple xs) (.tuple ys) = true)
    (hu : A.units + min (PyData.tuple xs).depth (PyData.tuple ys).depth < cLine) (hq : Q (dataLt (.tuple xs) (.tuple ys)) s) : wpAny (model prog w) A (oneLt' f a b) Q E s := by
  cases f with
  | false => exact oneLt_alike (fun z => nomatch z) ra rb h (fun z => nomatch z) hu hq
  | true =>
    have hal : alikeAll xs ys = true := by simpa [alike] using h
    cases ra with
    | @tuple l o vs n _ as₁ h1 h2 h3 h4 =>
      cases rb with
      | @tuple l' o' vs' n' _ bs₁ k1 k2 k3 k4 =>
        have n1 : vs.size = xs.length := by simpa using ReadsAll.length _ _ _ h4
        have n2 : vs'.size = ys.length := by simpa using ReadsAll.length _ _ _ k4
        rw [dataLt_tuple, ← firstLt_toks xs ys hal, ← n1, ← n2] at hq
        rw [oneLt'_eq]
        simp only [if_true]
        refine wpAny_bind (wpAny_cRoomFor (room_here hu) ?_)
        refine wpAny_bind (wpAny_callSpecialIfBound?_slot (T := "tuple") ⟨_, h1, h2⟩ F.slot_tuple_lt (call_tuple_lt (e := pairEq xs ys) (r := fun j => dataLt (xs.getD j .none) (ys.getD j .none)) ⟨_, h1, h2, _, h3⟩ ⟨_, k1, k2, _, k3⟩ (fun j j1 j2 => ?_) (fun j j1 j2 hj => ?_) (wpAny_truthy_bool hq)))
        · have := eqAt_alikeAll xs ys A.in1 s vs.toList vs'.toList _ _ h4 k4 hal (room_in hu) j (by simpa using j1) (by simpa using j2)
          simpa using this
        · have := rcLt_alikeAll xs ys A.in1 s vs.toList vs'.toList _ _ h4 k4 hal (room_in hu) j (by simpa using j1) (by simpa using j2) hj
          simpa using this
theorem each_right {α β : Type} {R : α → β → Prop} : ∀ {as : List α} {bs : List β}, EachIs R as bs → ∀ b ∈ bs, ∃ a ∈ as, R a b
  | _, _, .nil, b, hb => by cases hb
  | _, _, .cons r t, b, hb => by
    rcases List.mem_cons.mp hb with z | z
    · subst z; exact ⟨_, List.mem_cons_self, r⟩
    · obtain ⟨a, ha, q⟩ := each_right t b z
      exact ⟨a, List.mem_cons_of_mem _ ha, q⟩
theorem firsts_any : ∀ (vs : List Value) (f : Value → Option Value) {Q : List (Option Value) → Shared → Prop}, (∀ v ∈ vs, ∃ a o xs n, v = .ref a ∧ s.heap.get? a = some o ∧ o.cls = .type "tuple" ∧ o.data = .seq xs n ∧ xs[0]? = f v) →
    Q (vs.map f) s → wpAny (model prog w) A (vs.mapM firstOfTuple') Q E s
  | [], f, Q, _, h => by rw [List.mapM_nil]; exact wpAny_pure h
  | v :: vs, f, Q, t, h => by
    obtain ⟨a, o, xs, n, rfl, ho, hc, hd, hf⟩ := t v List.mem_cons_self
    rw [List.mapM_cons]
    refine wpAny_bind ?_
    rw [kas_first_eq]
    refine wpAny_bind (Looks.here (show Looks _ s.heap (typeOf (.ref a)) o.cls from (Looks.ld ho).andThen .now) ?_)
    rw [hc, if_neg (by first | decide | simp)]
    refine wpAny_bind (listItems_at ho hd (wpAny_pure ?_))
    rw [hf]
    exact wpAny_bind (firsts_any vs f (Q := fun bs s' => wpAny (model prog w) A (pure (f (.ref a) :: bs)) Q E s') (fun v hv => t v (List.mem_cons_of_mem _ hv)) (wpAny_pure h))
/-- tuples that read as alike data, some of them perhaps empty, can be sorted -/
theorem sortsAt_tups {vs : List Value} {ds : List PyData} (e : EachIs (fun v d => ∃ as, Reads s.heap v d as) vs ds) (hal : AllAlike ds) (ht : ∀ d ∈ ds, ∃ xs, d = .tuple xs) (hu : ∀ d, d ∈ ds → A.units + d.depth < cLine) : SortsAt prog w A s (dataKind s.heap ds) vs := by
  by_cases hne : ∀ d ∈ ds, ∃ x r, d = .tuple (x :: r)
  · exact SortsAt.data e hal (.inl hne) hu
  have room : ∀ {d d' : PyData}, d ∈ ds → A.units + min d.depth d'.depth < cLine := fun {d d'} hd => Nat.lt_of_le_of_lt (Nat.add_le_add_left (Nat.min_le_left _ _) _) (hu d hd)
  have lt : ∀ (kd : SortKind), (∃ f, ∀ x y, keyLt' kd x y = oneLt' f x y) → H.LtAt prog w A s (dataKind s.heap ds) kd := fun kd ⟨f, hf⟩ => by
    intro E x y a b Q ha hb hq
    obtain ⟨d, as, hd, ra, rfl⟩ := dataKind_inv ha
    obtain ⟨d', as', hd', rb, rfl⟩ := dataKind_inv hb
    rw [hf]
    obtain ⟨xs, rfl⟩ := ht d hd
    obtain ⟨ys, rfl⟩ := ht d' hd'
    exact oneLt_tups ra rb (hal _ hd _ hd') (room hd) hq
  have first : ∃ f : Value → Option Value, ∀ v ∈ vs, ∃ a o xs n, v = .ref a ∧ s.heap.get? a = some o ∧ o.cls = .type "tuple" ∧ o.data = .seq xs n ∧ xs[0]? = f v := by
    refine ⟨fun v => match v with | .ref a => (match s.heap.get? a with | some o => (match o.data with | .seq xs _ => xs[0]? | _ => none) | none => none) | _ => none, fun v hv => ?_⟩
    obtain ⟨d, hd, as, r⟩ := e.left v hv
    obtain ⟨xs, rfl⟩ := ht d hd
    cases r with
    | @tuple l o ws n _ _ h1 h2 h3 h4 => exact ⟨l, o, ws, n, rfl, h1, h2, h3, by simp only [h1, h3]⟩
  obtain ⟨f, hf⟩ := first
  -- not all have a first item
  have hno : ((vs.map f).toArray.all fun x => x.isSome) = false := by
    cases hc : ((vs.map f).toArray.all fun x => x.isSome) with
    | false => rfl
    | true =>
      refine absurd (fun d hd => ?_) hne
      obtain ⟨v, hv, as, r⟩ := each_right e d hd
      obtain ⟨a, o, ws, n, ev, ho, _, hdt, hw⟩ := hf v hv
      obtain ⟨xs, rfl⟩ := ht d hd
      cases r with
      | @tuple l o' ws' n' _ _ h1 h2 h3 h4 =>
        cases ev
        rw [h1] at ho
        cases ho
        rw [h3] at hdt
        cases hdt
        have hs : (f (.ref a)).isSome = true := by
          simp only [List.all_toArray, List.all_map, List.all_eq_true, Function.comp] at hc
          exact hc _ hv
        rw [← hw] at hs
        have n1 : ws.size = xs.length := by simpa using ReadsAll.length _ _ _ h4
        cases xs with
        | cons x r => exact ⟨x, r, rfl⟩
        | nil =>
          have z : ws.size = 0 := n1
          rw [Array.getElem?_eq_none (by omega)] at hs
          exact absurd hs (by decide)
  refine ⟨fun v hv => ?_, ?_⟩
  · obtain ⟨d, hd, as, r⟩ := e.left v hv
    exact ⟨_, dataKind_some hal hd r⟩
  · have hT : ∀ v ∈ vs, Looks (model prog w) s.heap (typeOf v) (Value.type "tuple") := fun v hv => by
      obtain ⟨a, o, ws, n, ev, ho, hc, _, _⟩ := hf v hv
      subst ev
      rw [← hc]
      exact (Looks.ld ho).andThen .now
    by_cases h1 : ((vs.map f).toArray[0]?.bind id).isSome = true
    · refine ⟨general', lt _ ⟨false, fun _ _ => rfl⟩, fun h2 E Q hq => ?_⟩
      rw [kat_kind_eq, List.mapM_toArray, map_eq_pure_bind]
      refine wpAny_bind (wpAny_bind (firsts_any vs f hf (wpAny_pure ?_)))
      rw [if_neg (by rw [hno]; decide), if_pos h1]
      exact wpAny_pure hq
    · refine ⟨oneType', lt _ ⟨true, fun _ _ => keyLt'_oneType _ _⟩, fun h2 E Q hq => ?_⟩
      rw [kat_kind_eq, List.mapM_toArray, map_eq_pure_bind]
      refine wpAny_bind (wpAny_bind (firsts_any vs f hf (wpAny_pure ?_)))
      rw [if_neg (by rw [hno]; decide), if_neg h1, oneTypeOnly'_eq, List.mapM_toArray, map_eq_pure_bind]
      refine wpAny_bind (wpAny_bind (wpAny_bind (kas_mapM (r := Value.type "tuple") _ (fun v hv Q' hq => (hT v hv).here hq) (wpAny_pure ?_))))
      have hall : ((List.map (fun _ => Value.type "tuple") vs).toArray.all fun x => x == Value.type "tuple") = true := by
        simp only [List.all_toArray, List.all_map, List.all_eq_true]
        intro _ _
        exact beq_self_eq_true _
      have h0 : (List.map (fun _ => Value.type "tuple") vs).toArray[0]? = some (Value.type "tuple") := by
        match vs, h2 with
        | v :: _, _ => simp
      rw [h0]
      simp only [hall, if_true]
      exact wpAny_pure (wpAny_pure hq)
end
end RS
/-! S8 -/
set_option Elab.async false
set_option linter.all false
set_option maxRecDepth 100000
set_option maxHeartbeats 4000000
namespace RS
open PySem PySem.Spec PyProof.Rows PySem.W PySem.SeqAt
section
variable {prog : Program} {w : World} {A : Around} {E : Value → Shared → Prop} {s : Shared} {β : Type} {R : Value → β → Prop} {enc : β → PyData} {vs : List Value} {bs : List β}
/-- what may be sorted: as the library says, or tuples of which some may be empty -/
def SortableT (ds : List PyData) : Prop := Sortable ds ∨ ∀ d ∈ ds, ∃ xs, d = .tuple xs
theorem sortsAt_any {ds : List PyData} (e : EachIs (fun v d => ∃ as, Reads s.heap v d as) vs ds) (hal : AllAlike ds) (hk : SortableT ds) (hu : ∀ d, d ∈ ds → A.units + d.depth < cLine) : SortsAt prog w A s (dataKind s.heap ds) vs :=
  hk.elim (fun h => SortsAt.data e hal h hu) fun h => sortsAt_tups e hal h hu
theorem sorted_any {l : Addr} {Q : Value → Shared → Prop} (hl : s.heap.IsList l vs.toArray) (e : EachIs R vs bs) (er : EachIs (fun v b => ∃ as, Reads s.heap v (enc b) as) vs bs) (hal : AllAlike (bs.map enc)) (hk : SortableT (bs.map enc)) (hL : bs.length ≤ sizeLine)
    (hu : ∀ b, b ∈ bs → A.units + 2 + (enc b).depth < cLine) (h : ∀ out, out.length = bs.length → EachIs R out (bs.mergeSort (dataLe false enc)) → Q (.ref (s.heap.objs.size + 1)) { s with heap := sortedAll s.heap vs (List.toArray out) }) :
    wpAny (model prog w) A (call (.builtin "sorted") [.ref l]) Q E s := by
  have er' : EachIs (fun v b => ∃ as, Reads (sortingHeap (copyHeap s.heap vs) (s.heap.objs.size + 1) vs) v (enc b) as) vs bs := er.mono fun _ _ ⟨as, r⟩ => ⟨as, PyProof.Rows.Reads.keeps (fun _ _ => sorting_copy_old) r⟩
  refine sorted_vals hl (sortsAt_any (s := { s with heap := sortingHeap (copyHeap s.heap vs) (s.heap.objs.size + 1) vs }) (each_map (R := fun v d => ∃ as, Reads (sortingHeap (copyHeap s.heap vs) (s.heap.objs.size + 1) vs) v d as) enc er') hal hk (bound_map hu)) (by rw [e.length]; exact hL) ?_
  exact h _ (by rw [sortVals_length false rfl]; exact e.length) (sortVals_data false e er' hal)
end
end RS
namespace RL
open PySem PySem.Spec PyProof.Rows L2 PpSet
open PySem.W (AllAlike EachIs dataLe)
/-- values, each beside the datum that it reads as -/
abbrev VD := V × PyData
section
variable {X : Cx}
theorem each_of_vals : ∀ {zs : List VD} {us : List Value}, Vals (zs.map (·.1)) us → EachIs (fun v (z : VD) => RelV z.1 v) us zs
  | [], _, .nil => .nil
  | z :: zs, _, .cons r t => .cons r (each_of_vals t)
theorem vals_of_each : ∀ {zs : List VD} {us : List Value}, EachIs (fun v (z : VD) => RelV z.1 v) us zs → Vals (zs.map (·.1)) us
  | _, _, .nil => .nil
  | _, _, .cons r t => .cons r (vals_of_each t)
theorem each_reads {pins : List (Addr × Obj)} {σ : L2.St} {H : Hp} {s : Shared} (I : Inv X pins σ H s) : ∀ {zs : List VD} {us : List Value}, (∀ z ∈ zs, Dp X.K H z.1 z.2) → EachIs (fun v (z : VD) => RelV z.1 v) us zs → EachIs (fun v (z : VD) => ∃ as, Reads s.heap v z.2 as) us zs
  | _, _, _, .nil => .nil
  | _, _, h, .cons r t => .cons (Dp.reads I _ _ _ (h _ List.mem_cons_self) r) (each_reads I (fun z hz => h z (List.mem_cons_of_mem _ hz)) t)
/-- sorted(xs), xs a list of alike data -/
def rSortedD (K : PySem.W.Frag) : List V → Hp → VK → Prop := fun vs H Q => ∃ (a : Addr) (zs : List VD), vs = [V.ref a] ∧ SqL K H a (zs.map (·.1)) ∧ (∀ z ∈ zs, Dp K H z.1 z.2) ∧ AllAlike (zs.map (·.2)) ∧ RS.SortableT (zs.map (·.2)) ∧ (∀ z ∈ zs, z.2.depth ≤ 40) ∧
  NewL H Q ((zs.mergeSort (dataLe false (·.2))).map (·.1))
theorem cr_sortedD (hu : X.A.units + 64 < cLine) : CallR X (.builtin "sorted") (rSortedD X.K) := by
  intro pins s σ H vs us Q I r h
  obtain ⟨a, zs, rfl, hs, hx, hal, hk, hd, q⟩ := h
  obtain ⟨its, rv, hl, hz⟩ := I.list hs
  rw [Vals.ref1 r]
  have e := each_of_vals rv
  have hlen : zs.length ≤ sizeLine := by rw [List.length_map] at hz; exact hz
  refine RS.sorted_any (enc := fun z : VD => z.2) hl.isList e (each_reads I hx e) hal hk hlen (fun z hz => ?_) fun out h1 h2 => ?_
  · have := hd z hz
    omega
  · have fresh : H (s.heap.objs.size + 1) = none := I.hok.fresh (Nat.le_succ _)
    obtain ⟨n, hn⟩ := sortedAll_at s.heap its out.toArray
    refine ⟨.ref (s.heap.objs.size + 1), _, I.laid (t' := s.toks) (o := .lst ((zs.mergeSort (dataLe false (·.2))).map (·.1))) (fun b o q => sortedAll_old q) (Nat.le_succ _) ⟨?_, out, n, vals_of_each h2, hn⟩, rfl, NewL.al q _ fresh⟩
    rw [List.length_map, List.length_mergeSort]
    exact hlen
/-- the datum of a row of ints -/
abbrev dTup (k : List Int) : PyData := .tuple (k.map .int)
theorem depth_tup (k : List Int) : (dTup k).depth ≤ 1 := by
  show PyData.depth (.tuple (k.map .int)) ≤ 1
  simp only [PyData.depth, PySem.W.depth_ints]
  omega
theorem alike_tup (k l : List Int) : PySem.W.alike (dTup k) (dTup l) = true := by
  show PySem.W.alike (.tuple (k.map .int)) (.tuple (l.map .int)) = true
  simp only [PySem.W.alike]
  exact PySem.W.alike_ints k l
end
end RL
/-! S9 -/
set_option Elab.async false
set_option linter.all false
set_option maxRecDepth 100000
set_option maxHeartbeats 4000000
namespace RL
open PySem PySem.Spec PyProof.Rows L2 PpSet
open PySem.W (AllAlike EachIs dataLe)
section
variable {P : Program} {w : World} {A : Around} {E : Value → Shared → Prop} {s : Shared}
theorem reads_isT {h : Heap} {k : List Int} {a : Addr} (x : TS.TupInts h (.ref a) k) : ∃ as, Reads h (.ref a) (dTup k) as := by
  obtain ⟨b, xs, e, ⟨o, ho, hc, n, hd⟩, hi⟩ := x
  cases e
  have all : ∀ {us : List Value} {ns : List Int}, IntsAre us ns → ∃ as, ReadsAll h us (ns.map .int) as := by
    intro us ns q
    induction q with
    | nil => exact ⟨_, .nil⟩
    | cons n t _ ih =>
      obtain ⟨as, r⟩ := ih
      exact ⟨_, .cons (Reads.int n t) r⟩
  obtain ⟨as, r⟩ := all hi
  exact ⟨_, Reads.tuple ho hc hd r⟩
theorem sorted_setU {a : Addr} {L : List (Addr × List Int)} {es : Array (Int × Value)} {ep : Nat} {t : SetTable} {Q : Value → Shared → Prop} (R : SetTR P w s.heap a L es ep t) (hh : A.handled = none) (hu : A.units + 8 < cLine)
    (hQ : ∀ s' p (out : List Value) (c : Nat) (L1 : List (Addr × List Int)), (∀ b o, s.heap.get? b = some o → s'.heap.get? b = some o) → s'.gens = s.gens → s'.os = s.os → s.heap.objs.size ≤ p →
      s'.heap.get? p = some (seqObj "list" out.toArray c) → L1.Perm L → out = (L1.mergeSort (dataLe false fun q => dTup q.2)).map (fun q => Value.ref q.1) → Q (.ref p) s') :
    wpAny (model P w) A (call (.builtin "sorted") [.ref a]) Q E s := by
  obtain ⟨o, ho, hex, hd⟩ := R.ob
  have hsz := R.size
  have hfew := R.few
  refine Calls.call_function_entry kind_sorted plain_sorted entry_sorted (args_sorted1 _) ?_
  unfold Builtin.«sorted»
  refine wpAny_bind (m := checkCount "sorted" 1 1 _) (wpAny_pure ?_)
  refine wpAny_bind (collect_set (A := A.in1) hh ⟨o, ho, hex.1, hd⟩ R.fits (by unfold scanBound; omega) R.tab.ris R.led fun s1 vs k1 hz g1 o1 pm => ?_)
  have hes : es.toList.map (·.2) = L.map fun q => Value.ref q.1 := by
    rw [R.rows]
    unfold rowsOf
    rw [List.map_map] <;> rfl
  rw [hes] at pm
  -- some arrangement of the rows
  have arr : ∀ (vs : List Value) (L : List (Addr × List Int)), vs.Perm (L.map fun q => Value.ref q.1) → ∃ L1 : List (Addr × List Int), L1.Perm L ∧ vs = L1.map fun q => Value.ref q.1 := by
    intro vs
    induction vs with
    | nil =>
      intro L p
      have e : L = [] := by
        have q := p.length_eq
        rw [List.length_map] at q
        exact List.eq_nil_of_length_eq_zero q.symm
      exact ⟨[], by rw [e], rfl⟩
    | cons v vs ih =>
      intro L p
      obtain ⟨q, hq, e⟩ := List.mem_map.mp (p.mem_iff.mp (List.mem_cons_self))
      obtain ⟨l1, l2, rfl⟩ := List.append_of_mem hq
      have p2 : vs.Perm ((l1 ++ l2).map fun q => Value.ref q.1) := by
        have z : (v :: vs).Perm (v :: ((l1 ++ l2).map fun q => Value.ref q.1)) := by
          refine p.trans ?_
          rw [← e, List.map_append, List.map_append, List.map_cons]
          exact List.perm_middle
        exact z.cons_inv
      obtain ⟨L1, pL, e1⟩ := ih _ p2
      exact ⟨q :: L1, (pL.cons q).trans List.perm_middle.symm, by rw [List.map_cons, e, e1]⟩
  obtain ⟨L1, pL, rfl⟩ := arr vs L pm
  have hlen : (L1.map fun q => Value.ref q.1).length ≤ sizeLine := by rw [List.length_map, pL.length_eq, sizeLine_eq]; omega
  refine wpAny_bind (wpAny_newList ?_ (by exact hlen))
  have hoL : (s1.heap.push (seqObj "list" (L1.map fun q => Value.ref q.1).toArray 0)).get? s1.heap.objs.size = some (seqObj "list" (L1.map fun q => Value.ref q.1).toArray 0) := Heap.get?_push_size _ rfl
  generalize hh1 : s1.heap.push (seqObj "list" (L1.map fun q => Value.ref q.1).toArray 0) = h1 at hoL ⊢
  have old1 : ∀ b o, s.heap.get? b = some o → h1.get? b = some o := fun b o e => by rw [← hh1]; exact Heap.get?_push_of_some _ (k1 b o e)
  have ne : ∀ b o, s.heap.get? b = some o → b ≠ s1.heap.objs.size := fun b o e => Nat.ne_of_lt (Heap.lt_size (k1 b o e))
  have rd : ∀ q ∈ L1, ∃ as, Reads (PySem.W.sortingHeap h1 s1.heap.objs.size (L1.map fun q => Value.ref q.1)) (.ref q.1) (dTup q.2) as := fun q hq => by
    have x : IsT P w s.heap q.2 q.1 := R.tup q (pL.mem_iff.mp hq)
    exact reads_isT (tupInts_of (P := P) (w := w) (isT_keep x fun b o e => PySem.W.sortingHeap_old (ne b o e) (old1 b o e)))
  have eR : ∀ l : List (Addr × List Int), EachIs (fun v (q : Addr × List Int) => v = Value.ref q.1) (l.map fun q => Value.ref q.1) l := by
    intro l
    induction l with
    | nil => exact .nil
    | cons q l ih => exact .cons rfl ih
  have er : ∀ l : List (Addr × List Int), (∀ q ∈ l, q ∈ L1) → EachIs (fun v (q : Addr × List Int) => ∃ as, Reads (PySem.W.sortingHeap h1 s1.heap.objs.size (L1.map fun q => Value.ref q.1)) v (dTup q.2) as) (l.map fun q => Value.ref q.1) l := by
    intro l
    induction l with
    | nil => intro _; exact .nil
    | cons q l ih => intro h; exact .cons (rd q (h q List.mem_cons_self)) (ih fun r hr => h r (List.mem_cons_of_mem _ hr))
  have er1 := er L1 fun _ h => h
  have hal : AllAlike (L1.map fun q => dTup q.2) := PySem.W.AllAlike.of fun b b' => alike_tup _ _
  have hS := RS.sortsAt_any (prog := P) (w := w) (A := A.in1.in1) (s := { s1 with heap := PySem.W.sortingHeap h1 s1.heap.objs.size (L1.map fun q => Value.ref q.1) }) (PySem.W.each_map (R := fun v d => ∃ as, Reads (PySem.W.sortingHeap h1 s1.heap.objs.size (L1.map fun q => Value.ref q.1)) v d as) (fun q : Addr × List Int => dTup q.2) er1) hal (.inr fun d hd => by
      obtain ⟨q, _, e⟩ := List.mem_map.mp hd
      exact ⟨_, e.symm⟩) (fun d hd => by
      obtain ⟨q, _, e⟩ := List.mem_map.mp hd
      have := depth_tup q.2
      rw [← e]
      show A.units + 1 + 1 + (dTup q.2).depth < cLine
      omega)
  have outs := PySem.W.sortVals_data (R := fun v (q : Addr × List Int) => v = Value.ref q.1) (enc := fun q : Addr × List Int => dTup q.2) false (eR L1) er1 hal
  have outE : ∀ (vs : List Value) (l : List (Addr × List Int)), EachIs (fun v (q : Addr × List Int) => v = Value.ref q.1) vs l → vs = l.map fun q => Value.ref q.1 := by
    intro vs l e
    induction e with
    | nil => rfl
    | cons r _ ih => rw [List.map_cons, r, ih]
  have outs' := outE _ _ outs
  refine wpAny_bind (wpAny_holding (wpAny_call_entry slot_list_sort ⟨_, hoL, rfl⟩ entry_list_sort ?_ (args_list_sort _)))
  refine PySem.W.list_sort_vals (s := { s1 with heap := h1 }) hoL hS hlen ⟨_, rfl, wpAny_pure ⟨_, rfl, ?_⟩⟩
  obtain ⟨c, hc⟩ := sortedHeap_at (vs := L1.map fun q => Value.ref q.1) (out := (PySem.W.sortVals (PySem.W.dataKind (PySem.W.sortingHeap h1 s1.heap.objs.size (L1.map fun q => Value.ref q.1)) (L1.map fun q => dTup q.2)) false (L1.map fun q => Value.ref q.1) (L1.map fun q => Value.ref q.1)).toArray) hoL
  refine hQ _ s1.heap.objs.size _ c L1 (fun b u e => ?_) g1 o1 hz hc pL outs'
  show (sortedHeap h1 s1.heap.objs.size _ _).get? b = some u
  rw [sortedHeap_old (ne b u e) (Heap.lt_size (old1 b u e))]
  exact old1 b u e
end
end RL
/-! S10 -/
set_option Elab.async false
set_option linter.all false
set_option maxRecDepth 100000
set_option maxHeartbeats 4000000
namespace RL
open PySem PySem.Spec PyProof.Rows L2 PpSet
open PySem.W (AllAlike EachIs dataLe)
section
variable {X : Cx}
/-- sorted(a set of tuples of ints) -/
def rSortedU (K : PySem.W.Frag) (P : Program) (w : World) : List V → Hp → VK → Prop := fun vs H Q => ∃ (a : Addr) (L : List (Addr × List Int)), vs = [V.ref a] ∧ SetTs K P w H a L ∧
  ∀ L1 : List (Addr × List Int), L1.Perm L → (L1.map (·.2)).Nodup → NewL H Q ((L1.mergeSort (dataLe false fun q => dTup q.2)).map fun q => V.ref q.1)
theorem cr_sortedU (hc : X.calm = true) (hu : X.A.units + 8 < cLine) : CallR X (.builtin "sorted") (rSortedU X.K X.prog X.w) := by
  intro pins s σ H vs us Q I r h
  obtain ⟨a, L, rfl, ⟨ha, hk⟩, q⟩ := h
  have R0 : SetT0 X.prog X.w s.heap a L := (I.hok a _ ha).1
  obtain ⟨es, ep, t, R⟩ := R0.full fun p hp => I.isT (hk p hp)
  rw [Vals.ref1 r]
  refine sorted_setU R (I.ok.hd hc) hu fun s' p out c L1 k g o hp hg pm hout => ?_
  have hnd : (L1.map (·.2)).Nodup := (pm.map (·.2)).nodup_iff.mpr R.nd
  have hlen : ((L1.mergeSort (dataLe false fun q => dTup q.2)).map fun q => V.ref q.1).length ≤ sizeLine := by
    have := R.few
    rw [List.length_map, List.length_mergeSort, pm.length_eq, sizeLine_eq]
    omega
  have hn : H p = none := I.hok.fresh hp
  have hv : Vals ((L1.mergeSort (dataLe false fun q => dTup q.2)).map fun q => V.ref q.1) out := by rw [hout]; exact vals_of_refs _
  have J : Inv X pins σ (upd H p (.lst ((L1.mergeSort (dataLe false fun q => dTup q.2)).map fun q => V.ref q.1))) { s with heap := s'.heap, gens := s'.gens, drawn := s'.drawn, toks := s'.toks } :=
    I.call (ch := []) (Un.laid k hp hn) (I.hok.laid k hp ⟨hlen, out, c, hv, hg⟩) (by rw [g]; exact I.bare) (fun _ z => nomatch z)
  have e : s' = { s with heap := s'.heap, gens := s'.gens, drawn := s'.drawn, toks := s'.toks } := by
    cases s'
    cases s
    cases o
    rfl
  rw [e]
  exact ⟨.ref p, _, J, rfl, NewL.al (q L1 pm hnd) p hn⟩
/-- a comprehension over a tuple, its members tuples of ints -/
theorem sc_tupT {K : PySem.W.Frag} {P : Program} {w : World} {a : Addr} {xs : List V} {g : TG} {tt : TT} {te : TE} {vs : List Nat} {σ : L2.St} {H1 : Hp} {D : Addr} {Qd : Hp → Prop} (Pv : Nat → Hp → Prop) (h0 : Pv 0 (upd H1 D (SetTO P w D []))) (hl : ∀ i H, i ≤ xs.length → Pv i H → SqT K H a xs)
    (hs : ∀ i x H, xs[i]? = some x → Pv i H → g x (wipe σ vs) H fun σ2 H2 => wipe σ2 vs = wipe σ vs ∧ tt σ2 H2 fun b H3 =>
      if b = true then te σ2 H3 fun y H4 => ∃ (c : Addr) (k : List Int) (L : List (Addr × List Int)), y = .ref c ∧ SetTs K P w H4 D L ∧ SqT K H4 c (k.map V.int) ∧ L.length + 1 < 64 ∧
        ∀ L', (k ∈ L.map (·.2) → L' = L) → (k ∉ L.map (·.2) → L'.Perm ((c, k) :: L)) → Pv (i + 1) (upd H4 D (SetTO P w D L')) else Pv (i + 1) H3) (hd : ∀ H, Pv xs.length H → Qd H) :
    ∃ W : Nat → Nat → Hp → Prop, (∃ m, W 0 m (upd H1 D (SetTO P w D []))) ∧ ∀ i m H, W i m H →
      ((Itt K a).stop i H ∧ Qd H) ∨ ((Itt K a).go i H ∧ ∃ Nx : Hp → Prop, (∀ H', Nx H' → ∃ m', m' < m ∧ W (i + 1) m' H') ∧ ∀ x H', (Itt K a).yld i H x H' → g x (wipe σ vs) H' fun σ2 H2 => wipe σ2 vs = wipe σ vs ∧ tt σ2 H2 fun b H3 =>
        if b = true then te σ2 H3 fun y H4 => ∃ (c : Addr) (k : List Int) (L : List (Addr × List Int)), y = .ref c ∧ SetTs K P w H4 D L ∧ SqT K H4 c (k.map V.int) ∧ L.length + 1 < 64 ∧
          ∀ L', (k ∈ L.map (·.2) → L' = L) → (k ∉ L.map (·.2) → L'.Perm ((c, k) :: L)) → Nx (upd H4 D (SetTO P w D L')) else Nx H3) := by
  refine ⟨fun i m H => m = xs.length - i ∧ i ≤ xs.length ∧ Pv i H, ⟨xs.length, by simp, Nat.zero_le _, h0⟩, fun i m H ⟨em, hi, p⟩ => ?_⟩
  subst em
  have q := hl i H hi p
  rcases Nat.lt_or_ge i xs.length with hlt | hge
  · refine .inr ⟨⟨xs, xs[i], q, by simp [hlt]⟩, Pv (i + 1), fun H' p' => ⟨xs.length - (i + 1), by omega, rfl, hlt, p'⟩, fun x H' y => ?_⟩
    obtain ⟨e, y⟩ := y
    subst e
    exact hs i x _ (y xs q) p
  · have e : i = xs.length := Nat.le_antisymm hi hge
    subst e
    exact .inl ⟨⟨xs, q, Nat.le_refl _⟩, hd H p⟩
end
end RL
/-! S11 -/
set_option Elab.async false
set_option linter.all false
set_option maxRecDepth 100000
set_option maxHeartbeats 2000000
namespace RL
open PySem PySem.Spec PyProof.Rows L2 PpSet
section
variable {X : Cx}
theorem call_repr_bl : CallR X (.builtin "repr") (fun xs H Q => ∃ b, xs = [.bl b] ∧ Q (.str (if b then "True" else "False")) H) := by
  intro pins s σ H xs us Q I r h
  obtain ⟨b, rfl, q⟩ := h
  obtain ⟨u, rfl, e⟩ := vals1 r
  cases (show u = Value.bool b from e)
  exact PySem.P.repr_of_bool ⟨.str _, H, I.tok _, ⟨_, rfl⟩, q⟩
/-- list(g) -/
def tListGS (tg : TGen) : TE := fun σ H Q => tg σ H fun out H2 => NewL H2 Q out
def upG (tg : TGen) : TGen := fun σ H Q => ∃ Q0 : List V → Hp → Prop, tg σ H Q0 ∧ ∀ x H1, Q0 x H1 → Q x H1
end
/-! ### values by what they are -/
/-- a row of ints stands at v -/
def IsW (K : PySem.W.Frag) (H : Hp) (v : V) (k : List Int) : Prop := ∃ a, v = .ref a ∧ SqT K H a (k.map V.int)
theorem IsW.same {K : PySem.W.Frag} {H H' : Hp} {v : V} {k : List Int} (e : Same H H') (h : IsW K H v k) : IsW K H' v k := let ⟨a, q, s⟩ := h; ⟨a, q, Same.sqt e s⟩
theorem IsW.dp {K : PySem.W.Frag} {H : Hp} {v : V} {k : List Int} (h : IsW K H v k) : Dp K H v (dTup k) := by
  obtain ⟨a, rfl, s⟩ := h
  refine .tup s ?_
  clear s
  induction k with
  | nil => exact .nil
  | cons n k ih => exact .cons (.int n) ih
theorem lay_ints (k : List Int) : PyData.canLayAll0 (k.map PyData.int) = true := by
  induction k with
  | nil => simp [PyData.canLayAll0]
  | cons n k ih => simp [PyData.canLayAll0, PyData.canLay0, ih]
theorem shaped_tup (k : List Int) : SeqAt.shaped (dTup k) = true := by
  have d := depth_tup k
  unfold SeqAt.shaped
  rw [Bool.and_eq_true]
  exact ⟨by simp only [PyData.canLay0, lay_ints], decide_eq_true (by omega)⟩
theorem eqv_tup (k l : List Int) : PyData.eqv (dTup k) (dTup l) = decide (k = l) := by
  have h : ∀ k l : List Int, PyData.eqvAll (k.map PyData.int) (l.map PyData.int) = decide (k = l) := by
    intro k
    induction k with
    | nil => intro l; cases l <;> simp [PyData.eqvAll]
    | cons n k ih =>
      intro l
      cases l with
      | nil => simp [PyData.eqvAll]
      | cons m l =>
        simp only [List.map_cons, PyData.eqvAll, PyData.eqv, ih, List.cons.injEq, Bool.decide_and]
        congr 1
  simp only [PyData.eqv, h]
theorem cut_map (k : List Int) (lo hi : Option Int) : cutV (k.map V.int) lo hi = ((k.drop (HT.sIx k.length 0 lo)).take (HT.sIx k.length k.length hi - HT.sIx k.length 0 lo)).map V.int := by
  unfold cutV
  rw [List.length_map, List.map_take, List.map_drop]
/-- k[i:] -/
theorem cut_from (k : List Int) {i : Int} (h0 : 0 ≤ i) : cutV (k.map V.int) (some i) none = (k.drop i.toNat).map V.int := by
  rw [cut_map]
  have e1 : HT.sIx k.length 0 (some i) = min i.toNat k.length := by
    show (if i < 0 then (i + (k.length : Int)).toNat else min i.toNat k.length) = _
    rw [if_neg (by omega)]
  have e2 : HT.sIx k.length k.length none = k.length := rfl
  rw [e1, e2]
  congr 1
  by_cases h : i.toNat ≤ k.length
  · rw [Nat.min_eq_left h]
    exact List.take_of_length_le (by rw [List.length_drop]; exact Nat.le_refl _)
  · rw [Nat.min_eq_right (by omega), List.drop_length, List.drop_eq_nil_of_le (by omega)]
    simp
/-- k[:i] -/
theorem cut_to (k : List Int) {i : Int} (h0 : 0 ≤ i) : cutV (k.map V.int) none (some i) = (k.take i.toNat).map V.int := by
  rw [cut_map]
  have e1 : HT.sIx k.length k.length (some i) = min i.toNat k.length := by
    show (if i < 0 then (i + (k.length : Int)).toNat else min i.toNat k.length) = _
    rw [if_neg (by omega)]
  have e2 : HT.sIx k.length 0 none = 0 := rfl
  rw [e1, e2, Nat.sub_zero, List.drop_zero]
  congr 1
  by_cases h : i.toNat ≤ k.length
  · rw [Nat.min_eq_left h]
  · rw [Nat.min_eq_right (by omega), List.take_length, List.take_of_length_le (by omega)]
theorem at_int {k : List Int} {i : Int} {x : Int} (h0 : 0 ≤ i) (h : k[i.toNat]? = some x) : atI (k.map V.int) i = some (.int x) := by
  have e : i = ((i.toNat : Nat) : Int) := by omega
  rw [e]
  exact atI_nat (by rw [List.getElem?_map, h] <;> rfl)
theorem at_v {k : List V} {i : Int} {x : V} (h0 : 0 ≤ i) (h : k[i.toNat]? = some x) : atI k i = some x := by
  have e : i = ((i.toNat : Nat) : Int) := by omega
  rw [e]
  exact atI_nat h
theorem rep_int (k : List Int) (n : Nat) : (List.replicate n (k.map V.int)).flatten = ((List.replicate n k).flatten).map V.int := by
  induction n with
  | zero => rfl
  | succ n ih => rw [List.replicate_succ, List.replicate_succ, List.flatten_cons, List.flatten_cons, ih, List.map_append]
theorem size200 {n : Nat} (h : n ≤ 100000) : n ≤ sizeLine := by rw [sizeLine_eq]; omega
/-- a number, a truth value, or something that is no int at all -/
def NumV (K : PySem.W.Frag) (H : Hp) (v : V) : Prop := (∃ i, v = .int i) ∨ (∃ b, v = .bl b) ∨ ((∀ i, v ≠ .int i) ∧ (∀ b, v ≠ .bl b) ∧ ∃ t, TyX K H v t ∧ PySem.W.kitOne K t (.type "int") = some false)
/-- is_number's answer -/
def numB (v : V) (lo hi : Int) : Bool := match v with
  | .int i => decide (lo ≤ i) && decide (i ≤ hi)
  | _ => false
theorem clsv (n : String) : ClsV (.ty n) (.type n) := by first | exact .ty n | exact rfl | constructor
end RL
/-! S12 -/
set_option Elab.async false
set_option linter.all false
set_option maxRecDepth 100000
set_option maxHeartbeats 2000000
namespace RL
open PySem PySem.Spec PyProof.Rows L2 PpSet
theorem same_mut {H H' : Hp} {D : Addr} {o : HO} (h : H D = none) (s : Same H H') : Same H (upd H' D o) := fun b u q => by rw [upd_ne (ne_of_none q h)]; exact s b u q
theorem ifT {c : Bool} {A B : Prop} (hc : c = true) (h : A) : if c = true then A else B := by
  rw [if_pos hc]
  exact h
theorem ifF {c : Bool} {A B : Prop} (hc : c = false) (h : B) : if c = true then A else B := by
  rw [hc, if_neg Bool.false_ne_true]
  exact h
theorem take_more {α : Type} : ∀ {l : List α} {i : Nat} {x : α}, l[i]? = some x → l.take (i + 1) = l.take i ++ [x]
  | [], i, x, h => by simp at h
  | a :: l, 0, x, h => by
    cases Option.some.inj h
    rfl
  | a :: l, i + 1, x, h => by
    have ih := take_more (l := l) (i := i) (x := x) h
    show a :: l.take (i + 1) = a :: l.take i ++ [x]
    rw [ih]
    rfl
theorem wipe_one (σ : L2.St) (i : Nat) (v : Option V) : wipe ((wipe σ [i]).set i v) [i] = wipe σ [i] := by
  show (((σ.set i none).set i v).set i none) = σ.set i none
  rw [List.set_set, List.set_set]
section
variable {K : PySem.W.Frag} {a : Addr} {xs : List V} {te : TE} {σ : L2.St} {H1 : Hp} {i : Nat}
/-- [e for x in t]: e says f x of x, and leaves what is tracked -/
theorem lc_tupF {Qd : Addr → Hp → Prop} (f : V → V) (hx : SqT K H1 a xs) (hz : xs.length < sizeLine) (el : ∀ x ∈ xs, ∀ (H : Hp) (Q : VK), Same H1 H → (∀ H', Same H H' → Q (f x) H') → te ((wipe σ [i]).set i (some x)) H Q) (fin : ∀ H' p, Same H1 H' → H1 p = none → H' p = some (.lst (xs.map f)) → Qd p H') :
    ∀ D, H1 D = none → ∃ W : Nat → Nat → Hp → Prop, (∃ m, W 0 m (upd H1 D (.lst []))) ∧ ∀ j m H, W j m H →
      ((Itt K a).stop j H ∧ Qd D H) ∨ ((Itt K a).go j H ∧ ∃ Nx : Hp → Prop, (∀ H', Nx H' → ∃ m', m' < m ∧ W (j + 1) m' H') ∧ ∀ x H', (Itt K a).yld j H x H' → gName i x (wipe σ [i]) H' fun σ2 H2 => wipe σ2 [i] = wipe σ [i] ∧ tYes σ2 H2 fun b H3 =>
        if b = true then te σ2 H3 fun y H4 => ∃ acc, H4 D = some (.lst acc) ∧ acc.length < sizeLine ∧ Nx (upd H4 D (.lst (acc ++ [y]))) else Nx H3) := by
  intro D hD
  refine lc_tup (xs := xs) (Qd := fun H => Qd D H) (fun j H => Same H1 H ∧ H D = some (.lst ((xs.take j).map f))) ⟨same_upd hD _, upd_same⟩ (fun j H _ p => Same.sqt p.1 hx) (fun j x H hj p => ?_) fun H p => ?_
  · refine ⟨wipe_one _ _ _, ?_⟩
    dsimp only [tYes]
    rw [if_pos rfl]
    refine el x (List.mem_of_getElem? hj) H _ p.1 fun H' s => ⟨_, s _ _ p.2, ?_, same_mut hD (Same.trans p.1 s), ?_⟩
    · rw [List.length_map, List.length_take]
      omega
    · rw [upd_same, take_more hj, List.map_append] <;> rfl
  · rw [List.take_length] at p
    exact fin H D p.1 hD p.2
/-- [e for x in l] -/
theorem lc_lstF {Qd : Addr → Hp → Prop} (f : V → V) (hx : SqL K H1 a xs) (hz : xs.length < sizeLine) (el : ∀ x ∈ xs, ∀ (H : Hp) (Q : VK), Same H1 H → (∀ H', Same H H' → Q (f x) H') → te ((wipe σ [i]).set i (some x)) H Q) (fin : ∀ H' p, Same H1 H' → H1 p = none → H' p = some (.lst (xs.map f)) → Qd p H') :
    ∀ D, H1 D = none → ∃ W : Nat → Nat → Hp → Prop, (∃ m, W 0 m (upd H1 D (.lst []))) ∧ ∀ j m H, W j m H →
      ((Itl K a).stop j H ∧ Qd D H) ∨ ((Itl K a).go j H ∧ ∃ Nx : Hp → Prop, (∀ H', Nx H' → ∃ m', m' < m ∧ W (j + 1) m' H') ∧ ∀ x H', (Itl K a).yld j H x H' → gName i x (wipe σ [i]) H' fun σ2 H2 => wipe σ2 [i] = wipe σ [i] ∧ tYes σ2 H2 fun b H3 =>
        if b = true then te σ2 H3 fun y H4 => ∃ acc, H4 D = some (.lst acc) ∧ acc.length < sizeLine ∧ Nx (upd H4 D (.lst (acc ++ [y]))) else Nx H3) := by
  intro D hD
  refine lc_list (xs := xs) (Qd := fun H => Qd D H) (fun j H => Same H1 H ∧ H D = some (.lst ((xs.take j).map f))) ⟨same_upd hD _, upd_same⟩ (fun j H _ p => p.1.seq hx) (fun j x H hj p => ?_) fun H p => ?_
  · refine ⟨wipe_one _ _ _, ?_⟩
    dsimp only [tYes]
    rw [if_pos rfl]
    refine el x (List.mem_of_getElem? hj) H _ p.1 fun H' s => ⟨_, s _ _ p.2, ?_, same_mut hD (Same.trans p.1 s), ?_⟩
    · rw [List.length_map, List.length_take]
      omega
    · rw [upd_same, take_more hj, List.map_append] <;> rfl
  · rw [List.take_length] at p
    exact fin H D p.1 hD p.2
theorem range_more (f : Nat → V) (n : Nat) : (List.range (n + 1)).map f = (List.range n).map f ++ [f n] := by rw [List.range_succ, List.map_append] <;> rfl
/-- [e for x in range(lo, lo + n)] -/
theorem lc_rngF {Qd : Addr → Hp → Prop} {lo : Int} {n : Nat} (f : Nat → V) (hz : n < sizeLine) (el : ∀ j, j < n → ∀ (H : Hp) (Q : VK), Same H1 H → (∀ H', Same H H' → Q (f j) H') → te ((wipe σ [i]).set i (some (.int (lo + j)))) H Q) (fin : ∀ H' p, Same H1 H' → H1 p = none → H' p = some (.lst ((List.range n).map f)) → Qd p H') :
    ∀ D, H1 D = none → ∃ W : Nat → Nat → Hp → Prop, (∃ m, W 0 m (upd H1 D (.lst []))) ∧ ∀ j m H, W j m H →
      ((Itr lo n).stop j H ∧ Qd D H) ∨ ((Itr lo n).go j H ∧ ∃ Nx : Hp → Prop, (∀ H', Nx H' → ∃ m', m' < m ∧ W (j + 1) m' H') ∧ ∀ x H', (Itr lo n).yld j H x H' → gName i x (wipe σ [i]) H' fun σ2 H2 => wipe σ2 [i] = wipe σ [i] ∧ tYes σ2 H2 fun b H3 =>
        if b = true then te σ2 H3 fun y H4 => ∃ acc, H4 D = some (.lst acc) ∧ acc.length < sizeLine ∧ Nx (upd H4 D (.lst (acc ++ [y]))) else Nx H3) := by
  intro D hD
  refine lc_range (Qd := fun H => Qd D H) (fun j H => j ≤ n ∧ Same H1 H ∧ H D = some (.lst ((List.range j).map f))) ⟨Nat.zero_le _, same_upd hD _, upd_same⟩ (fun j H hj p => ?_) fun H p => ?_
  · refine ⟨wipe_one _ _ _, ?_⟩
    dsimp only [tYes]
    rw [if_pos rfl]
    refine el j hj H _ p.2.1 fun H' s => ⟨_, s _ _ p.2.2, ?_, hj, same_mut hD (Same.trans p.2.1 s), ?_⟩
    · rw [List.length_map, List.length_range]
      omega
    · rw [upd_same, range_more]
  · exact fin H D p.2.1 hD p.2.2
/-- [x for x in l if t]: t says p x of x, and leaves what is tracked -/
theorem lc_lstP {Qd : Addr → Hp → Prop} {tt : TT} (f : V → V) (p : V → Bool) (hx : SqL K H1 a xs) (hz : xs.length < sizeLine) (tel : ∀ x ∈ xs, ∀ (H : Hp) (Q : Bool → Hp → Prop), Same H1 H → (∀ H', Same H H' → Q (p x) H') → tt ((wipe σ [i]).set i (some x)) H Q)
    (el : ∀ x ∈ xs, p x = true → ∀ (H : Hp) (Q : VK), Same H1 H → (∀ H', Same H H' → Q (f x) H') → te ((wipe σ [i]).set i (some x)) H Q) (fin : ∀ H' D, Same H1 H' → H1 D = none → H' D = some (.lst ((xs.filter p).map f)) → Qd D H') :
    ∀ D, H1 D = none → ∃ W : Nat → Nat → Hp → Prop, (∃ m, W 0 m (upd H1 D (.lst []))) ∧ ∀ j m H, W j m H →
      ((Itl K a).stop j H ∧ Qd D H) ∨ ((Itl K a).go j H ∧ ∃ Nx : Hp → Prop, (∀ H', Nx H' → ∃ m', m' < m ∧ W (j + 1) m' H') ∧ ∀ x H', (Itl K a).yld j H x H' → gName i x (wipe σ [i]) H' fun σ2 H2 => wipe σ2 [i] = wipe σ [i] ∧ tt σ2 H2 fun b H3 =>
        if b = true then te σ2 H3 fun y H4 => ∃ acc, H4 D = some (.lst acc) ∧ acc.length < sizeLine ∧ Nx (upd H4 D (.lst (acc ++ [y]))) else Nx H3) := by
  intro D hD
  refine lc_list (xs := xs) (Qd := fun H => Qd D H) (fun j H => Same H1 H ∧ H D = some (.lst (((xs.take j).filter p).map f))) ⟨same_upd hD _, upd_same⟩ (fun j H _ p => p.1.seq hx) (fun j x H hj q => ?_) fun H q => ?_
  · refine ⟨wipe_one _ _ _, ?_⟩
    have hm := List.mem_of_getElem? hj
    refine tel x hm H _ q.1 fun H' s => ?_
    cases hp : p x with
    | true =>
      rw [if_pos rfl]
      refine el x hm hp H' _ (Same.trans q.1 s) fun H2 s2 => ⟨_, s2 _ _ (s _ _ q.2), ?_, same_mut hD (Same.trans q.1 (Same.trans s s2)), ?_⟩
      · have l1 := List.length_filter_le p (xs.take j)
        rw [List.length_map]
        rw [List.length_take] at l1
        omega
      · rw [upd_same, take_more hj, List.filter_append, List.map_append]
        simp [hp]
    | false =>
      rw [if_neg Bool.false_ne_true]
      refine ⟨Same.trans q.1 s, ?_⟩
      rw [take_more hj, List.filter_append]
      simp [hp]
      exact s _ _ q.2
  · rw [List.take_length] at q
    exact fin H D q.1 hD q.2
end
end RL
/-! S14 -/
set_option Elab.async false
set_option linter.all false
set_option maxRecDepth 100000
namespace RL
open PySem PySem.Spec PyProof.Rows L2
variable {X : Cx}
theorem op_catK {K : PySem.W.Frag} (hK : X.K = K) : OpR X (binaryOp .Add) (rCatS K) := hK ▸ op_catS
theorem pe_revK {K : PySem.W.Frag} (hK : X.K = K) {e : Expr} {te : TE} {k : Nat} {p1 p2 p3 pos : Pos} (he : PE X e te) : PE X (.Subscript e (.Slice none none (some (.UnaryOp .USub (.Constant (.int 1) k p1) p2)) p3) pos) (tRevS K te) := hK ▸ pe_revS he
theorem pe_tupK {K : PySem.W.Frag} (hK : X.K = K) {es : List Expr} {t : TA} {x1} {pos : Pos} (h : PA X es t) : PE X (.Tuple es x1 pos) (tTupS K t) := hK ▸ pe_tupS h
theorem pg_tupK {K : PySem.W.Frag} (hK : X.K = K) {es : List Expr} {k : Nat} {t : TGs} {n : Nat} {pos : Pos} (hc : X.calm = true) (h : PGs X es t)
    (hn : (assignEach es X.env).length = n := by rfl) (hst : (assignEach es X.env).findIdx? (·.1) = none := by rfl) : PG X (.Tuple es k pos) (gTup K n t) := hK ▸ pg_tup hc h hn hst
theorem call_isiK {K : PySem.W.Frag} (hK : X.K = K) : CallR X (.builtin "isinstance") (rIsi K) := hK ▸ call_isi
theorem tt_mid {tt : TT} {σ : L2.St} {H : Hp} {k : Bool → Hp → Prop} (Pr : Bool → Prop) (h : ∀ b, Pr b → k b H) (f : ∀ k' : Bool → Hp → Prop, (∀ b, Pr b → k' b H) → tt σ H k') : tt σ H k := f k h
theorem passE0 {X : Cx} : Passes (CX X.prog X.w) X E0 := fun _ _ _ _ _ _ _ ⟨_, _, _, _, _, _, _, _, _, _, _, _, z⟩ => z.elim
theorem noStopE0 {K : PySem.W.Frag} : NoStop K E0 := fun _ _ _ h => h.elim
end RL
/-! S13 -/
set_option Elab.async false
set_option linter.all false
set_option maxRecDepth 100000
set_option maxHeartbeats 2000000
namespace RL
open PySem PySem.Spec PyProof.Rows L2 PpSet
/-- place by place -/
inductive Each {α β : Type} (R : α → β → Prop) : List α → List β → Prop
  | nil : Each R [] []
  | cons {a : α} {b : β} {as : List α} {bs : List β} : R a b → Each R as bs → Each R (a :: as) (b :: bs)
theorem Each.snoc {α β : Type} {R : α → β → Prop} {a : α} {b : β} (h : R a b) : ∀ {as : List α} {bs : List β}, Each R as bs → Each R (as ++ [a]) (bs ++ [b])
  | _, _, .nil => .cons h .nil
  | _, _, .cons q t => .cons q (Each.snoc h t)
theorem Each.imp {α β : Type} {R S : α → β → Prop} (f : ∀ a b, R a b → S a b) : ∀ {as : List α} {bs : List β}, Each R as bs → Each S as bs
  | _, _, .nil => .nil
  | _, _, .cons q t => .cons (f _ _ q) (Each.imp f t)
theorem Each.length {α β : Type} {R : α → β → Prop} : ∀ {as : List α} {bs : List β}, Each R as bs → as.length = bs.length
  | _, _, .nil => rfl
  | _, _, .cons _ t => congrArg (· + 1) (Each.length t)
/-- the tuples stand, and what is locked -/
def Stay (H H' : Hp) : Prop := (∀ b xs, H b = some (.tup xs) → H' b = some (.tup xs)) ∧ ∀ b o u, H b = some (.frz o u) → H' b = some (.frz o u)
theorem Stay.refl (H : Hp) : Stay H H := ⟨fun _ _ h => h, fun _ _ _ h => h⟩
theorem Stay.trans {H H1 H2 : Hp} (a : Stay H H1) (b : Stay H1 H2) : Stay H H2 := ⟨fun c x h => b.1 c x (a.1 c x h), fun c o u h => b.2 c o u (a.2 c o u h)⟩
theorem stay_of {H H' : Hp} (s : Same H H') : Stay H H' := ⟨fun b _ h => s b _ h, fun b _ _ h => s b _ h⟩
theorem stay_upd {H : Hp} {D : Addr} {o o' : HO} (hD : H D = some o) (n1 : ∀ ys, o ≠ .tup ys) (n2 : ∀ ob u, o ≠ .frz ob u) : Stay H (upd H D o') :=
  ⟨fun b xs h => by rw [upd_ne (fun z => by rw [z, hD] at h; exact n1 _ (Option.some.inj h))]; exact h, fun b ob u h => by rw [upd_ne (fun z => by rw [z, hD] at h; exact n2 _ _ (Option.some.inj h))]; exact h⟩
theorem stay_lst {H : Hp} {D : Addr} {xs : List V} {o' : HO} (hD : H D = some (.lst xs)) : Stay H (upd H D o') := stay_upd hD (fun _ z => nomatch z) (fun _ _ z => nomatch z)
theorem stay_set {P : Program} {w : World} {H : Hp} {D : Addr} {L : List (Addr × List Int)} {o' : HO} (hD : H D = some (SetTO P w D L)) : Stay H (upd H D o') := stay_upd hD (fun _ z => by unfold SetTO at z; cases z) (fun _ _ z => by unfold SetTO at z; cases z)
theorem Stay.sqt {K : PySem.W.Frag} {H H' : Hp} {a : Addr} {xs : List V} (e : Stay H H') (h : SqT K H a xs) : SqT K H' a xs := by
  rcases h with (h | ⟨o, h⟩) | h
  · exact .inl (.inl (e.1 _ _ h))
  · exact .inl (.inr ⟨o, e.2 _ _ _ h⟩)
  · exact .inr h
theorem IsW.stay {K : PySem.W.Frag} {H H' : Hp} {v : V} {k : List Int} (e : Stay H H') (h : IsW K H v k) : IsW K H' v k := let ⟨a, q, s⟩ := h; ⟨a, q, e.sqt s⟩
section
variable {K : PySem.W.Frag} {a : Addr} {xs : List V} {te : TE} {σ : L2.St} {H1 : Hp} {i : Nat}
/-- one turn of a comprehension that makes something new -/
theorem turn_new {R : Hp → V → V → Prop} (mono : ∀ H H' x y, Stay H H' → R H x y → R H' x y) {H H' : Hp} {D : Addr} {zs ys : List V} {x y : V} (hD : H1 D = none) (s : Same H1 H) (s2 : Same H H') (hys : H D = some (.lst ys)) (e : Each (R H) zs ys) (r : R H' x y) :
    H' D = some (.lst ys) ∧ Same H1 (upd H' D (.lst (ys ++ [y]))) ∧ ∃ ys', upd H' D (.lst (ys ++ [y])) D = some (.lst ys') ∧ Each (R (upd H' D (.lst (ys ++ [y])))) (zs ++ [x]) ys' := by
  have h := s2 _ _ hys
  have st := stay_lst (o' := .lst (ys ++ [y])) h
  exact ⟨h, same_mut hD (Same.trans s s2), _, upd_same, Each.snoc (mono _ _ _ _ st r) (e.imp fun a b q => mono _ _ _ _ (Stay.trans (stay_of s2) st) q)⟩
/-- [e for x in l], e makes something new -/
theorem lc_lstR {Qd : Addr → Hp → Prop} (R : Hp → V → V → Prop) (mono : ∀ H H' x y, Stay H H' → R H x y → R H' x y) (hx : SqL K H1 a xs) (hz : xs.length < sizeLine) (el : ∀ x ∈ xs, ∀ (H : Hp) (Q : VK), Same H1 H → (∀ H' y, Same H H' → R H' x y → Q y H') → te ((wipe σ [i]).set i (some x)) H Q)
    (fin : ∀ H' p ys, Same H1 H' → H1 p = none → H' p = some (.lst ys) → Each (R H') xs ys → Qd p H') :
    ∀ D, H1 D = none → ∃ W : Nat → Nat → Hp → Prop, (∃ m, W 0 m (upd H1 D (.lst []))) ∧ ∀ j m H, W j m H →
      ((Itl K a).stop j H ∧ Qd D H) ∨ ((Itl K a).go j H ∧ ∃ Nx : Hp → Prop, (∀ H', Nx H' → ∃ m', m' < m ∧ W (j + 1) m' H') ∧ ∀ x H', (Itl K a).yld j H x H' → gName i x (wipe σ [i]) H' fun σ2 H2 => wipe σ2 [i] = wipe σ [i] ∧ tYes σ2 H2 fun b H3 =>
        if b = true then te σ2 H3 fun y H4 => ∃ acc, H4 D = some (.lst acc) ∧ acc.length < sizeLine ∧ Nx (upd H4 D (.lst (acc ++ [y]))) else Nx H3) := by
  intro D hD
  refine lc_list (xs := xs) (Qd := fun H => Qd D H) (fun j H => Same H1 H ∧ ∃ ys, H D = some (.lst ys) ∧ Each (R H) (xs.take j) ys) ⟨same_upd hD _, [], upd_same, .nil⟩ (fun j H _ p => p.1.seq hx) (fun j x H hj p => ?_) fun H p => ?_
  · obtain ⟨s, ys, hys, e⟩ := p
    refine ⟨wipe_one _ _ _, ?_⟩
    dsimp only [tYes]
    rw [if_pos rfl]
    refine el x (List.mem_of_getElem? hj) H _ s fun H' y s2 r => ?_
    obtain ⟨h1, h2, h3⟩ := turn_new mono hD s s2 hys e r
    refine ⟨ys, h1, ?_, h2, by rw [take_more hj]; exact h3⟩
    have := e.length
    rw [List.length_take] at this
    omega
  · obtain ⟨s, ys, hys, e⟩ := p
    rw [List.take_length] at e
    exact fin H D ys s hD hys e
/-- [e for x in range(lo, lo + n)], e makes something new -/
theorem lc_rngR {Qd : Addr → Hp → Prop} {lo : Int} {n : Nat} (R : Hp → V → V → Prop) (mono : ∀ H H' x y, Stay H H' → R H x y → R H' x y) (hz : n < sizeLine) (el : ∀ j, j < n → ∀ (H : Hp) (Q : VK), Same H1 H → (∀ H' y, Same H H' → R H' (.int (lo + j)) y → Q y H') → te ((wipe σ [i]).set i (some (.int (lo + j)))) H Q)
    (fin : ∀ H' p ys, Same H1 H' → H1 p = none → H' p = some (.lst ys) → Each (R H') ((List.range n).map fun j => V.int (lo + (j : Nat))) ys → Qd p H') :
    ∀ D, H1 D = none → ∃ W : Nat → Nat → Hp → Prop, (∃ m, W 0 m (upd H1 D (.lst []))) ∧ ∀ j m H, W j m H →
      ((Itr lo n).stop j H ∧ Qd D H) ∨ ((Itr lo n).go j H ∧ ∃ Nx : Hp → Prop, (∀ H', Nx H' → ∃ m', m' < m ∧ W (j + 1) m' H') ∧ ∀ x H', (Itr lo n).yld j H x H' → gName i x (wipe σ [i]) H' fun σ2 H2 => wipe σ2 [i] = wipe σ [i] ∧ tYes σ2 H2 fun b H3 =>
        if b = true then te σ2 H3 fun y H4 => ∃ acc, H4 D = some (.lst acc) ∧ acc.length < sizeLine ∧ Nx (upd H4 D (.lst (acc ++ [y]))) else Nx H3) := by
  intro D hD
  refine lc_range (Qd := fun H => Qd D H) (fun j H => j ≤ n ∧ Same H1 H ∧ ∃ ys, H D = some (.lst ys) ∧ Each (R H) ((List.range j).map fun j => V.int (lo + (j : Nat))) ys) ⟨Nat.zero_le _, same_upd hD _, [], upd_same, .nil⟩ (fun j H hj p => ?_) fun H p => ?_
  · obtain ⟨_, s, ys, hys, e⟩ := p
    refine ⟨wipe_one _ _ _, ?_⟩
    dsimp only [tYes]
    rw [if_pos rfl]
    refine el j hj H _ s fun H' y s2 r => ?_
    obtain ⟨h1, h2, h3⟩ := turn_new mono hD s s2 hys e r
    refine ⟨ys, h1, ?_, hj, h2, by rw [range_more (fun j => V.int (lo + (j : Nat)))]; exact h3⟩
    have := e.length
    rw [List.length_map, List.length_range] at this
    omega
  · obtain ⟨_, s, ys, hys, e⟩ := p
    exact fin H D ys s hD hys e
end
end RL
/-! S15 -/
set_option Elab.async false
set_option linter.all false
set_option maxRecDepth 100000
set_option maxHeartbeats 2000000
namespace RL
open PySem PySem.Spec PyProof.Rows L2 PpSet
section
variable {K : PySem.W.Frag} {a : Addr} {xs : List V} {te : TE} {σ : L2.St} {H1 : Hp} {i : Nat}
theorem turn_newA {α : Type} {R : Hp → α → V → Prop} (mono : ∀ H H' x y, Stay H H' → R H x y → R H' x y) {H H' : Hp} {D : Addr} {zs : List α} {ys : List V} {x : α} {y : V} (hD : H1 D = none) (s : Same H1 H) (s2 : Same H H') (hys : H D = some (.lst ys)) (e : Each (R H) zs ys) (r : R H' x y) :
    H' D = some (.lst ys) ∧ Same H1 (upd H' D (.lst (ys ++ [y]))) ∧ ∃ ys', upd H' D (.lst (ys ++ [y])) D = some (.lst ys') ∧ Each (R (upd H' D (.lst (ys ++ [y])))) (zs ++ [x]) ys' := by
  have h := s2 _ _ hys
  have st := stay_lst (o' := .lst (ys ++ [y])) h
  exact ⟨h, same_mut hD (Same.trans s s2), _, upd_same, Each.snoc (mono _ _ _ _ st r) (e.imp fun a b q => mono _ _ _ _ (Stay.trans (stay_of s2) st) q)⟩
/-- [e for x in l], e makes something new; l's items are named by other things -/
theorem lc_lstA {α : Type} {Qd : Addr → Hp → Prop} {zs : List α} (f : α → V) (R : Hp → α → V → Prop) (mono : ∀ H H' x y, Stay H H' → R H x y → R H' x y) (hx : SqL K H1 a (zs.map f)) (hz : zs.length < sizeLine) (el : ∀ z ∈ zs, ∀ (H : Hp) (Q : VK), Same H1 H → (∀ H' y, Same H H' → R H' z y → Q y H') → te ((wipe σ [i]).set i (some (f z))) H Q)
    (fin : ∀ H' p ys, Same H1 H' → H1 p = none → H' p = some (.lst ys) → Each (R H') zs ys → Qd p H') :
    ∀ D, H1 D = none → ∃ W : Nat → Nat → Hp → Prop, (∃ m, W 0 m (upd H1 D (.lst []))) ∧ ∀ j m H, W j m H →
      ((Itl K a).stop j H ∧ Qd D H) ∨ ((Itl K a).go j H ∧ ∃ Nx : Hp → Prop, (∀ H', Nx H' → ∃ m', m' < m ∧ W (j + 1) m' H') ∧ ∀ x H', (Itl K a).yld j H x H' → gName i x (wipe σ [i]) H' fun σ2 H2 => wipe σ2 [i] = wipe σ [i] ∧ tYes σ2 H2 fun b H3 =>
        if b = true then te σ2 H3 fun y H4 => ∃ acc, H4 D = some (.lst acc) ∧ acc.length < sizeLine ∧ Nx (upd H4 D (.lst (acc ++ [y]))) else Nx H3) := by
  intro D hD
  refine lc_list (xs := zs.map f) (Qd := fun H => Qd D H) (fun j H => Same H1 H ∧ ∃ ys, H D = some (.lst ys) ∧ Each (R H) (zs.take j) ys) ⟨same_upd hD _, [], upd_same, .nil⟩ (fun j H _ p => p.1.seq hx) (fun j x H hj p => ?_) fun H p => ?_
  · obtain ⟨s, ys, hys, e⟩ := p
    rw [List.getElem?_map] at hj
    obtain ⟨z, hz', rfl⟩ := Option.map_eq_some_iff.mp hj
    refine ⟨wipe_one _ _ _, ?_⟩
    dsimp only [tYes]
    rw [if_pos rfl]
    refine el z (List.mem_of_getElem? hz') H _ s fun H' y s2 r => ?_
    obtain ⟨h1, h2, h3⟩ := turn_newA mono hD s s2 hys e r
    refine ⟨ys, h1, ?_, h2, by rw [take_more hz']; exact h3⟩
    have := e.length
    rw [List.length_take] at this
    omega
  · obtain ⟨s, ys, hys, e⟩ := p
    rw [List.length_map, List.take_length] at e
    exact fin H D ys s hD hys e
/-- as lc_rngR, the indices by their number -/
theorem lc_rngA {Qd : Addr → Hp → Prop} {lo : Int} {n : Nat} (R : Hp → Nat → V → Prop) (mono : ∀ H H' x y, Stay H H' → R H x y → R H' x y) (hz : n < sizeLine) (el : ∀ j, j < n → ∀ (H : Hp) (Q : VK), Same H1 H → (∀ H' y, Same H H' → R H' j y → Q y H') → te ((wipe σ [i]).set i (some (.int (lo + j)))) H Q)
    (fin : ∀ H' p ys, Same H1 H' → H1 p = none → H' p = some (.lst ys) → Each (R H') (List.range n) ys → Qd p H') :
    ∀ D, H1 D = none → ∃ W : Nat → Nat → Hp → Prop, (∃ m, W 0 m (upd H1 D (.lst []))) ∧ ∀ j m H, W j m H →
      ((Itr lo n).stop j H ∧ Qd D H) ∨ ((Itr lo n).go j H ∧ ∃ Nx : Hp → Prop, (∀ H', Nx H' → ∃ m', m' < m ∧ W (j + 1) m' H') ∧ ∀ x H', (Itr lo n).yld j H x H' → gName i x (wipe σ [i]) H' fun σ2 H2 => wipe σ2 [i] = wipe σ [i] ∧ tYes σ2 H2 fun b H3 =>
        if b = true then te σ2 H3 fun y H4 => ∃ acc, H4 D = some (.lst acc) ∧ acc.length < sizeLine ∧ Nx (upd H4 D (.lst (acc ++ [y]))) else Nx H3) := by
  intro D hD
  refine lc_range (Qd := fun H => Qd D H) (fun j H => j ≤ n ∧ Same H1 H ∧ ∃ ys, H D = some (.lst ys) ∧ Each (R H) (List.range j) ys) ⟨Nat.zero_le _, same_upd hD _, [], upd_same, .nil⟩ (fun j H hj p => ?_) fun H p => ?_
  · obtain ⟨_, s, ys, hys, e⟩ := p
    refine ⟨wipe_one _ _ _, ?_⟩
    dsimp only [tYes]
    rw [if_pos rfl]
    refine el j hj H _ s fun H' y s2 r => ?_
    obtain ⟨h1, h2, h3⟩ := turn_newA mono hD s s2 hys e r
    refine ⟨ys, h1, ?_, hj, h2, by rw [List.range_succ]; exact h3⟩
    have := e.length
    rw [List.length_range] at this
    omega
  · obtain ⟨_, s, ys, hys, e⟩ := p
    exact fin H D ys s hD hys e
end
end RL
/-! K00a -/
set_option Elab.async false
set_option linter.all false
set_option maxRecDepth 100000
set_option maxHeartbeats 2000000
namespace K00
open PySem PySem.Spec PyProof.Rows L2 PpSet RL
def topS (i : Nat) : Stmt := PySem.Challenge.pw_roomlines_k00_whole_words_in_order.main.body.getD i (.Pass ⟨0, 0, 0, 0⟩)
abbrev s_is_number : Stmt := topS 6
theorem sc_is_number : FnScope ["value", "least", "most"] ["value", "least", "most"] (defScope s_is_number) := ⟨rfl, rfl, rfl, by decide +kernel, rfl, by decide +kernel, by decide +kernel⟩
abbrev s_check_number : Stmt := topS 7
theorem sc_check_number : FnScope ["value", "least", "most"] ["value", "least", "most"] (defScope s_check_number) := ⟨rfl, rfl, rfl, by decide +kernel, rfl, by decide +kernel, by decide +kernel⟩
abbrev s_check_count : Stmt := topS 8
theorem sc_check_count : FnScope ["value"] ["value"] (defScope s_check_count) := ⟨rfl, rfl, rfl, by decide +kernel, rfl, by decide +kernel, by decide +kernel⟩
abbrev s_check_letters : Stmt := topS 15
theorem sc_check_letters : FnScope ["letters"] ["letters"] (defScope s_check_letters) := ⟨rfl, rfl, rfl, by decide +kernel, rfl, by decide +kernel, by decide +kernel⟩
abbrev s_is_spelled : Stmt := topS 16
theorem sc_is_spelled : FnScope ["letters", "value", "most", "letter"] ["letters", "value", "most"] (defScope s_is_spelled) := ⟨rfl, rfl, rfl, by decide +kernel, rfl, by decide +kernel, by decide +kernel⟩
abbrev s_check_word : Stmt := topS 17
theorem sc_check_word : FnScope ["letters", "word"] ["letters", "word"] (defScope s_check_word) := ⟨rfl, rfl, rfl, by decide +kernel, rfl, by decide +kernel, by decide +kernel⟩
abbrev s_check_both : Stmt := topS 18
theorem sc_check_both : FnScope ["letters", "one", "other"] ["letters", "one", "other"] (defScope s_check_both) := ⟨rfl, rfl, rfl, by decide +kernel, rfl, by decide +kernel, by decide +kernel⟩
abbrev s_order_words : Stmt := topS 19
theorem sc_order_words : FnScope ["one", "other"] ["one", "other"] (defScope s_order_words) := ⟨rfl, rfl, rfl, by decide +kernel, rfl, by decide +kernel, by decide +kernel⟩
abbrev s_count_common : Stmt := topS 20
theorem sc_count_common : FnScope ["one", "other", "most", "many"] ["one", "other"] (defScope s_count_common) := ⟨rfl, rfl, rfl, by decide +kernel, rfl, by decide +kernel, by decide +kernel⟩
abbrev s_is_word : Stmt := topS 21
theorem sc_is_word : FnScope ["letters", "value"] ["letters", "value"] (defScope s_is_word) := ⟨rfl, rfl, rfl, by decide +kernel, rfl, by decide +kernel, by decide +kernel⟩
abbrev s_compare_words : Stmt := topS 22
theorem sc_compare_words : FnScope ["letters", "one", "other"] ["letters", "one", "other"] (defScope s_compare_words) := ⟨rfl, rfl, rfl, by decide +kernel, rfl, by decide +kernel, by decide +kernel⟩
abbrev s_common_end : Stmt := topS 23
theorem sc_common_end : FnScope ["letters", "one", "other"] ["letters", "one", "other"] (defScope s_common_end) := ⟨rfl, rfl, rfl, by decide +kernel, rfl, by decide +kernel, by decide +kernel⟩
abbrev s_is_end : Stmt := topS 24
theorem sc_is_end : FnScope ["letters", "one", "other"] ["letters", "one", "other"] (defScope s_is_end) := ⟨rfl, rfl, rfl, by decide +kernel, rfl, by decide +kernel, by decide +kernel⟩
abbrev s_in_order : Stmt := topS 25
theorem sc_in_order : FnScope ["words", "backwards", "word"] ["words"] (defScope s_in_order) := ⟨rfl, rfl, rfl, by decide +kernel, rfl, by decide +kernel, by decide +kernel⟩
abbrev s_sorted_words : Stmt := topS 26
theorem sc_sorted_words : FnScope ["letters", "words", "word"] ["letters", "words"] (defScope s_sorted_words) := ⟨rfl, rfl, rfl, by decide +kernel, rfl, by decide +kernel, by decide +kernel⟩
abbrev s__raised : Stmt := topS 27
theorem sc__raised : FnScope ["letters", "word", "at", "letter"] ["letters", "word"] (defScope s__raised) := ⟨rfl, rfl, rfl, by decide +kernel, rfl, by decide +kernel, by decide +kernel⟩
abbrev s_words_of : Stmt := topS 28
theorem sc_words_of : GScope ["letters", "length", "word", "raised"] ["letters", "length"] (defScope s_words_of) := ⟨rfl, rfl, rfl, by decide +kernel, rfl, by decide +kernel, by decide +kernel⟩
abbrev s_words_to : Stmt := topS 29
theorem sc_words_to : GScope ["letters", "length", "word"] ["letters", "length"] (defScope s_words_to) := ⟨rfl, rfl, rfl, by decide +kernel, rfl, by decide +kernel, by decide +kernel⟩
abbrev s__sizes : Stmt := topS 30
theorem sc__sizes : FnScope ["letters", "length", "sizes", "_"] ["letters", "length"] (defScope s__sizes) := ⟨rfl, rfl, rfl, by decide +kernel, rfl, by decide +kernel, by decide +kernel⟩
abbrev s_word_place : Stmt := topS 31
theorem sc_word_place : FnScope ["letters", "length", "word", "sizes", "place", "done", "letter"] ["letters", "length", "word"] (defScope s_word_place) := ⟨rfl, rfl, rfl, by decide +kernel, rfl, by decide +kernel, by decide +kernel⟩
abbrev s_word_at : Stmt := topS 32
theorem sc_word_at : FnScope ["letters", "length", "number", "sizes", "word", "left", "letter"] ["letters", "length", "number"] (defScope s_word_at) := ⟨rfl, rfl, rfl, by decide +kernel, rfl, by decide +kernel, by decide +kernel⟩
abbrev s__law_bag : Stmt := topS 34
theorem sc__law_bag : FnScope ["script", "spot", "cell", "great", "mixed"] ["script", "spot"] (defScope s__law_bag) := ⟨rfl, rfl, rfl, by decide +kernel, rfl, by decide +kernel, by decide +kernel⟩
abbrev s__law_grab : Stmt := topS 35
theorem sc__law_grab : FnScope ["bag", "total", "found", "one", "two"] ["bag", "total"] (defScope s__law_grab) := ⟨rfl, rfl, rfl, by decide +kernel, rfl, by decide +kernel, by decide +kernel⟩
abbrev s__law_one_of : Stmt := topS 36
theorem sc__law_one_of : FnScope ["bag", "items"] ["bag", "items"] (defScope s__law_one_of) := ⟨rfl, rfl, rfl, by decide +kernel, rfl, by decide +kernel, by decide +kernel⟩
abbrev s__law_word_drawn : Stmt := topS 37
theorem sc__law_word_drawn : FnScope ["bag", "letters", "most", "lap"] ["bag", "letters", "most"] (defScope s__law_word_drawn) := ⟨rfl, rfl, rfl, by decide +kernel, rfl, by decide +kernel, by decide +kernel⟩
abbrev s__law_wd_compared : Stmt := topS 38
theorem sc__law_wd_compared : FnScope ["one", "other", "place", "left", "right"] ["one", "other"] (defScope s__law_wd_compared) := ⟨rfl, rfl, rfl, by decide +kernel, rfl, by decide +kernel, by decide +kernel⟩
abbrev s__law_wd_is_end : Stmt := topS 39
theorem sc__law_wd_is_end : FnScope ["end", "word"] ["end", "word"] (defScope s__law_wd_is_end) := ⟨rfl, rfl, rfl, by decide +kernel, rfl, by decide +kernel, by decide +kernel⟩
abbrev s__law_wd_common : Stmt := topS 40
theorem sc__law_wd_common : FnScope ["one", "other", "many", "place"] ["one", "other"] (defScope s__law_wd_common) := ⟨rfl, rfl, rfl, by decide +kernel, rfl, by decide +kernel, by decide +kernel⟩
abbrev s__law_wd_put_in : Stmt := topS 41
theorem sc__law_wd_put_in : FnScope ["words", "word", "at"] ["words", "word"] (defScope s__law_wd_put_in) := ⟨rfl, rfl, rfl, by decide +kernel, rfl, by decide +kernel, by decide +kernel⟩
abbrev s__law_wd_sorted : Stmt := topS 42
theorem sc__law_wd_sorted : FnScope ["words", "found", "word"] ["words"] (defScope s__law_wd_sorted) := ⟨rfl, rfl, rfl, by decide +kernel, rfl, by decide +kernel, by decide +kernel⟩
abbrev s__law_wd_of : Stmt := topS 43
theorem sc__law_wd_of : FnScope ["letters", "length", "found", "lap", "longer", "word", "letter"] ["letters", "length"] (defScope s__law_wd_of) := ⟨rfl, rfl, rfl, by decide +kernel, rfl, by decide +kernel, by decide +kernel⟩
abbrev s__law_wd_settled : Stmt := topS 45
theorem sc__law_wd_settled : FnScope ["letters", "most", "words", "keyed", "word", "row", "letter"] ["letters", "most", "words"] (defScope s__law_wd_settled) := ⟨rfl, rfl, rfl, by decide +kernel, rfl, by decide +kernel, by decide +kernel⟩
abbrev s__law_wd_to : Stmt := topS 44
theorem sc__law_wd_to : FnScope ["letters", "most", "found", "lap", "longer", "word", "letter"] ["letters", "most"] (defScope s__law_wd_to) := ⟨rfl, rfl, rfl, by decide +kernel, rfl, by decide +kernel, by decide +kernel⟩
abbrev s__law_is_word_due : Stmt := topS 46
theorem sc__law_is_word_due : FnScope ["letters", "value", "one"] ["letters", "value"] (defScope s__law_is_word_due) := ⟨rfl, rfl, rfl, by decide +kernel, rfl, by decide +kernel, by decide +kernel⟩
abbrev s__law_some_words : Stmt := topS 47
theorem sc__law_some_words : FnScope ["bag", "letters", "first", "second", "ahead", "found", "lap"] ["bag", "letters"] (defScope s__law_some_words) := ⟨rfl, rfl, rfl, by decide +kernel, rfl, by decide +kernel, by decide +kernel⟩
abbrev s__law_pair_right : Stmt := topS 48
theorem sc__law_pair_right : FnScope ["letters", "one", "other", "behind", "due"] ["letters", "one", "other", "behind"] (defScope s__law_pair_right) := ⟨rfl, rfl, rfl, by decide +kernel, rfl, by decide +kernel, by decide +kernel⟩
abbrev s__law_lists_right : Stmt := topS 49
theorem sc__law_lists_right : FnScope ["bag", "letters", "most", "listed", "at"] ["bag", "letters"] (defScope s__law_lists_right) := ⟨rfl, rfl, rfl, by decide +kernel, rfl, by decide +kernel, by decide +kernel⟩
abbrev s__law_power : Stmt := topS 51
theorem sc__law_power : FnScope ["number", "many", "found", "lap"] ["number", "many"] (defScope s__law_power) := ⟨rfl, rfl, rfl, by decide +kernel, rfl, by decide +kernel, by decide +kernel⟩
abbrev s__law_places_right : Stmt := topS 50
theorem sc__law_places_right : FnScope ["bag", "letters", "one", "other", "most", "left", "right", "total", "number", "word", "length"] ["bag", "letters", "one", "other"] (defScope s__law_places_right) := ⟨rfl, rfl, rfl, by decide +kernel, rfl, by decide +kernel, by decide +kernel⟩
abbrev s__law_right : Stmt := topS 52
theorem sc__law_right : FnScope ["bag", "letters", "words", "lap", "some", "one", "other", "near", "value"] ["bag"] (defScope s__law_right) := ⟨rfl, rfl, rfl, by decide +kernel, rfl, by decide +kernel, by decide +kernel⟩
abbrev s_law : Stmt := topS 53
theorem sc_law : FnScope ["script", "spot", "long", "told", "length"] ["script"] (defScope s_law) := ⟨rfl, rfl, rfl, by decide +kernel, rfl, by decide +kernel, by decide +kernel⟩
structure Txt (K : PySem.W.Frag) (mg : Str → Option Value) : Type where
  a_is_number : Addr
  d_is_number : FuncData
  F_is_number : Fun K "is_number" "is_number" s_is_number a_is_number d_is_number
  m_is_number : mg "is_number" = some (.ref a_is_number)
  b_is_number : Binds K d_is_number ["value", "least", "most"] []
  a_check_number : Addr
  d_check_number : FuncData
  F_check_number : Fun K "check_number" "check_number" s_check_number a_check_number d_check_number
  m_check_number : mg "check_number" = some (.ref a_check_number)
  b_check_number : Binds K d_check_number ["value", "least", "most"] []
  a_check_count : Addr
  d_check_count : FuncData
  F_check_count : Fun K "check_count" "check_count" s_check_count a_check_count d_check_count
  m_check_count : mg "check_count" = some (.ref a_check_count)
  b_check_count : Binds K d_check_count ["value"] []
  a_check_letters : Addr
  d_check_letters : FuncData
  F_check_letters : Fun K "check_letters" "check_letters" s_check_letters a_check_letters d_check_letters
  m_check_letters : mg "check_letters" = some (.ref a_check_letters)
  b_check_letters : Binds K d_check_letters ["letters"] []
  a_is_spelled : Addr
  d_is_spelled : FuncData
  F_is_spelled : Fun K "is_spelled" "is_spelled" s_is_spelled a_is_spelled d_is_spelled
  m_is_spelled : mg "is_spelled" = some (.ref a_is_spelled)
  b_is_spelled : Binds K d_is_spelled ["letters", "value", "most"] []
  a_check_word : Addr
  d_check_word : FuncData
  F_check_word : Fun K "check_word" "check_word" s_check_word a_check_word d_check_word
  m_check_word : mg "check_word" = some (.ref a_check_word)
  b_check_word : Binds K d_check_word ["letters", "word"] []
  a_check_both : Addr
  d_check_both : FuncData
  F_check_both : Fun K "check_both" "check_both" s_check_both a_check_both d_check_both
  m_check_both : mg "check_both" = some (.ref a_check_both)
  b_check_both : Binds K d_check_both ["letters", "one", "other"] []
  a_order_words : Addr
  d_order_words : FuncData
  F_order_words : Fun K "order_words" "order_words" s_order_words a_order_words d_order_words
  m_order_words : mg "order_words" = some (.ref a_order_words)
  b_order_words : Binds K d_order_words ["one", "other"] []
  a_count_common : Addr
  d_count_common : FuncData
  F_count_common : Fun K "count_common" "count_common" s_count_common a_count_common d_count_common
  m_count_common : mg "count_common" = some (.ref a_count_common)
  b_count_common : Binds K d_count_common ["one", "other"] []
  a_is_word : Addr
  d_is_word : FuncData
  F_is_word : Fun K "is_word" "is_word" s_is_word a_is_word d_is_word
  m_is_word : mg "is_word" = some (.ref a_is_word)
  b_is_word : Binds K d_is_word ["letters", "value"] []
  a_compare_words : Addr
  d_compare_words : FuncData
  F_compare_words : Fun K "compare_words" "compare_words" s_compare_words a_compare_words d_compare_words
  m_compare_words : mg "compare_words" = some (.ref a_compare_words)
  b_compare_words : Binds K d_compare_words ["letters", "one", "other"] []
  a_common_end : Addr
  d_common_end : FuncData
  F_common_end : Fun K "common_end" "common_end" s_common_end a_common_end d_common_end
  m_common_end : mg "common_end" = some (.ref a_common_end)
  b_common_end : Binds K d_common_end ["letters", "one", "other"] []
  a_is_end : Addr
  d_is_end : FuncData
  F_is_end : Fun K "is_end" "is_end" s_is_end a_is_end d_is_end
  m_is_end : mg "is_end" = some (.ref a_is_end)
  b_is_end : Binds K d_is_end ["letters", "one", "other"] []
  a_in_order : Addr
  d_in_order : FuncData
  F_in_order : Fun K "in_order" "in_order" s_in_order a_in_order d_in_order
  m_in_order : mg "in_order" = some (.ref a_in_order)
  b_in_order : Binds K d_in_order ["words"] []
  a_sorted_words : Addr
  d_sorted_words : FuncData
  F_sorted_words : Fun K "sorted_words" "sorted_words" s_sorted_words a_sorted_words d_sorted_words
  m_sorted_words : mg "sorted_words" = some (.ref a_sorted_words)
  b_sorted_words : Binds K d_sorted_words ["letters", "words"] []
  a__raised : Addr
  d__raised : FuncData
  F__raised : Fun K "_raised" "_raised" s__raised a__raised d__raised
  m__raised : mg "_raised" = some (.ref a__raised)
  b__raised : Binds K d__raised ["letters", "word"] []
  a_words_of : Addr
  d_words_of : FuncData
  F_words_of : Fun K "words_of" "words_of" s_words_of a_words_of d_words_of
  m_words_of : mg "words_of" = some (.ref a_words_of)
  b_words_of : Binds K d_words_of ["letters", "length"] []
  a_words_to : Addr
  d_words_to : FuncData
  F_words_to : Fun K "words_to" "words_to" s_words_to a_words_to d_words_to
  m_words_to : mg "words_to" = some (.ref a_words_to)
  b_words_to : Binds K d_words_to ["letters", "length"] []
  a__sizes : Addr
  d__sizes : FuncData
  F__sizes : Fun K "_sizes" "_sizes" s__sizes a__sizes d__sizes
  m__sizes : mg "_sizes" = some (.ref a__sizes)
  b__sizes : Binds K d__sizes ["letters", "length"] []
  a_word_place : Addr
  d_word_place : FuncData
  F_word_place : Fun K "word_place" "word_place" s_word_place a_word_place d_word_place
  m_word_place : mg "word_place" = some (.ref a_word_place)
  b_word_place : Binds K d_word_place ["letters", "length", "word"] []
  a_word_at : Addr
  d_word_at : FuncData
  F_word_at : Fun K "word_at" "word_at" s_word_at a_word_at d_word_at
  m_word_at : mg "word_at" = some (.ref a_word_at)
  b_word_at : Binds K d_word_at ["letters", "length", "number"] []
  a__law_bag : Addr
  d__law_bag : FuncData
  F__law_bag : Fun K "_law_bag" "_law_bag" s__law_bag a__law_bag d__law_bag
  m__law_bag : mg "_law_bag" = some (.ref a__law_bag)
  b__law_bag : Binds K d__law_bag ["script", "spot"] []
  a__law_grab : Addr
  d__law_grab : FuncData
  F__law_grab : Fun K "_law_grab" "_law_grab" s__law_grab a__law_grab d__law_grab
  m__law_grab : mg "_law_grab" = some (.ref a__law_grab)
  b__law_grab : Binds K d__law_grab ["bag", "total"] []
  a__law_one_of : Addr
  d__law_one_of : FuncData
  F__law_one_of : Fun K "_law_one_of" "_law_one_of" s__law_one_of a__law_one_of d__law_one_of
  m__law_one_of : mg "_law_one_of" = some (.ref a__law_one_of)
  b__law_one_of : Binds K d__law_one_of ["bag", "items"] []
  a__law_word_drawn : Addr
  d__law_word_drawn : FuncData
  F__law_word_drawn : Fun K "_law_word_drawn" "_law_word_drawn" s__law_word_drawn a__law_word_drawn d__law_word_drawn
  m__law_word_drawn : mg "_law_word_drawn" = some (.ref a__law_word_drawn)
  b__law_word_drawn : Binds K d__law_word_drawn ["bag", "letters", "most"] []
  a__law_wd_compared : Addr
  d__law_wd_compared : FuncData
  F__law_wd_compared : Fun K "_law_wd_compared" "_law_wd_compared" s__law_wd_compared a__law_wd_compared d__law_wd_compared
  m__law_wd_compared : mg "_law_wd_compared" = some (.ref a__law_wd_compared)
  b__law_wd_compared : Binds K d__law_wd_compared ["one", "other"] []
  a__law_wd_is_end : Addr
  d__law_wd_is_end : FuncData
  F__law_wd_is_end : Fun K "_law_wd_is_end" "_law_wd_is_end" s__law_wd_is_end a__law_wd_is_end d__law_wd_is_end
  m__law_wd_is_end : mg "_law_wd_is_end" = some (.ref a__law_wd_is_end)
  b__law_wd_is_end : Binds K d__law_wd_is_end ["end", "word"] []
  a__law_wd_common : Addr
  d__law_wd_common : FuncData
  F__law_wd_common : Fun K "_law_wd_common" "_law_wd_common" s__law_wd_common a__law_wd_common d__law_wd_common
  m__law_wd_common : mg "_law_wd_common" = some (.ref a__law_wd_common)
  b__law_wd_common : Binds K d__law_wd_common ["one", "other"] []
  a__law_wd_put_in : Addr
  d__law_wd_put_in : FuncData
  F__law_wd_put_in : Fun K "_law_wd_put_in" "_law_wd_put_in" s__law_wd_put_in a__law_wd_put_in d__law_wd_put_in
  m__law_wd_put_in : mg "_law_wd_put_in" = some (.ref a__law_wd_put_in)
  b__law_wd_put_in : Binds K d__law_wd_put_in ["words", "word"] []
  a__law_wd_sorted : Addr
  d__law_wd_sorted : FuncData
  F__law_wd_sorted : Fun K "_law_wd_sorted" "_law_wd_sorted" s__law_wd_sorted a__law_wd_sorted d__law_wd_sorted
  m__law_wd_sorted : mg "_law_wd_sorted" = some (.ref a__law_wd_sorted)
  b__law_wd_sorted : Binds K d__law_wd_sorted ["words"] []
  a__law_wd_of : Addr
  d__law_wd_of : FuncData
  F__law_wd_of : Fun K "_law_wd_of" "_law_wd_of" s__law_wd_of a__law_wd_of d__law_wd_of
  m__law_wd_of : mg "_law_wd_of" = some (.ref a__law_wd_of)
  b__law_wd_of : Binds K d__law_wd_of ["letters", "length"] []
  a__law_wd_settled : Addr
  d__law_wd_settled : FuncData
  F__law_wd_settled : Fun K "_law_wd_settled" "_law_wd_settled" s__law_wd_settled a__law_wd_settled d__law_wd_settled
  m__law_wd_settled : mg "_law_wd_settled" = some (.ref a__law_wd_settled)
  b__law_wd_settled : Binds K d__law_wd_settled ["letters", "most", "words"] []
  a__law_wd_to : Addr
  d__law_wd_to : FuncData
  F__law_wd_to : Fun K "_law_wd_to" "_law_wd_to" s__law_wd_to a__law_wd_to d__law_wd_to
  m__law_wd_to : mg "_law_wd_to" = some (.ref a__law_wd_to)
  b__law_wd_to : Binds K d__law_wd_to ["letters", "most"] []
  a__law_is_word_due : Addr
  d__law_is_word_due : FuncData
  F__law_is_word_due : Fun K "_law_is_word_due" "_law_is_word_due" s__law_is_word_due a__law_is_word_due d__law_is_word_due
  m__law_is_word_due : mg "_law_is_word_due" = some (.ref a__law_is_word_due)
  b__law_is_word_due : Binds K d__law_is_word_due ["letters", "value"] []
  a__law_some_words : Addr
  d__law_some_words : FuncData
  F__law_some_words : Fun K "_law_some_words" "_law_some_words" s__law_some_words a__law_some_words d__law_some_words
  m__law_some_words : mg "_law_some_words" = some (.ref a__law_some_words)
  b__law_some_words : Binds K d__law_some_words ["bag", "letters"] []
  a__law_pair_right : Addr
  d__law_pair_right : FuncData
  F__law_pair_right : Fun K "_law_pair_right" "_law_pair_right" s__law_pair_right a__law_pair_right d__law_pair_right
  m__law_pair_right : mg "_law_pair_right" = some (.ref a__law_pair_right)
  b__law_pair_right : Binds K d__law_pair_right ["letters", "one", "other", "behind"] []
  a__law_lists_right : Addr
  d__law_lists_right : FuncData
  F__law_lists_right : Fun K "_law_lists_right" "_law_lists_right" s__law_lists_right a__law_lists_right d__law_lists_right
  m__law_lists_right : mg "_law_lists_right" = some (.ref a__law_lists_right)
  b__law_lists_right : Binds K d__law_lists_right ["bag", "letters"] []
  a__law_power : Addr
  d__law_power : FuncData
  F__law_power : Fun K "_law_power" "_law_power" s__law_power a__law_power d__law_power
  m__law_power : mg "_law_power" = some (.ref a__law_power)
  b__law_power : Binds K d__law_power ["number", "many"] []
  a__law_places_right : Addr
  d__law_places_right : FuncData
  F__law_places_right : Fun K "_law_places_right" "_law_places_right" s__law_places_right a__law_places_right d__law_places_right
  m__law_places_right : mg "_law_places_right" = some (.ref a__law_places_right)
  b__law_places_right : Binds K d__law_places_right ["bag", "letters", "one", "other"] []
  a__law_right : Addr
  d__law_right : FuncData
  F__law_right : Fun K "_law_right" "_law_right" s__law_right a__law_right d__law_right
  m__law_right : mg "_law_right" = some (.ref a__law_right)
  b__law_right : Binds K d__law_right ["bag"] []
  a_law : Addr
  d_law : FuncData
  F_law : Fun K "law" "law" s_law a_law d_law
  m_law : mg "law" = some (.ref a_law)
  b_law : Binds K d_law ["script"] []
  t_MAX_LETTERS : Tok
  g_MAX_LETTERS : mg "MAX_LETTERS" = some (.int 4 t_MAX_LETTERS)
  t_MAX_WORD : Tok
  g_MAX_WORD : mg "MAX_WORD" = some (.int 200 t_MAX_WORD)
  t_MOST_SORTED : Tok
  g_MOST_SORTED : mg "MOST_SORTED" = some (.int 200 t_MOST_SORTED)
  t_MOST_LISTED : Tok
  g_MOST_LISTED : mg "MOST_LISTED" = some (.int 8 t_MOST_LISTED)
  t_MOST_PLACED : Tok
  g_MOST_PLACED : mg "MOST_PLACED" = some (.int 60 t_MOST_PLACED)
  n_len : mg "len" = none
  n_min : mg "min" = none
  n_max : mg "max" = none
  n_abs : mg "abs" = none
  n_int : mg "int" = none
  n_isinstance : mg "isinstance" = none
  n_tuple : mg "tuple" = none
  n_list : mg "list" = none
  n_bool : mg "bool" = none
  n_all : mg "all" = none
  n_sum : mg "sum" = none
  n_range : mg "range" = none
  n_enumerate : mg "enumerate" = none
  n_sorted : mg "sorted" = none
  n_repr : mg "repr" = none
  n_divmod : mg "divmod" = none
theorem tyx_sqt {K : PySem.W.Frag} {H : Hp} {a : Addr} {xs : List V} (h : SqT K H a xs) : TyX K H (.ref a) (.type "tuple") := by
  rcases h with (h | ⟨o, h⟩) | h
  · exact .base (.tup h)
  · exact .fTuple h
  · obtain ⟨o, vs, n, hl, hc, _⟩ := h
    exact .kTuple hl hc
/-! ### the mirrors -/
/-- k letters -/
def okW (k : Int) (ws : List Int) : Prop := ws.length ≤ 200 ∧ ∀ n ∈ ws, 0 ≤ n ∧ n < k
def ordW (a b : List Int) : Int := if a = b then 0 else if HT.lexLt a.reverse b.reverse = true then -1 else 1
/-- how many first items agree -/
def cpl : List Int → List Int → Nat
  | x :: xs, y :: ys => if x = y then cpl xs ys + 1 else 0
  | _, _ => 0
theorem cpl_le : ∀ a b : List Int, cpl a b ≤ min a.length b.length
  | [], b => by simp [cpl]
  | x :: xs, [] => by simp [cpl]
  | x :: xs, y :: ys => by
    have ih := cpl_le xs ys
    simp only [cpl, List.length_cons]
    split <;> omega
theorem cpl_at : ∀ (a b : List Int) (i : Nat), i < cpl a b → a[i]? = b[i]?
  | [], b, i, h => by simp [cpl] at h
  | x :: xs, [], i, h => by simp [cpl] at h
  | x :: xs, y :: ys, i, h => by
    simp only [cpl] at h
    split at h
    · rename_i e
      cases i with
      | zero => simp [e]
      | succ i =>
        simp only [List.getElem?_cons_succ]
        exact cpl_at xs ys i (by omega)
    · omega
theorem cpl_ne : ∀ (a b : List Int), cpl a b < min a.length b.length → a[cpl a b]? ≠ b[cpl a b]?
  | [], b, h => by simp at h
  | x :: xs, [], h => by simp at h
  | x :: xs, y :: ys, h => by
    simp only [cpl, List.length_cons] at h ⊢
    split at h
    · rename_i e
      rw [if_pos e]
      simp only [List.getElem?_cons_succ]
      exact cpl_ne xs ys (by omega)
    · rename_i e
      rw [if_neg e]
      simpa using e
def spelled (xs : List V) (k most : Int) : Bool := decide ((xs.length : Int) ≤ most) && xs.all fun x => numB x 0 (k - 1)
theorem spelled_ok {k most : Int} {ws : List Int} (h : okW k ws) (hm : 200 ≤ most) : spelled (ws.map V.int) k most = true := by
  unfold spelled
  rw [Bool.and_eq_true]
  refine ⟨decide_eq_true (by have := h.1; rw [List.length_map]; omega), List.all_eq_true.mpr fun x hx => ?_⟩
  obtain ⟨n, hn, rfl⟩ := List.mem_map.mp hx
  have := h.2 n hn
  simp only [numB, Bool.and_eq_true, decide_eq_true_eq]
  omega
/-! ### the promises -/
def sp_is_number (K : PySem.W.Frag) : Sp := fun vs H Q _ => ∃ v lo hi, vs = [v, .int lo, .int hi] ∧ NumV K H v ∧ Q (.bl (numB v lo hi)) H
def sp_check_number (K : PySem.W.Frag) : Sp := fun vs H Q _ => ∃ v lo hi, vs = [v, .int lo, .int hi] ∧ NumV K H v ∧ numB v lo hi = true ∧ Q .non H
def sp_check_count (K : PySem.W.Frag) : Sp := fun vs H Q _ => ∃ v, vs = [v] ∧ NumV K H v ∧ numB v 0 (10 ^ 60 - 1) = true ∧ Q .non H
def sp_check_letters : Sp := fun vs H Q _ => ∃ k : Int, vs = [.int k] ∧ 1 ≤ k ∧ k ≤ 4 ∧ Q .non H
def sp_is_spelled (K : PySem.W.Frag) : Sp := fun vs H Q _ => ∃ (k most : Int) (v : V), vs = [.int k, v, .int most] ∧
  (((∃ t, TyX K H v t ∧ PySem.W.kitOne K t (.type "tuple") = some false) ∧ Q (.bl false) H) ∨
    ∃ a xs, v = .ref a ∧ SqT K H a xs ∧ xs.length < sizeLine ∧ (∀ x ∈ xs, ∀ H', Same H H' → NumV K H' x) ∧ ∀ H', Same H H' → Q (.bl (spelled xs k most)) H')
def sp_check_word (K : PySem.W.Frag) : Sp := fun vs H Q _ => ∃ (k : Int) (v : V) (ws : List Int), vs = [.int k, v] ∧ IsW K H v ws ∧ okW k ws ∧ ∀ H', Same H H' → Q .non H'
def sp_check_both (K : PySem.W.Frag) : Sp := fun vs H Q _ => ∃ (k : Int) (v u : V) (a b : List Int), vs = [.int k, v, u] ∧ 1 ≤ k ∧ k ≤ 4 ∧ IsW K H v a ∧ IsW K H u b ∧ okW k a ∧ okW k b ∧ ∀ H', Same H H' → Q .non H'
def sp_order_words (K : PySem.W.Frag) : Sp := fun vs H Q _ => ∃ (v u : V) (a b : List Int), vs = [v, u] ∧ IsW K H v a ∧ IsW K H u b ∧ ∀ H', Same H H' → Q (.int (ordW a b)) H'
def sp_count_common (K : PySem.W.Frag) : Sp := fun vs H Q _ => ∃ (v u : V) (a b : List Int), vs = [v, u] ∧ IsW K H v a ∧ IsW K H u b ∧ Q (.int (cpl a.reverse b.reverse)) H
def sp_is_word (K : PySem.W.Frag) : Sp := fun vs H Q _ => ∃ (k : Int) (v : V), vs = [.int k, v] ∧ 1 ≤ k ∧ k ≤ 4 ∧
  (((∃ t, TyX K H v t ∧ PySem.W.kitOne K t (.type "tuple") = some false) ∧ Q (.bl false) H) ∨
    ∃ a xs, v = .ref a ∧ SqT K H a xs ∧ xs.length < sizeLine ∧ (∀ x ∈ xs, ∀ H', Same H H' → NumV K H' x) ∧ ∀ H', Same H H' → Q (.bl (spelled xs k 200)) H')
def sp_two (K : PySem.W.Frag) (f : List Int → List Int → V) : Sp := fun vs H Q _ => ∃ (k : Int) (v u : V) (a b : List Int), vs = [.int k, v, u] ∧ 1 ≤ k ∧ k ≤ 4 ∧ IsW K H v a ∧ IsW K H u b ∧ okW k a ∧ okW k b ∧ ∀ H', Same H H' → Q (f a b) H'
section
variable {P : Program} {w : World} {K : PySem.W.Frag} {mg : Str → Option Value} {base : Heap}
theorem ok_is_number (T : Txt K mg) : FnOk P w K mg base CX0 1 T.a_is_number T.d_is_number ["value", "least", "most"] (sp_is_number K) := by
  refine T.F_is_number.ok sc_is_number (fun vs H Q E h => ?_) (fun cdv A outer s H vs Q E hr h => ?_)
  · obtain ⟨v, lo, hi, rfl, _⟩ := h
    rfl
  · obtain ⟨v, lo, hi, rfl, hv, q⟩ := h
    refine ⟨_, (pss_one (ps_ret (pe_and (pe_callB (call_isiK (K := K) rfl) rfl T.n_isinstance (by decide +kernel) (pa_cons (pv 0) (pa_cons (pe_bltn (v := .ty "int") (u := .type "int") rfl T.n_int (by decide +kernel) rfl) pa_nil))) (pe_and (pe_not (pe_callB (call_isiK (K := K) rfl) rfl T.n_isinstance (by decide +kernel) (pa_cons (pv 0) (pa_cons (pe_bltn (v := .ty "bool") (u := .type "bool") rfl T.n_bool (by decide +kernel) rfl) pa_nil)))) (pe_one (pe_chain op_le op_le (pv 1) (pv 0) (pv 2))))))), ?_⟩
    rcases hv with ⟨i, rfl⟩ | ⟨b, rfl⟩ | ⟨n1, n2, t, ht, hk⟩
    · refine ⟨_, rfl, _, _, _, _, true, rfl, .ty _, .base (.int i), kit_ty (by decide +kernel), _, rfl, iteT ?_⟩
      refine ⟨_, rfl, _, _, _, _, false, rfl, .ty _, .base (.int i), kit_ty (by decide +kernel), _, rfl, _, rfl, iteT ?_⟩
      refine ⟨_, rfl, _, rfl, _, _, rfl, rfl, _, rfl, ?_⟩
      by_cases c : lo ≤ i
      · rw [if_pos (decide_eq_true c)]
        refine ⟨_, rfl, _, _, rfl, rfl, ?_⟩
        have e : numB (.int i) lo hi = decide (i ≤ hi) := by simp [numB, c]
        rw [e] at q
        exact q
      · rw [if_neg (by rw [decide_eq_false c]; exact Bool.false_ne_true)]
        have e : numB (.int i) lo hi = false := by simp [numB, c]
        rw [e] at q
        exact q
    · refine ⟨_, rfl, _, _, _, _, true, rfl, .ty _, .base (.bl b), kit_ty (by decide +kernel), _, rfl, iteT ?_⟩
      exact ⟨_, rfl, _, _, _, _, true, rfl, .ty _, .base (.bl b), kit_ty (by decide +kernel), _, rfl, _, rfl, iteF q⟩
    · refine ⟨_, rfl, _, _, _, _, false, rfl, .ty _, ht, hk, _, rfl, iteF ?_⟩
      have e : numB v lo hi = false := by
        cases v with
        | int i => exact absurd rfl (n1 i)
        | _ => rfl
      rw [e] at q
      exact q
theorem ok_check_number (T : Txt K mg) : FnOk P w K mg base CX0 2 T.a_check_number T.d_check_number ["value", "least", "most"] (sp_check_number K) := by
  refine T.F_check_number.ok sc_check_number (fun vs H Q E h => ?_) (fun cdv A outer s H vs Q E hr h => ?_)
  · obtain ⟨v, lo, hi, rfl, _⟩ := h
    rfl
  · obtain ⟨v, lo, hi, rfl, hv, hb, q⟩ := h
    refine ⟨_, (pss_one (ps_if (pt_not (pt_val (pe_call (ok_is_number T) (hr.mono (by decide)) rfl T.m_is_number T.F_is_number.kp T.b_is_number .nil pass0 (pa_cons (pv 0) (pa_cons (pv 1) (pa_cons (pv 2) pa_nil)))))) (pss_one ps_never) pss_nil)), ?_⟩
    refine ⟨_, rfl, _, rfl, _, rfl, v, lo, hi, rfl, hv, _, rfl, ?_⟩
    rw [hb]
    exact iteF q
theorem ok_check_count (T : Txt K mg) : FnOk P w K mg base CX0 3 T.a_check_count T.d_check_count ["value"] (sp_check_count K) := by
  refine T.F_check_count.ok sc_check_count (fun vs H Q E h => ?_) (fun cdv A outer s H vs Q E hr h => ?_)
  · obtain ⟨v, rfl, _⟩ := h
    rfl
  · obtain ⟨v, rfl, hv, hb, q⟩ := h
    refine ⟨_, (pss_one (ps_expr (pe_call (ok_check_number T) (hr.mono (by decide)) rfl T.m_check_number T.F_check_number.kp T.b_check_number .nil pass0 (pa_cons (pv 0) (pa_cons pe_int (pa_cons (pe_op op_sub (pe_op op_pow pe_int pe_int) pe_int) pa_nil)))))), ?_⟩
    exact ⟨_, rfl, _, _, rfl, rfl, ⟨by decide, by decide, by decide⟩, _, _, rfl, rfl, v, 0, _, rfl, hv, hb, q⟩
theorem ok_check_letters (T : Txt K mg) : FnOk P w K mg base CX0 3 T.a_check_letters T.d_check_letters ["letters"] sp_check_letters := by
  refine T.F_check_letters.ok sc_check_letters (fun vs H Q E h => ?_) (fun cdv A outer s H vs Q E hr h => ?_)
  · obtain ⟨k, rfl, _⟩ := h
    rfl
  · obtain ⟨k, rfl, h1, h2, q⟩ := h
    refine ⟨_, (pss_one (ps_expr (pe_call (ok_check_number T) (hr.mono (by decide)) rfl T.m_check_number T.F_check_number.kp T.b_check_number .nil pass0 (pa_cons (pv 0) (pa_cons pe_int (pa_cons (pe_glob (v := .int 4) rfl T.g_MAX_LETTERS ⟨_, rfl⟩) pa_nil)))))), ?_⟩
    exact ⟨_, rfl, _, _, _, rfl, .inl ⟨k, rfl⟩, by simp [numB, h1, h2], q⟩
end
end K00
/-! K00b -/
set_option Elab.async false
set_option linter.all false
set_option maxRecDepth 100000
set_option maxHeartbeats 2000000
namespace K00
open PySem PySem.Spec PyProof.Rows L2 PpSet RL
theorem numV_int {K : PySem.W.Frag} {H : Hp} (i : Int) : NumV K H (.int i) := .inl ⟨i, rfl⟩
theorem numV_ints {K : PySem.W.Frag} {H : Hp} {ws : List Int} : ∀ x ∈ ws.map V.int, ∀ H', Same H H' → NumV K H' x := fun x hx H' _ => by
  obtain ⟨n, _, rfl⟩ := List.mem_map.mp hx
  exact .inl ⟨n, rfl⟩
theorem len_small {ws : List Int} (h : ws.length ≤ 100000) : (ws.map V.int).length < sizeLine := by rw [List.length_map, sizeLine_eq]; omega
theorem seqT {K : PySem.W.Frag} {H : Hp} {a : Addr} {xs : List V} (h : SqT K H a xs) : SqL K H a xs ∨ SqT K H a xs := .inr h
/-- the place from the end -/
theorem from_end (ws : List Int) (i : Nat) (h : i < ws.length) : ws[((ws.length : Int) - 1 - (i : Int)).toNat]? = ws.reverse[i]? := by
  have e : ((ws.length : Int) - 1 - (i : Int)).toNat = ws.length - 1 - i := by omega
  rw [e, List.getElem?_reverse h]
section
variable {P : Program} {w : World} {K : PySem.W.Frag} {mg : Str → Option Value} {base : Heap}
theorem ok_is_spelled (T : Txt K mg) : FnOk P w K mg base CX0 2 T.a_is_spelled T.d_is_spelled ["letters", "value", "most"] (sp_is_spelled K) := by
  refine T.F_is_spelled.ok sc_is_spelled (fun vs H Q E h => ?_) (fun cdv A outer s H vs Q E hr h => ?_)
  · obtain ⟨k, most, v, rfl, _⟩ := h
    rfl
  · obtain ⟨k, most, v, rfl, h⟩ := h
    refine ⟨_, (pss_cons (ps_if (PW.pt (pw_or (pt_not (pt_val (pe_callB (call_isiK (K := K) rfl) rfl T.n_isinstance (by decide +kernel) (pa_cons (pv 1) (pa_cons (pe_bltn (v := .ty "tuple") (u := .type "tuple") rfl T.n_tuple (by decide +kernel) rfl) pa_nil))))) (pw_or1 (pt_cmpR op_gt (pe_callB call_len_seq rfl T.n_len (by decide +kernel) (pa_cons (pv 1) pa_nil)) (pv 2) (nomark _))))) (pss_one (ps_ret pe_bl)) pss_nil) (pss_one (ps_ret (pe_callB (cr_all rfl) rfl T.n_all (by decide +kernel) (pa_cons (pe_lc (own := [("letter", 3)]) rfl sc_is_spelled.nd (pi_tup (pv 1)) (blkOk_by (own := [("letter", 3)]) (N := ["letters", "value", "most", "letter"]) (sc := defScope s_is_spelled) (by decide +kernel)) (fun _ _ _ _ _ => (pg_name (i := 3) sc_is_spelled.nd rfl (Or.inl rfl))) (fun _ _ _ _ _ => pts_nil) (fun _ _ _ _ _ => (pe_call (ok_is_number T) (hr.mono (by decide)) rfl T.m_is_number T.F_is_number.kp T.b_is_number .nil pass0 (pa_cons (pv 3) (pa_cons pe_int (pa_cons (pe_op op_sub (pv 0) pe_int) pa_nil)))))) pa_nil))))), ?_⟩
    rcases h with ⟨⟨t, ht, hk⟩, q⟩ | ⟨a, xs, rfl, hx, hz, hn, q⟩
    · exact ⟨_, rfl, _, _, _, _, false, rfl, .ty _, ht, hk, _, rfl, iteT (iteT q)⟩
    · refine ⟨_, rfl, _, _, _, _, true, rfl, .ty _, tyx_sqt hx, kit_ty (by decide +kernel), _, rfl, iteF ?_⟩
      refine ⟨_, rfl, _, _, rfl, .inr hx, _, rfl, _, _, rfl, rfl, _, rfl, ?_⟩
      by_cases c : (xs.length : Int) > most
      · refine ifT (decide_eq_true c) ?_
        have e : spelled xs k most = false := by
          unfold spelled
          rw [decide_eq_false (by omega), Bool.false_and]
        rw [e] at q
        exact q H (Same.refl H)
      · refine ifF (decide_eq_false c) ?_
        refine ⟨_, rfl, a, rfl, ⟨_, hx⟩, ?_⟩
        refine lc_tupF (i := 3) (f := fun x => .bl (numB x 0 (k - 1))) hx hz (fun x hm H2 Q2 s2 q2 => ?_) fun H2 p s2 _ hp => ?_
        · exact ⟨_, rfl, _, rfl, _, _, rfl, rfl, _, _, _, rfl, hn x hm H2 s2, q2 H2 (Same.refl H2)⟩
        · refine ⟨p, xs.map fun x => numB x 0 (k - 1), rfl, SqL.of (by rw [List.map_map]; exact hp), ?_⟩
          have e : spelled xs k most = (xs.map fun x => numB x 0 (k - 1)).all id := by
            unfold spelled
            rw [decide_eq_true (by omega), Bool.true_and, List.all_map]
            rfl
          rw [← e]
          exact q H2 s2
theorem ok_check_word (T : Txt K mg) : FnOk P w K mg base CX0 3 T.a_check_word T.d_check_word ["letters", "word"] (sp_check_word K) := by
  refine T.F_check_word.ok sc_check_word (fun vs H Q E h => ?_) (fun cdv A outer s H vs Q E hr h => ?_)
  · obtain ⟨k, v, ws, rfl, _⟩ := h
    rfl
  · obtain ⟨k, v, ws, rfl, ⟨a, rfl, ha⟩, hk, q⟩ := h
    refine ⟨_, (pss_one (ps_if (pt_not (pt_val (pe_call (ok_is_spelled T) (hr.mono (by decide)) rfl T.m_is_spelled T.F_is_spelled.kp T.b_is_spelled .nil pass0 (pa_cons (pv 0) (pa_cons (pv 1) (pa_cons (pe_glob (v := .int 200) rfl T.g_MAX_WORD ⟨_, rfl⟩) pa_nil)))))) (pss_one ps_never) pss_nil)), ?_⟩
    refine ⟨_, rfl, _, rfl, k, 200, _, rfl, .inr ⟨a, _, rfl, ha, len_small (by have := hk.1; omega), numV_ints, fun H2 s2 => ⟨_, rfl, ?_⟩⟩⟩
    rw [spelled_ok hk (Int.le_refl _)]
    exact iteF (q H2 s2)
theorem ok_check_both (T : Txt K mg) : FnOk P w K mg base CX0 4 T.a_check_both T.d_check_both ["letters", "one", "other"] (sp_check_both K) := by
  refine T.F_check_both.ok sc_check_both (fun vs H Q E h => ?_) (fun cdv A outer s H vs Q E hr h => ?_)
  · obtain ⟨k, v, u, a, b, rfl, _⟩ := h
    rfl
  · obtain ⟨k, v, u, a, b, rfl, k1, k4, ha, hb, oa, ob, q⟩ := h
    refine ⟨_, (pss_cons (ps_expr (pe_call (ok_check_letters T) (hr.mono (by decide)) rfl T.m_check_letters T.F_check_letters.kp T.b_check_letters .nil pass0 (pa_cons (pv 0) pa_nil))) (pss_cons (ps_expr (pe_call (ok_check_word T) (hr.mono (by decide)) rfl T.m_check_word T.F_check_word.kp T.b_check_word .nil pass0 (pa_cons (pv 0) (pa_cons (pv 1) pa_nil)))) (pss_one (ps_expr (pe_call (ok_check_word T) (hr.mono (by decide)) rfl T.m_check_word T.F_check_word.kp T.b_check_word .nil pass0 (pa_cons (pv 0) (pa_cons (pv 2) pa_nil))))))), ?_⟩
    exact ⟨_, rfl, k, rfl, k1, k4, _, rfl, _, rfl, k, _, a, rfl, ha, oa, fun H2 s2 => ⟨_, rfl, _, rfl, k, _, b, rfl, hb.same s2, ob, fun H3 s3 => q H3 (Same.trans s2 s3)⟩⟩
theorem ok_order_words (T : Txt K mg) : FnOk P w K mg base CX0 1 T.a_order_words T.d_order_words ["one", "other"] (sp_order_words K) := by
  refine T.F_order_words.ok sc_order_words (fun vs H Q E h => ?_) (fun cdv A outer s H vs Q E hr h => ?_)
  · obtain ⟨v, u, a, b, rfl, _⟩ := h
    rfl
  · obtain ⟨v, u, a, b, rfl, ha, hb, q⟩ := h
    refine ⟨_, (pss_cons (ps_if (pt_cmpR (op_eqD hr.units) (pv 0) (pv 1) (nomark _)) (pss_one (ps_ret pe_int)) pss_nil) (pss_one (ps_ret (pe_ifExp (pt_cmpR (op_ltT hr.units0) (pe_revK (K := K) rfl (pv 0)) (pe_revK (K := K) rfl (pv 1)) (nomark _)) (pe_un un_neg pe_int) pe_int)))), ?_⟩
    refine ⟨_, rfl, _, rfl, _, _, ha.dp, hb.dp, shaped_tup a, shaped_tup b, _, rfl, ?_⟩
    rw [eqv_tup]
    obtain ⟨x, rfl, hx⟩ := ha
    obtain ⟨y, rfl, hy⟩ := hb
    by_cases c : a = b
    · refine ifT (decide_eq_true c) ?_
      have e : ordW a b = 0 := by simp [ordW, c]
      rw [e] at q
      exact q H (Same.refl H)
    · refine ifF (decide_eq_false c) ?_
      refine ⟨_, rfl, x, _, rfl, hx, fun H2 p s2 hp => ⟨_, rfl, y, _, rfl, Same.sqt s2 hy, fun H3 r s3 hr => ⟨p, r, a.reverse, b.reverse, rfl, rfl, by rw [List.map_reverse]; exact Same.sqt s3 hp, by rw [List.map_reverse]; exact hr, _, rfl, ?_⟩⟩⟩
      have e : ordW a b = if HT.lexLt a.reverse b.reverse = true then -1 else 1 := by simp [ordW, c]
      rw [e] at q
      cases hl : HT.lexLt a.reverse b.reverse with
      | true =>
        rw [hl, if_pos rfl] at q
        exact iteT ⟨_, rfl, q H3 (Same.trans s2 s3)⟩
      | false =>
        rw [hl, if_neg Bool.false_ne_true] at q
        exact iteF (q H3 (Same.trans s2 s3))
theorem ok_count_common (T : Txt K mg) : FnOk P w K mg base CX0 1 T.a_count_common T.d_count_common ["one", "other"] (sp_count_common K) := by
  refine T.F_count_common.ok sc_count_common (fun vs H Q E h => ?_) (fun cdv A outer s H vs Q E hr h => ?_)
  · obtain ⟨v, u, a, b, rfl, _⟩ := h
    rfl
  · obtain ⟨v, u, a, b, rfl, ⟨x, rfl, hx⟩, ⟨y, rfl, hy⟩, q⟩ := h
    refine ⟨_, (pss_cons (ps_set (i := 2) sc_count_common.nd rfl (Or.inl rfl) (pe_callB (call_min2 rfl) rfl T.n_min (by decide +kernel) (pa_cons (pe_callB call_len_seq rfl T.n_len (by decide +kernel) (pa_cons (pv 0) pa_nil)) (pa_cons (pe_callB call_len_seq rfl T.n_len (by decide +kernel) (pa_cons (pv 1) pa_nil)) pa_nil)))) (pss_cons (ps_set (i := 3) sc_count_common.nd rfl (Or.inl rfl) pe_int) (pss_cons (ps_while PassesOwn.never (PW.pt (pw_and (pt_cmpR op_lt (pv 3) (pv 2) (nomark _)) (pw_and1 (pt_cmpR op_eq (pe_ix ix_tup (pv 0) (pe_op op_sub (pe_op op_sub (pe_callB call_len_seq rfl T.n_len (by decide +kernel) (pa_cons (pv 0) pa_nil)) pe_int) (pv 3)) (fun _ _ => rfl)) (pe_ix ix_tup (pv 1) (pe_op op_sub (pe_op op_sub (pe_callB call_len_seq rfl T.n_len (by decide +kernel) (pa_cons (pv 1) pa_nil)) pe_int) (pv 3)) (fun _ _ => rfl)) (nomark _))))) (pss_one (ps_aug (i := 3) sc_count_common.nd rfl (Or.inl rfl) pe_int ip_add))) (pss_one (ps_ret (pv 3)))))), ?_⟩
    have la : (a.map V.int).length = a.length := List.length_map _
    have lb : (b.map V.int).length = b.length := List.length_map _
    have cl := cpl_le a.reverse b.reverse
    rw [List.length_reverse, List.length_reverse] at cl
    refine ⟨_, rfl, _, _, rfl, .inr hx, _, rfl, _, _, rfl, .inr hy, _, _, rfl, ?_⟩
    rw [la, lb]
    have em : (if (b.length : Int) < (a.length : Int) then (b.length : Int) else (a.length : Int)) = ((min a.length b.length : Nat) : Int) := by split <;> omega
    rw [em]
    refine ⟨fun m σ H2 => H2 = H ∧ ∃ i : Nat, i ≤ cpl a.reverse b.reverse ∧ m = min a.length b.length - i ∧ σ = [some (.ref x), some (.ref y), some (.int ((min a.length b.length : Nat) : Int)), some (.int (i : Int))], ⟨_, rfl, 0, Nat.zero_le _, rfl, rfl⟩, ?_⟩
    rintro m σ H2 ⟨rfl, i, hi, rfl, rfl⟩
    refine ⟨_, rfl, _, rfl, _, _, rfl, rfl, _, rfl, ?_⟩
    by_cases c : (i : Int) < ((min a.length b.length : Nat) : Int)
    · refine ifT (decide_eq_true c) ?_
      have ia : i < a.length := by omega
      have ib : i < b.length := by omega
      have ea := from_end a i ia
      have eb := from_end b i ib
      have ra : i < a.reverse.length := by rw [List.length_reverse]; exact ia
      have rb : i < b.reverse.length := by rw [List.length_reverse]; exact ib
      rw [List.getElem?_eq_getElem ra] at ea
      rw [List.getElem?_eq_getElem rb] at eb
      refine ⟨_, rfl, _, rfl, _, _, rfl, .inr hx, _, _, rfl, rfl, _, rfl, _, _, rfl, rfl, x, _, _, _, rfl, rfl, hx, at_int (by rw [la]; omega) (by rw [la]; exact ea), ?_⟩
      refine ⟨_, rfl, _, rfl, _, _, rfl, .inr hy, _, _, rfl, rfl, _, rfl, _, _, rfl, rfl, y, _, _, _, rfl, rfl, hy, at_int (by rw [lb]; omega) (by rw [lb]; exact eb), ?_⟩
      refine ⟨rfl, _, rfl, ?_⟩
      by_cases d : a.reverse[i] = b.reverse[i]
      · refine ifT (decide_eq_true (by rw [d])) ⟨_, fun σ' H' z => z, ?_⟩
        refine ⟨_, rfl, _, _, rfl, rfl, ?_⟩
        refine ⟨min a.length b.length - (i + 1), by omega, rfl, i + 1, ?_, rfl, rfl⟩
        refine Nat.lt_of_le_of_ne hi fun z => ?_
        have n := cpl_ne a.reverse b.reverse (by rw [List.length_reverse, List.length_reverse]; omega)
        rw [← z, List.getElem?_eq_getElem ra, List.getElem?_eq_getElem rb, d] at n
        exact n rfl
      · refine ifF (decide_eq_false (fun z => d (by injection z))) ?_
        have e : cpl a.reverse b.reverse = i := by
          refine Nat.le_antisymm (Nat.le_of_not_lt fun z => ?_) hi
          have n := cpl_at _ _ _ z
          rw [List.getElem?_eq_getElem ra, List.getElem?_eq_getElem rb] at n
          exact d (Option.some.inj n)
        rw [e] at q
        exact ⟨_, rfl, q⟩
    · refine ifF (decide_eq_false c) ?_
      have e : cpl a.reverse b.reverse = i := by omega
      rw [e] at q
      exact ⟨_, rfl, q⟩
theorem ok_is_word (T : Txt K mg) : FnOk P w K mg base CX0 4 T.a_is_word T.d_is_word ["letters", "value"] (sp_is_word K) := by
  refine T.F_is_word.ok sc_is_word (fun vs H Q E h => ?_) (fun cdv A outer s H vs Q E hr h => ?_)
  · obtain ⟨k, v, rfl, _⟩ := h
    rfl
  · obtain ⟨k, v, rfl, k1, k4, h⟩ := h
    refine ⟨_, (pss_cons (ps_expr (pe_call (ok_check_letters T) (hr.mono (by decide)) rfl T.m_check_letters T.F_check_letters.kp T.b_check_letters .nil pass0 (pa_cons (pv 0) pa_nil))) (pss_one (ps_ret (pe_call (ok_is_spelled T) (hr.mono (by decide)) rfl T.m_is_spelled T.F_is_spelled.kp T.b_is_spelled .nil pass0 (pa_cons (pv 0) (pa_cons (pv 1) (pa_cons (pe_glob (v := .int 200) rfl T.g_MAX_WORD ⟨_, rfl⟩) pa_nil))))))), ?_⟩
    exact ⟨_, rfl, k, rfl, k1, k4, _, rfl, _, rfl, k, 200, _, rfl, h⟩
theorem ok_compare_words (T : Txt K mg) : FnOk P w K mg base CX0 5 T.a_compare_words T.d_compare_words ["letters", "one", "other"] (sp_two K fun a b => .int (ordW a b)) := by
  refine T.F_compare_words.ok sc_compare_words (fun vs H Q E h => ?_) (fun cdv A outer s H vs Q E hr h => ?_)
  · obtain ⟨k, v, u, a, b, rfl, _⟩ := h
    rfl
  · obtain ⟨k, v, u, a, b, rfl, k1, k4, ha, hb, oa, ob, q⟩ := h
    refine ⟨_, (pss_cons (ps_expr (pe_call (ok_check_both T) (hr.mono (by decide)) rfl T.m_check_both T.F_check_both.kp T.b_check_both .nil pass0 (pa_cons (pv 0) (pa_cons (pv 1) (pa_cons (pv 2) pa_nil))))) (pss_one (ps_ret (pe_call (ok_order_words T) (hr.mono (by decide)) rfl T.m_order_words T.F_order_words.kp T.b_order_words .nil pass0 (pa_cons (pv 1) (pa_cons (pv 2) pa_nil)))))), ?_⟩
    exact ⟨_, rfl, _, rfl, _, rfl, k, _, _, a, b, rfl, k1, k4, ha, hb, oa, ob, fun H2 s2 => ⟨_, rfl, _, rfl, _, _, a, b, rfl, ha.same s2, hb.same s2, fun H3 s3 => q H3 (Same.trans s2 s3)⟩⟩
theorem ok_common_end (T : Txt K mg) : FnOk P w K mg base CX0 5 T.a_common_end T.d_common_end ["letters", "one", "other"] (sp_two K fun a b => .int (cpl a.reverse b.reverse)) := by
  refine T.F_common_end.ok sc_common_end (fun vs H Q E h => ?_) (fun cdv A outer s H vs Q E hr h => ?_)
  · obtain ⟨k, v, u, a, b, rfl, _⟩ := h
    rfl
  · obtain ⟨k, v, u, a, b, rfl, k1, k4, ha, hb, oa, ob, q⟩ := h
    refine ⟨_, (pss_cons (ps_expr (pe_call (ok_check_both T) (hr.mono (by decide)) rfl T.m_check_both T.F_check_both.kp T.b_check_both .nil pass0 (pa_cons (pv 0) (pa_cons (pv 1) (pa_cons (pv 2) pa_nil))))) (pss_one (ps_ret (pe_call (ok_count_common T) (hr.mono (by decide)) rfl T.m_count_common T.F_count_common.kp T.b_count_common .nil pass0 (pa_cons (pv 1) (pa_cons (pv 2) pa_nil)))))), ?_⟩
    exact ⟨_, rfl, _, rfl, _, rfl, k, _, _, a, b, rfl, k1, k4, ha, hb, oa, ob, fun H2 s2 => ⟨_, rfl, _, rfl, _, _, a, b, rfl, ha.same s2, hb.same s2, q H2 s2⟩⟩
theorem ok_is_end (T : Txt K mg) : FnOk P w K mg base CX0 5 T.a_is_end T.d_is_end ["letters", "one", "other"] (sp_two K fun a b => .bl (decide (cpl a.reverse b.reverse = a.length))) := by
  refine T.F_is_end.ok sc_is_end (fun vs H Q E h => ?_) (fun cdv A outer s H vs Q E hr h => ?_)
  · obtain ⟨k, v, u, a, b, rfl, _⟩ := h
    rfl
  · obtain ⟨k, v, u, a, b, rfl, k1, k4, ha, hb, oa, ob, q⟩ := h
    refine ⟨_, (pss_cons (ps_expr (pe_call (ok_check_both T) (hr.mono (by decide)) rfl T.m_check_both T.F_check_both.kp T.b_check_both .nil pass0 (pa_cons (pv 0) (pa_cons (pv 1) (pa_cons (pv 2) pa_nil))))) (pss_one (ps_ret (pe_cmpR op_eq (pe_call (ok_count_common T) (hr.mono (by decide)) rfl T.m_count_common T.F_count_common.kp T.b_count_common .nil pass0 (pa_cons (pv 1) (pa_cons (pv 2) pa_nil))) (pe_callB call_len_seq rfl T.n_len (by decide +kernel) (pa_cons (pv 1) pa_nil)) (nomark _))))), ?_⟩
    refine ⟨_, rfl, _, rfl, _, rfl, k, _, _, a, b, rfl, k1, k4, ha, hb, oa, ob, fun H2 s2 => ⟨_, rfl, _, rfl, _, _, a, b, rfl, ha.same s2, hb.same s2, ?_⟩⟩
    obtain ⟨x, rfl, hx⟩ := ha
    refine ⟨_, rfl, x, _, rfl, .inr (Same.sqt s2 hx), rfl, ?_⟩
    have e : decide (V.int ((cpl a.reverse b.reverse : Nat) : Int) = V.int (((a.map V.int).length : Nat) : Int)) = decide (cpl a.reverse b.reverse = a.length) := by
      rw [List.length_map]
      refine decide_eq_decide.mpr ⟨fun z => ?_, fun z => by rw [z]⟩
      injection z with z
      omega
    rw [e]
    exact q H2 s2
end
end K00
/-! O1 -/
set_option linter.all false
set_option maxRecDepth 100000
namespace RL
open PySem L2
theorem lexLt_eq : ∀ a b : List Int, HT.lexLt a b = decide (a < b)
  | [], [] => by simp [HT.lexLt]
  | [], _ :: _ => by simp [HT.lexLt]
  | _ :: _, [] => by simp [HT.lexLt]
  | x :: xs, y :: ys => by
    have ih := lexLt_eq xs ys
    simp only [HT.lexLt, List.cons_lt_cons_iff]
    by_cases e : x = y
    · subst e
      simp [ih]
    · simp [e]
theorem lt_tri (a b : List Int) : a < b ∨ a = b ∨ b < a := by
  by_cases h1 : a < b
  · exact .inl h1
  · by_cases h2 : b < a
    · exact .inr (.inr h2)
    · exact .inr (.inl (List.le_antisymm (List.not_lt.mp h2) (List.not_lt.mp h1)))
theorem lt_tr {a b c : List Int} (h : a < b) (k : b < c) : a < c := List.lt_trans h k
theorem lt_ir (a : List Int) : ¬ a < a := List.lt_irrefl a
/-- two strictly rising lists with the same members are one -/
theorem rise_uniq {α : Type} (lt : α → α → Prop) (ir : ∀ a, ¬ lt a a) (tr : ∀ a b c, lt a b → lt b c → lt a c) : ∀ {l m : List α}, l.Pairwise lt → m.Pairwise lt → (∀ x, x ∈ l ↔ x ∈ m) → l = m
  | [], [], _, _, _ => rfl
  | [], y :: m, _, _, h => absurd ((h y).mpr List.mem_cons_self) (by simp)
  | x :: l, [], _, _, h => absurd ((h x).mp List.mem_cons_self) (by simp)
  | x :: l, y :: m, hl, hm, h => by
    have hl' := List.pairwise_cons.mp hl
    have hm' := List.pairwise_cons.mp hm
    have e : x = y := by
      rcases List.mem_cons.mp ((h x).mp List.mem_cons_self) with z | z
      · exact z
      · rcases List.mem_cons.mp ((h y).mpr List.mem_cons_self) with u | u
        · exact u.symm
        · exact absurd (tr _ _ _ (hm'.1 x z) (hl'.1 y u)) (ir _)
    subst e
    have h2 : ∀ z, z ∈ l ↔ z ∈ m := fun z => by
      constructor
      · intro hz
        rcases List.mem_cons.mp ((h z).mp (List.mem_cons_of_mem _ hz)) with u | u
        · rw [u] at hz
          exact absurd (hl'.1 _ hz) (ir _)
        · exact u
      · intro hz
        rcases List.mem_cons.mp ((h z).mpr (List.mem_cons_of_mem _ hz)) with u | u
        · rw [u] at hz
          exact absurd (hm'.1 _ hz) (ir _)
        · exact u
    rw [rise_uniq lt ir tr hl'.2 hm'.2 h2]
theorem rowLt_ints (a b : List Int) : PySem.W.dataLt (.tuple (a.map .int)) (.tuple (b.map .int)) = decide (a < b) := by
  rw [PySem.W.dataLt_tuple]
  exact PySem.W.dataLt_ints a b
theorem dle_rows {β : Type} (f : β → List Int) : PySem.W.dataLe false (fun b => .tuple ((f b).map .int)) = fun p q => decide (f p ≤ f q) := by
  funext p q
  rw [PySem.W.dataLe_eq]
  show (!PySem.W.dataLt (.tuple ((f q).map .int)) (.tuple ((f p).map .int))) = _
  rw [rowLt_ints]
  by_cases h : f q < f p
  · rw [decide_eq_true h, decide_eq_false (by exact fun z => absurd h (List.not_lt.mpr z))]
    rfl
  · rw [decide_eq_false h, decide_eq_true (List.not_lt.mp h)]
    rfl
/-- sorted by a row: rising -/
theorem sorted_rise {β : Type} (f : β → List Int) (l : List β) (hn : (l.map f).Nodup) : ((l.mergeSort (PySem.W.dataLe false (fun b => .tuple ((f b).map .int)))).map f).Pairwise (· < ·) := by
  rw [dle_rows]
  have h1 : (l.mergeSort fun p q => decide (f p ≤ f q)).Pairwise fun p q => decide (f p ≤ f q) = true :=
    List.pairwise_mergeSort (le := fun p q => decide (f p ≤ f q)) (fun a b c h k => decide_eq_true (List.le_trans (of_decide_eq_true h) (of_decide_eq_true k))) (fun a b => by
      rcases List.le_total (f a) (f b) with z | z
      · rw [decide_eq_true z]; rfl
      · rw [decide_eq_true z, Bool.or_true]) l
  have h2 : ((l.mergeSort fun p q => decide (f p ≤ f q)).map f).Nodup := (((List.mergeSort_perm l _).map f).nodup_iff).mpr hn
  rw [List.pairwise_map]
  have h3 := List.pairwise_map.mp h2
  refine List.Pairwise.imp₂ (fun {a b} p q => ?_) h1 h3
  rcases lt_tri (f a) (f b) with z | z | z
  · exact z
  · exact absurd z q
  · exact absurd z (List.not_lt.mpr (of_decide_eq_true p))
end RL
/-! M1 -/
set_option linter.all false
set_option maxRecDepth 100000
namespace K00
open RL
/-! ### how many words, and which -/
def sz (k : Int) : Nat → Int
  | 0 => 1
  | n + 1 => sz k n * k + 1
def raised (k : Int) : List Int → Option (List Int)
  | [] => none
  | x :: xs => if x < k - 1 then some ((x + 1) :: xs) else raised k xs
/-- the index of a word, told from its end -/
def plc (k : Int) : Nat → List Int → Int
  | _, [] => 0
  | n, x :: r => 1 + x * sz k (n - 1) + plc k (n - 1) r
/-- the word at an index, from its end -/
def wat (k : Int) : Nat → Int → List Int
  | 0, _ => []
  | n + 1, m => if m = 0 then [] else ((m - 1) / sz k n) :: wat k n ((m - 1) % sz k n)
def letters (k : Int) (r : List Int) : Prop := ∀ x ∈ r, 0 ≤ x ∧ x < k
theorem sz_pos {k : Int} (hk : 1 ≤ k) : ∀ n, 1 ≤ sz k n
  | 0 => Int.le_refl 1
  | n + 1 => by
    have ih := sz_pos hk n
    have h : 0 ≤ sz k n * k := Int.mul_nonneg (by omega) (by omega)
    show 1 ≤ sz k n * k + 1
    omega
theorem sz_mono {k : Int} (hk : 1 ≤ k) (n : Nat) : sz k n + 1 ≤ sz k (n + 1) := by
  have p := sz_pos hk n
  have h : sz k n * 1 ≤ sz k n * k := Int.mul_le_mul_of_nonneg_left hk (by omega)
  show sz k n + 1 ≤ sz k n * k + 1
  omega
theorem sz_le {k : Int} (hk : 1 ≤ k) : ∀ n m, n ≤ m → sz k n ≤ sz k m
  | n, 0, h => by
    have e : n = 0 := by omega
    subst e
    exact Int.le_refl _
  | n, m + 1, h => by
    by_cases e : n = m + 1
    · subst e
      exact Int.le_refl _
    · have := sz_le hk n m (by omega)
      have := sz_mono hk m
      omega
theorem plc_bd {k : Int} (hk : 1 ≤ k) : ∀ (r : List Int) (n : Nat), r.length ≤ n → letters k r → 0 ≤ plc k n r ∧ plc k n r < sz k n
  | [], n, _, _ => by
    have := sz_pos hk n
    simp only [plc]
    omega
  | x :: r, 0, h, _ => by simp at h
  | x :: r, n + 1, h, hl => by
    have ih := plc_bd hk r n (by simpa using h) fun y hy => hl y (List.mem_cons_of_mem _ hy)
    have hx := hl x List.mem_cons_self
    have p := sz_pos hk n
    show 0 ≤ 1 + x * sz k n + plc k n r ∧ 1 + x * sz k n + plc k n r < sz k n * k + 1
    have h1 : 0 ≤ x * sz k n := Int.mul_nonneg hx.1 (by omega)
    have h2 : x * sz k n ≤ (k - 1) * sz k n := Int.mul_le_mul_of_nonneg_right (by omega) (by omega)
    have h3 : (k - 1) * sz k n = sz k n * k - sz k n := by rw [Int.sub_mul, Int.mul_comm k, Int.one_mul]
    omega
theorem wat_plc {k : Int} (hk : 1 ≤ k) : ∀ (r : List Int) (n : Nat), r.length ≤ n → letters k r → wat k n (plc k n r) = r
  | [], n, _, _ => by
    cases n with
    | zero => rfl
    | succ n => show (if (0 : Int) = 0 then _ else _) = _; rw [if_pos rfl]
  | x :: r, 0, h, _ => by simp at h
  | x :: r, n + 1, h, hl => by
    have hr : letters k r := fun y hy => hl y (List.mem_cons_of_mem _ hy)
    have hn : r.length ≤ n := by simpa using h
    have b := plc_bd hk r n hn hr
    have hx := hl x List.mem_cons_self
    have p := sz_pos hk n
    have h1 : 0 ≤ x * sz k n := Int.mul_nonneg hx.1 (by omega)
    have e : plc k (n + 1) (x :: r) = 1 + x * sz k n + plc k n r := rfl
    show (if plc k (n + 1) (x :: r) = 0 then _ else _) = _
    rw [e, if_neg (by omega)]
    have e2 : 1 + x * sz k n + plc k n r - 1 = plc k n r + x * sz k n := by omega
    rw [e2]
    have e3 : (plc k n r + x * sz k n) / sz k n = x := by
      rw [Int.add_mul_ediv_right _ _ (by omega), Int.ediv_eq_zero_of_lt b.1 b.2, Int.zero_add]
    have e4 : (plc k n r + x * sz k n) % sz k n = plc k n r := by
      rw [Int.add_mul_emod_self_right, Int.emod_eq_of_lt b.1 b.2]
    rw [e3, e4, wat_plc hk r n hn hr]
theorem wat_ok {k : Int} (hk : 1 ≤ k) : ∀ (n : Nat) (m : Int), 0 ≤ m → m < sz k n → (wat k n m).length ≤ n ∧ letters k (wat k n m) ∧ plc k n (wat k n m) = m
  | 0, m, h0, h1 => by
    have : m = 0 := by simp only [sz] at h1; omega
    exact ⟨Nat.le_refl _, fun x hx => by simp [wat] at hx, by simp [wat, plc, this]⟩
  | n + 1, m, h0, h1 => by
    by_cases e : m = 0
    · subst e
      have w : wat k (n + 1) 0 = [] := by show (if (0 : Int) = 0 then _ else _) = _; rw [if_pos rfl]
      rw [w]
      exact ⟨Nat.zero_le _, fun x hx => by simp at hx, rfl⟩
    · have w : wat k (n + 1) m = ((m - 1) / sz k n) :: wat k n ((m - 1) % sz k n) := by show (if m = 0 then _ else _) = _; rw [if_neg e]
      have p := sz_pos hk n
      have r0 : 0 ≤ (m - 1) % sz k n := Int.emod_nonneg _ (by omega)
      have r1 : (m - 1) % sz k n < sz k n := Int.emod_lt_of_pos _ (by omega)
      obtain ⟨i1, i2, i3⟩ := wat_ok hk n _ r0 r1
      have q0 : 0 ≤ (m - 1) / sz k n := Int.ediv_nonneg (by omega) (by omega)
      have q1 : (m - 1) / sz k n < k := by
        refine Int.ediv_lt_of_lt_mul (by omega) ?_
        have : m < sz k n * k + 1 := h1
        rw [Int.mul_comm]
        omega
      rw [w]
      refine ⟨by simpa using i1, fun x hx => ?_, ?_⟩
      · rcases List.mem_cons.mp hx with z | z
        · rw [z]; exact ⟨q0, q1⟩
        · exact i2 x z
      · show 1 + (m - 1) / sz k n * sz k n + plc k n (wat k n ((m - 1) % sz k n)) = m
        rw [i3]
        have := Int.mul_ediv_add_emod (m - 1) (sz k n)
        rw [Int.mul_comm] at this
        omega
theorem plc_lt {k : Int} (hk : 1 ≤ k) : ∀ (a b : List Int) (n : Nat), a.length ≤ n → b.length ≤ n → letters k a → letters k b → a < b → plc k n a < plc k n b
  | [], [], n, _, _, _, _, h => absurd h (List.lt_irrefl _)
  | _ :: _, [], n, _, _, _, _, h => absurd h (List.not_lt_nil _)
  | [], y :: b, 0, _, hb, _, _, _ => by simp at hb
  | [], y :: b, n + 1, _, hb, _, lb, _ => by
    have ib := plc_bd hk b n (by simpa using hb) fun z hz => lb z (List.mem_cons_of_mem _ hz)
    have hy := lb y List.mem_cons_self
    have p := sz_pos hk n
    have h1 : 0 ≤ y * sz k n := Int.mul_nonneg hy.1 (by omega)
    show 0 < 1 + y * sz k n + plc k n b
    omega
  | x :: a, y :: b, 0, ha, _, _, _, _ => by simp at ha
  | x :: a, y :: b, n + 1, ha, hb, la, lb, h => by
    have la' : letters k a := fun z hz => la z (List.mem_cons_of_mem _ hz)
    have lb' : letters k b := fun z hz => lb z (List.mem_cons_of_mem _ hz)
    have ia := plc_bd hk a n (by simpa using ha) la'
    have ib := plc_bd hk b n (by simpa using hb) lb'
    have p := sz_pos hk n
    show 1 + x * sz k n + plc k n a < 1 + y * sz k n + plc k n b
    rcases List.cons_lt_cons_iff.mp h with z | ⟨z, z2⟩
    · have h2 : (x + 1) * sz k n ≤ y * sz k n := Int.mul_le_mul_of_nonneg_right (by omega) (by omega)
      rw [Int.add_mul, Int.one_mul] at h2
      omega
    · subst z
      have := plc_lt hk a b n (by simpa using ha) (by simpa using hb) la' lb' z2
      omega
theorem plc_zero {k : Int} : ∀ (r : List Int) (n : Nat), r.length < n → plc k n (r ++ [0]) = plc k n r + 1
  | [], n, _ => by simp [plc]
  | x :: r, 0, h => by simp at h
  | x :: r, n + 1, h => by
    have ih := plc_zero (k := k) r n (by simpa using h)
    show 1 + x * sz k n + plc k n (r ++ [0]) = 1 + x * sz k n + plc k n r + 1
    omega
theorem sz_big : ∀ n, sz 4 n * 3 + 1 = 4 ^ (n + 1)
  | 0 => by decide
  | n + 1 => by
    have ih := sz_big n
    show (sz 4 n * 4 + 1) * 3 + 1 = 4 ^ (n + 1 + 1)
    rw [Int.pow_succ, ← ih]
    omega
theorem sz_k {k l : Int} (hk : 1 ≤ k) (h : k ≤ l) : ∀ n, sz k n ≤ sz l n
  | 0 => Int.le_refl _
  | n + 1 => by
    have ih := sz_k hk h n
    have p := sz_pos hk n
    have h1 : sz k n * k ≤ sz k n * l := Int.mul_le_mul_of_nonneg_left h (by omega)
    have h2 : sz k n * l ≤ sz l n * l := Int.mul_le_mul_of_nonneg_right ih (by omega)
    show sz k n * k + 1 ≤ sz l n * l + 1
    omega
theorem sz_most {k : Int} (hk : 1 ≤ k) (h4 : k ≤ 4) {n : Nat} (hn : n ≤ 60) : sz k n ≤ 4 ^ 61 := by
  have h1 := sz_le hk n 60 hn
  have h2 := sz_k hk h4 60
  have h3 := sz_big 60
  have h4 : (4 : Int) ^ (60 + 1) = 4 ^ 61 := rfl
  omega
end K00
/-! K00c -/
set_option Elab.async false
set_option linter.all false
set_option maxRecDepth 100000
set_option maxHeartbeats 2000000
namespace K00
open PySem PySem.Spec PyProof.Rows L2 PpSet RL
theorem isW_of {K : PySem.W.Frag} {H : Hp} {a : Addr} {ws : List Int} (h : SqT K H a (ws.map V.int)) : IsW K H (.ref a) ws := ⟨a, rfl, h⟩
def sp__raised (K : PySem.W.Frag) : Sp := fun vs H Q _ => ∃ (k : Int) (v : V) (ws : List Int), vs = [.int k, v] ∧ IsW K H v ws ∧ ws.length ≤ 1000 ∧
  (raised k ws = none → ∀ H', Same H H' → Q .non H') ∧ ∀ r, raised k ws = some r → ∀ H' u, Same H H' → IsW K H' u r → Q u H'
def sp__sizes : Sp := fun vs H Q _ => ∃ (k : Int) (n : Nat), vs = [.int k, .int n] ∧ 1 ≤ k ∧ k ≤ 4 ∧ n ≤ 60 ∧ NewL H Q ((List.range (n + 1)).map fun i => V.int (sz k i))
def sp_word_place (K : PySem.W.Frag) : Sp := fun vs H Q _ => ∃ (k : Int) (n : Nat) (v : V) (ws : List Int), vs = [.int k, .int n, v] ∧ 1 ≤ k ∧ k ≤ 4 ∧ n ≤ 60 ∧ IsW K H v ws ∧ okW k ws ∧ ws.length ≤ n ∧ ∀ H', Same H H' → Q (.int (plc k n ws.reverse)) H'
def sp_word_at (K : PySem.W.Frag) : Sp := fun vs H Q _ => ∃ (k : Int) (n : Nat) (m : Int), vs = [.int k, .int n, .int m] ∧ 1 ≤ k ∧ k ≤ 4 ∧ n ≤ 60 ∧ 0 ≤ m ∧ m < sz k n ∧ ∀ H' v, Same H H' → IsW K H' v (wat k n m).reverse → Q v H'
theorem raised_drop (k : Int) : ∀ (ws : List Int) (i : Nat), (∀ j x, j < i → ws[j]? = some x → ¬ x < k - 1) → raised k ws = raised k (ws.drop i)
  | ws, 0, _ => rfl
  | [], i + 1, _ => by simp
  | x :: ws, i + 1, h => by
    have h0 := h 0 x (by omega) rfl
    show (if x < k - 1 then _ else raised k ws) = _
    rw [if_neg h0, List.drop_succ_cons]
    exact raised_drop k ws i fun j y hj e => h (j + 1) y (by omega) (by simpa using e)
section
variable {P : Program} {w : World} {K : PySem.W.Frag} {mg : Str → Option Value} {base : Heap}
theorem ok__raised (T : Txt K mg) : FnOk P w K mg base CX0 1 T.a__raised T.d__raised ["letters", "word"] (sp__raised K) := by
  refine T.F__raised.ok sc__raised (fun vs H Q E h => ?_) (fun cdv A outer s H vs Q E hr h => ?_)
  · obtain ⟨k, v, ws, rfl, _⟩ := h
    rfl
  · obtain ⟨k, v, ws, rfl, ⟨a, rfl, ha⟩, hz, q1, q2⟩ := h
    refine ⟨_, (pss_cons (ps_for PassesOwn.never rfl (pi_enumT rfl T.n_enumerate (pa_cons (pv 1) pa_nil)) (pg_tupK (K := K) (n := 2) rfl rfl (pgs_cons (pg_name (i := 2) sc__raised.nd rfl (Or.inl rfl)) (pgs_cons (pg_name (i := 3) sc__raised.nd rfl (Or.inl rfl)) pgs_nil))) (pss_one (ps_if (pt_cmpR op_lt (pv 3) (pe_op op_sub (pv 0) pe_int) (nomark _)) (pss_one (ps_ret (pe_op (op_catK (K := K) rfl) (pe_tupK (K := K) rfl (pa_cons (pe_op op_add (pv 3) pe_int) pa_nil)) (pe_slice sl_tupU (pv 1) (po_some (pe_op op_add (pv 2) pe_int)) po_none)))) pss_nil))) (pss_one (ps_ret pe_non))), ?_⟩
    refine ⟨_, rfl, a, _, rfl, ha, ?_⟩
    refine ⟨fun i m σ H2 => i ≤ ws.length ∧ m = ws.length - i ∧ Same H H2 ∧ (∀ j x, j < i → ws[j]? = some x → ¬ x < k - 1) ∧ ∃ u1 u2, σ = [some (.int k), some (.ref a), u1, u2],
      ⟨_, Nat.zero_le _, rfl, Same.refl H, fun j x hj => absurd hj (Nat.not_lt_zero _), _, _, rfl⟩, ?_⟩
    rintro i m σ H2 ⟨hi, rfl, s2, hno, u1, u2, rfl⟩
    have ha2 := Same.sqt s2 ha
    rcases Nat.lt_or_ge i ws.length with hlt | hge
    · refine .inr ⟨⟨_, .int ws[i], ha2, by rw [List.getElem?_map, List.getElem?_eq_getElem hlt]; rfl⟩, _, fun σ' H' z => z, fun x H3 y => ?_⟩
      obtain ⟨t, x, rfl, ht, rfl, hx⟩ := y
      have ex : x = .int ws[i] := by
        have q := hx _ ha2
        rw [List.getElem?_map, List.getElem?_eq_getElem hlt] at q
        exact (Option.some.inj q).symm
      subst ex
      have s3 : Same H2 (upd H2 t (.tup [.int (i : Nat), .int ws[i]])) := same_upd ht _
      refine ⟨t, _, rfl, SqT.of upd_same, rfl, _, _, rfl, _, _, rfl, rfl, ?_⟩
      refine ⟨_, rfl, _, rfl, _, _, rfl, rfl, _, _, rfl, rfl, _, rfl, ?_⟩
      by_cases c : ws[i] < k - 1
      · refine ifT (decide_eq_true c) ?_
        have er : raised k ws = some ((ws[i] + 1) :: ws.drop (i + 1)) := by
          rw [raised_drop k ws i hno, List.drop_eq_getElem_cons hlt]
          show (if ws[i] < k - 1 then _ else _) = _
          rw [if_pos c]
        refine ⟨_, rfl, _, _, rfl, rfl, by show 1 ≤ sizeLine; decide, fun H4 p s4 hp => ?_⟩
        refine ⟨_, rfl, _, rfl, _, _, rfl, rfl, _, rfl, a, _, rfl, Same.sqt s4 (Same.sqt s3 ha2), fun H5 r s5 hr => ?_⟩
        rw [cut_from ws (by omega)] at hr
        have et : ((i : Int) + 1).toNat = i + 1 := by omega
        rw [et] at hr
        refine ⟨p, r, _, _, rfl, rfl, Same.sqt s5 hp, hr, ?_, fun H6 o s6 ho => ?_⟩
        · rw [List.length_map, List.length_drop]
          exact size200 (by simp; omega)
        · exact q2 _ er H6 _ (Same.trans s2 (Same.trans s3 (Same.trans s4 (Same.trans s5 s6)))) ⟨o, rfl, ho⟩
      · refine ifF (decide_eq_false c) ?_
        refine ⟨ws.length - (i + 1), by omega, hlt, rfl, Same.trans s2 s3, fun j x hj e => ?_, _, _, rfl⟩
        by_cases ej : j = i
        · subst ej
          rw [List.getElem?_eq_getElem hlt] at e
          rw [← Option.some.inj e]
          exact c
        · exact hno j x (by omega) e
    · refine .inl ⟨⟨_, ha2, by rw [List.length_map]; exact hge⟩, ?_⟩
      have er : raised k ws = none := by
        rw [raised_drop k ws i hno, List.drop_eq_nil_of_le hge]
        rfl
      exact q1 er H2 s2
theorem ok__sizes (T : Txt K mg) : FnOk P w K mg base CX0 1 T.a__sizes T.d__sizes ["letters", "length"] sp__sizes := by
  refine T.F__sizes.ok sc__sizes (fun vs H Q E h => ?_) (fun cdv A outer s H vs Q E hr h => ?_)
  · obtain ⟨k, n, rfl, _⟩ := h
    rfl
  · obtain ⟨k, n, rfl, k1, k4, hn, q⟩ := h
    refine ⟨_, (pss_cons (ps_set (i := 2) sc__sizes.nd rfl (Or.inl rfl) (pe_lstS (pa_cons pe_int pa_nil))) (pss_cons (ps_for PassesOwn.never rfl (pi_range1 rfl T.n_range (pa_cons (pv 1) pa_nil)) (pg_name (i := 3) sc__sizes.nd rfl (Or.inl rfl)) (pss_one (ps_expr (pe_bm PySem.F.plainAttrs_list PySem.F.slot_list_append PySem.F.type_list_append mt_append (pv 2) (pa_cons (pe_op op_add (pe_op op_mul (pe_ix ix_list (pv 2) (pe_un un_neg pe_int) (fun _ _ => rfl)) (pv 0)) pe_int) pa_nil))))) (pss_one (ps_ret (pv 2))))), ?_⟩
    refine ⟨by decide, fun H2 p s2 hp0 hp => ?_⟩
    refine ⟨_, rfl, _, rfl, by omega, by omega, ?_⟩
    refine for_range (fun i σ H3 => Same H H3 ∧ H3 p = some (.lst ((List.range (i + 1)).map fun i => V.int (sz k i))) ∧ ∃ u, σ = [some (.int k), some (.int (n : Int)), some (.ref p), u]) ⟨s2, hp, _, rfl⟩ ?_ ?_
    · rintro i σ H3 hi ⟨s3, hp3, u, rfl⟩
      have hi : i < n := by omega
      refine ⟨_, rfl, .inl ⟨rfl, _, SqL.of hp3⟩, ?_⟩
      refine ⟨_, rfl, _, rfl, p, _, _, .int (sz k i), rfl, rfl, SqL.of hp3, ?_, _, rfl, _, _, rfl, rfl, .inr ⟨by omega, by omega⟩, _, _, rfl, rfl, ?_⟩
      · show atI _ (-1) = _
        unfold atI
        have e : ixN (List.map (fun i => V.int (sz k i)) (List.range (i + 1))).length (-1) = some i := by
          rw [List.length_map, List.length_range]
          unfold ixN
          first
            | (rw [if_neg (by omega), if_pos (by omega)]; congr 1; omega)
            | (simp; omega)
        rw [e]
        simp
      · refine ⟨p, _, _, rfl, rfl, hp3, ?_, ?_⟩
        · rw [List.length_map, List.length_range, sizeLine_eq]
          omega
        · refine ⟨same_mut hp0 s3, ?_, _, rfl⟩
          rw [upd_same]
          exact congrArg (fun l => some (HO.lst l)) (range_more (fun i => V.int (sz k i)) (i + 1)).symm
    · rintro σ H3 ⟨s3, hp3, u, rfl⟩
      have e : (n : Int).toNat = n := by omega
      rw [e] at hp3
      exact ⟨_, rfl, q H3 p s3 hp0 hp3⟩
theorem at_sizes {k : Int} {n i : Nat} {z : Int} (hz : z = (i : Int)) (hi : i ≤ n) : atI ((List.range (n + 1)).map fun i => V.int (sz k i)) z = some (.int (sz k i)) := by
  rw [hz]
  refine atI_nat ?_
  rw [List.getElem?_map, List.getElem?_range (by omega)]
  rfl
theorem plc_snoc (k : Int) : ∀ (r : List Int) (n : Nat) (x : Int), plc k n (r ++ [x]) = plc k n r + (1 + x * sz k (n - r.length - 1))
  | [], n, x => by simp [plc]
  | y :: r, n, x => by
    have ih := plc_snoc k r (n - 1) x
    show 1 + y * sz k (n - 1) + plc k (n - 1) (r ++ [x]) = 1 + y * sz k (n - 1) + plc k (n - 1) r + (1 + x * sz k (n - (y :: r).length - 1))
    have e : n - 1 - r.length - 1 = n - (y :: r).length - 1 := by simp only [List.length_cons]; omega
    rw [ih, e]
    omega
theorem ok_word_place (T : Txt K mg) : FnOk P w K mg base CX0 4 T.a_word_place T.d_word_place ["letters", "length", "word"] (sp_word_place K) := by
  refine T.F_word_place.ok sc_word_place (fun vs H Q E h => ?_) (fun cdv A outer s H vs Q E hr h => ?_)
  · obtain ⟨k, n, v, ws, rfl, _⟩ := h
    rfl
  · obtain ⟨k, n, v, ws, rfl, k1, k4, hn, hw, ho, hl, q⟩ := h
    refine ⟨_, (pss_cons (ps_expr (pe_call (ok_check_letters T) (hr.mono (by decide)) rfl T.m_check_letters T.F_check_letters.kp T.b_check_letters .nil pass0 (pa_cons (pv 0) pa_nil))) (pss_cons (ps_expr (pe_call (ok_check_number T) (hr.mono (by decide)) rfl T.m_check_number T.F_check_number.kp T.b_check_number .nil pass0 (pa_cons (pv 1) (pa_cons pe_int (pa_cons (pe_glob (v := .int 60) rfl T.g_MOST_PLACED ⟨_, rfl⟩) pa_nil))))) (pss_cons (ps_expr (pe_call (ok_check_word T) (hr.mono (by decide)) rfl T.m_check_word T.F_check_word.kp T.b_check_word .nil pass0 (pa_cons (pv 0) (pa_cons (pv 2) pa_nil)))) (pss_cons (ps_if (pt_cmpR op_gt (pe_callB call_len_seq rfl T.n_len (by decide +kernel) (pa_cons (pv 2) pa_nil)) (pv 1) (nomark _)) (pss_one ps_never) pss_nil) (pss_cons (ps_set (i := 3) sc_word_place.nd rfl (Or.inl rfl) (pe_call (ok__sizes T) (hr.mono (by decide)) rfl T.m__sizes T.F__sizes.kp T.b__sizes .nil pass0 (pa_cons (pv 0) (pa_cons (pv 1) pa_nil)))) (pss_cons (ps_set (i := 4) sc_word_place.nd rfl (Or.inl rfl) pe_int) (pss_cons (ps_for PassesOwn.never rfl (pi_enumT rfl T.n_enumerate (pa_cons (pe_revK (K := K) rfl (pv 2)) pa_nil)) (pg_tupK (K := K) (n := 2) rfl rfl (pgs_cons (pg_name (i := 5) sc_word_place.nd rfl (Or.inl rfl)) (pgs_cons (pg_name (i := 6) sc_word_place.nd rfl (Or.inl rfl)) pgs_nil))) (pss_one (ps_aug (i := 4) sc_word_place.nd rfl (Or.inl rfl) (pe_op op_add pe_int (pe_op op_mul (pv 6) (pe_ix ix_list (pv 3) (pe_op op_sub (pe_op op_sub (pv 1) (pv 5)) pe_int) (fun _ _ => rfl)))) ip_add))) (pss_one (ps_ret (pv 4)))))))))), ?_⟩
    refine ⟨_, rfl, k, rfl, k1, k4, ?_⟩
    refine ⟨_, rfl, _, 0, 60, rfl, .inl ⟨_, rfl⟩, by simp [numB]; omega, ?_⟩
    refine ⟨_, rfl, _, rfl, k, _, ws, rfl, hw, ho, fun H2 s2 => ?_⟩
    obtain ⟨a, rfl, ha⟩ := hw
    have ha2 := Same.sqt s2 ha
    refine ⟨_, rfl, a, _, rfl, .inr ha2, _, rfl, _, _, rfl, rfl, _, rfl, ?_⟩
    refine ifF (decide_eq_false (by rw [List.length_map]; omega)) ?_
    refine ⟨_, rfl, _, rfl, k, n, rfl, k1, k4, hn, fun H3 p s3 _ hp => ?_⟩
    refine ⟨_, rfl, a, _, rfl, Same.sqt s3 ha2, fun H4 r s4 hr => ?_⟩
    rw [← List.map_reverse] at hr
    have hlr : ws.reverse.length = ws.length := List.length_reverse
    refine ⟨r, _, rfl, hr, ?_⟩
    refine ⟨fun i m σ H5 => i ≤ ws.length ∧ m = ws.length - i ∧ Same H4 H5 ∧ ∃ u1 u2, σ = [some (.int k), some (.int (n : Int)), some (.ref a), some (.ref p), some (.int (plc k n (ws.reverse.take i))), u1, u2],
      ⟨_, Nat.zero_le _, rfl, Same.refl H4, _, _, rfl⟩, ?_⟩
    rintro i m σ H5 ⟨hi, rfl, s5, u1, u2, rfl⟩
    have hr5 := Same.sqt s5 hr
    rcases Nat.lt_or_ge i ws.length with hlt | hge
    · have hlt' : i < ws.reverse.length := by omega
      refine .inr ⟨⟨_, .int ws.reverse[i], hr5, by rw [List.getElem?_map, List.getElem?_eq_getElem hlt']; rfl⟩, _, fun σ' H' z => z, fun x H6 y => ?_⟩
      obtain ⟨t, x, rfl, ht, rfl, hx⟩ := y
      have ex : x = .int ws.reverse[i] := by
        have q := hx _ hr5
        rw [List.getElem?_map, List.getElem?_eq_getElem hlt'] at q
        exact (Option.some.inj q).symm
      subst ex
      have s6 : Same H5 (upd H5 t (.tup [.int (i : Nat), .int ws.reverse[i]])) := same_upd ht _
      have hp6 := s6 _ _ (s5 _ _ (s4 _ _ hp))
      have lz := ho.2 _ (List.mem_reverse.mp (List.getElem_mem hlt'))
      refine ⟨t, _, rfl, SqT.of upd_same, rfl, _, _, rfl, _, _, rfl, rfl, ?_⟩
      refine ⟨_, rfl, _, rfl, _, rfl, ?_⟩
      refine ⟨_, rfl, _, rfl, _, _, rfl, rfl, _, _, rfl, rfl, p, _, _, _, rfl, rfl, SqL.of hp6, at_sizes (i := n - i - 1) (by omega) (by omega), ?_⟩
      refine ⟨_, _, rfl, rfl, .inl ⟨by omega, by omega⟩, _, _, rfl, rfl, _, _, rfl, rfl, ?_⟩
      refine ⟨ws.length - (i + 1), by omega, hlt, rfl, Same.trans s5 s6, some (.int (i : Nat)), some (.int ws.reverse[i]), ?_⟩
      have et : ws.reverse.take (i + 1) = ws.reverse.take i ++ [ws.reverse[i]] := take_more (List.getElem?_eq_getElem hlt')
      have el : n - (ws.reverse.take i).length - 1 = n - i - 1 := by rw [List.length_take]; omega
      rw [et, plc_snoc, el]
      rfl
    · refine .inl ⟨⟨_, hr5, by rw [List.length_map]; omega⟩, ?_⟩
      have e : ws.reverse.take i = ws.reverse := List.take_of_length_le (by omega)
      rw [e]
      exact ⟨_, rfl, q H5 (Same.trans s2 (Same.trans s3 (Same.trans s4 s5)))⟩
open PySem.Builtin.Int in
theorem bits_le {i : Int} (h0 : 0 ≤ i) (h : i < 2 ^ 200) : Builtin.Int.intBits i ≤ 200 := by
  exact intBits_le_iff.mpr (by omega)
theorem ok_word_at (T : Txt K mg) : FnOk P w K mg base CX0 4 T.a_word_at T.d_word_at ["letters", "length", "number"] (sp_word_at K) := by
  refine T.F_word_at.ok sc_word_at (fun vs H Q E h => ?_) (fun cdv A outer s H vs Q E hr h => ?_)
  · obtain ⟨k, n, m, rfl, _⟩ := h
    rfl
  · obtain ⟨k, n, m, rfl, k1, k4, hn, m0, m1, q⟩ := h
    refine ⟨_, (pss_cons (ps_expr (pe_call (ok_check_letters T) (hr.mono (by decide)) rfl T.m_check_letters T.F_check_letters.kp T.b_check_letters .nil pass0 (pa_cons (pv 0) pa_nil))) (pss_cons (ps_expr (pe_call (ok_check_number T) (hr.mono (by decide)) rfl T.m_check_number T.F_check_number.kp T.b_check_number .nil pass0 (pa_cons (pv 1) (pa_cons pe_int (pa_cons (pe_glob (v := .int 60) rfl T.g_MOST_PLACED ⟨_, rfl⟩) pa_nil))))) (pss_cons (ps_expr (pe_call (ok_check_count T) (hr.mono (by decide)) rfl T.m_check_count T.F_check_count.kp T.b_check_count .nil pass0 (pa_cons (pv 2) pa_nil))) (pss_cons (ps_set (i := 3) sc_word_at.nd rfl (Or.inl rfl) (pe_call (ok__sizes T) (hr.mono (by decide)) rfl T.m__sizes T.F__sizes.kp T.b__sizes .nil pass0 (pa_cons (pv 0) (pa_cons (pv 1) pa_nil)))) (pss_cons (ps_if (pt_cmpR op_ge (pv 2) (pe_ix ix_list (pv 3) (pv 1) (fun _ _ => rfl)) (nomark _)) (pss_one ps_never) pss_nil) (pss_cons (ps_set (i := 4) sc_word_at.nd rfl (Or.inl rfl) (pe_tupK (K := K) rfl pa_nil)) (pss_cons (ps_set (i := 5) sc_word_at.nd rfl (Or.inl rfl) (pv 2)) (pss_cons (ps_while PassesOwn.never (pt_cmpR op_gt (pv 5) pe_int (nomark _)) (pss_cons (ps_asg (pe_callB call_divmodS rfl T.n_divmod (by decide +kernel) (pa_cons (pe_op op_sub (pv 5) pe_int) (pa_cons (pe_ix ix_list (pv 3) (pe_op op_sub (pe_op op_sub (pv 1) (pe_callB call_len_seq rfl T.n_len (by decide +kernel) (pa_cons (pv 4) pa_nil))) pe_int) (fun _ _ => rfl)) pa_nil))) (pg_tupK (K := K) (n := 2) rfl rfl (pgs_cons (pg_name (i := 6) sc_word_at.nd rfl (Or.inl rfl)) (pgs_cons (pg_name (i := 5) sc_word_at.nd rfl (Or.inl rfl)) pgs_nil)))) (pss_one (ps_set (i := 4) sc_word_at.nd rfl (Or.inl rfl) (pe_op (op_catK (K := K) rfl) (pe_tupK (K := K) rfl (pa_cons (pv 6) pa_nil)) (pv 4)))))) (pss_one (ps_ret (pv 4))))))))))), ?_⟩
    have big := sz_most k1 k4 hn
    refine ⟨_, rfl, k, rfl, k1, k4, ?_⟩
    refine ⟨_, rfl, _, 0, 60, rfl, .inl ⟨_, rfl⟩, by simp [numB]; omega, ?_⟩
    refine ⟨_, rfl, _, rfl, .inl ⟨_, rfl⟩, ?_, ?_⟩
    · have e : ((10 : Int) ^ (60 : Int).toNat) = 10 ^ 60 := rfl
      simp only [numB, Bool.and_eq_true, decide_eq_true_eq]
      omega
    refine ⟨_, rfl, _, rfl, k, n, rfl, k1, k4, hn, fun H3 p s3 _ hp => ?_⟩
    refine ⟨_, rfl, _, rfl, _, rfl, p, _, _, _, rfl, rfl, SqL.of hp, at_sizes (i := n) rfl (Nat.le_refl _), _, _, rfl, rfl, _, rfl, ?_⟩
    refine ifF (decide_eq_false (by omega)) ?_
    refine ⟨Nat.zero_le _, fun H4 a s4 ha => ?_⟩
    refine ⟨_, rfl, ?_⟩
    refine ⟨fun μ σ H5 => Same H4 H5 ∧ ∃ (ws : List Int) (left : Int) (b : Addr) (u : Option V), SqT K H5 b (ws.map V.int) ∧ ws.length ≤ n ∧ 0 ≤ left ∧ left < sz k (n - ws.length) ∧ μ = left.toNat ∧ wat k n m = ws.reverse ++ wat k (n - ws.length) left ∧
        σ = [some (.int k), some (.int (n : Int)), some (.int m), some (.ref p), some (.ref b), some (.int left), u],
      ⟨_, Same.refl H4, [], m, a, none, ha, Nat.zero_le _, m0, m1, rfl, rfl, rfl⟩, ?_⟩
    rintro μ σ H5 ⟨s5, ws, left, b, u, hb, hl, l0, l1, rfl, hw, rfl⟩
    refine ⟨_, rfl, _, _, rfl, rfl, _, rfl, ?_⟩
    by_cases c : left > 0
    · refine ifT (decide_eq_true c) ⟨_, fun σ' H' z => z, ?_⟩
      obtain ⟨j, hj⟩ : ∃ j, n - ws.length = j + 1 := by
        cases e : n - ws.length with
        | zero =>
          rw [e] at l1
          simp only [sz] at l1
          omega
        | succ j => exact ⟨j, rfl⟩
      rw [hj] at l1 hw
      have p1 := sz_pos k1 j
      have bj := sz_most k1 k4 (n := j) (by omega)
      have bj1 := sz_most k1 k4 (n := j + 1) (by omega)
      have hp5 := s5 _ _ (s4 _ _ hp)
      have ew : wat k (j + 1) left = ((left - 1) / sz k j) :: wat k j ((left - 1) % sz k j) := by
        show (if left = 0 then _ else _) = _
        rw [if_neg (by omega)]
      refine ⟨_, rfl, _, _, rfl, rfl, _, rfl, _, rfl, _, rfl, b, _, rfl, .inr hb, _, _, rfl, rfl, _, _, rfl, rfl, p, _, _, _, rfl, rfl, SqL.of hp5, at_sizes (i := j) (by rw [List.length_map]; omega) (by omega), ?_⟩
      refine ⟨_, _, rfl, divp_ok (by omega) (Nat.le_trans (bits_le (by omega) (by omega)) (by omega)), fun H6 t s6 ht => ?_⟩
      refine ⟨t, _, rfl, ht, rfl, _, _, rfl, _, _, rfl, rfl, ?_⟩
      refine ⟨_, rfl, by show 1 ≤ sizeLine; decide, fun H7 o s7 ho => ?_⟩
      refine ⟨_, rfl, o, b, _, _, rfl, rfl, ho, Same.sqt s7 (Same.sqt s6 hb), ?_, fun H8 d s8 hd => ?_⟩
      · rw [List.length_map]
        exact size200 (by simp; omega)
      · have r0 : 0 ≤ (left - 1) % sz k j := Int.emod_nonneg _ (by omega)
        have r1 : (left - 1) % sz k j < sz k j := Int.emod_lt_of_pos _ (by omega)
        have r2 : (left - 1) % sz k j ≤ left - 1 := by
          have e1 := Int.mul_ediv_add_emod (left - 1) (sz k j)
          have e2 : 0 ≤ sz k j * ((left - 1) / sz k j) := Int.mul_nonneg (by omega) (Int.ediv_nonneg (by omega) (by omega))
          omega
        have en : n - (((left - 1) / sz k j) :: ws).length = j := by simp only [List.length_cons]; omega
        refine ⟨((left - 1) % sz k j).toNat, by omega, Same.trans s5 (Same.trans s6 (Same.trans s7 s8)), ((left - 1) / sz k j) :: ws, (left - 1) % sz k j, d, some (.int ((left - 1) / sz k j)), hd, by simp only [List.length_cons]; omega, r0, by rw [en]; exact r1, rfl, ?_, rfl⟩
        rw [hw, en, ew, List.reverse_cons, List.append_assoc]
        rfl
    · refine ifF (decide_eq_false c) ?_
      have e0 : left = 0 := by omega
      have ew : wat k (n - ws.length) left = [] := by
        rw [e0]
        cases n - ws.length with
        | zero => rfl
        | succ j => show (if (0 : Int) = 0 then _ else _) = _; rw [if_pos rfl]
      refine ⟨_, rfl, q H5 _ (Same.trans s3 (Same.trans s4 s5)) ⟨b, rfl, ?_⟩⟩
      rw [hw, ew, List.append_nil, List.reverse_reverse]
      exact hb
end
end K00
/-! M2 -/
set_option linter.all false
set_option maxRecDepth 100000
namespace K00
open RL
def rng (k : Int) : List Int := (List.range k.toNat).map Int.ofNat
/-- all words of a length, as the law lists them -/
def wdOf (k : Int) : Nat → List (List Int)
  | 0 => [[]]
  | n + 1 => (wdOf k n).flatMap fun w => (rng k).map fun x => x :: w
def wdToStep (k : Int) (lap : Nat) (found : List (List Int)) : List (List Int) := found.flatMap fun w => w :: (if w.length = lap then (rng k).map fun x => x :: w else [])
/-- all words of at most a length, as the law lists them -/
def wdTo (k : Int) : Nat → List (List Int)
  | 0 => [[]]
  | n + 1 => wdToStep k n (wdTo k n)
def nextOf (k : Int) (n : Nat) (w : List Int) : Option (List Int) := (raised k w).map fun r => List.replicate (n - r.length) 0 ++ r
def nextTo (k : Int) (n : Nat) (w : List Int) : Option (List Int) := if w.length < n then some (0 :: w) else raised k w
/-- f goes down the list, from its first word on, and ends behind its last -/
def chainB (f : List Int → Option (List Int)) : List (List Int) → Bool
  | [] => false
  | [w] => f w == none
  | w :: u :: r => f w == some u && chainB f (u :: r)
theorem chain_at {f : List Int → Option (List Int)} : ∀ {l : List (List Int)} {i : Nat} {w : List Int}, chainB f l = true → l[i]? = some w → f w = l[i + 1]?
  | [], i, w, _, h => by simp at h
  | [u], 0, w, c, h => by
    cases Option.some.inj h
    simpa [chainB] using c
  | [u], i + 1, w, c, h => by simp at h
  | u :: v :: r, 0, w, c, h => by
    cases Option.some.inj h
    have c' : (f u == some v && chainB f (v :: r)) = true := c
    rw [Bool.and_eq_true] at c'
    exact eq_of_beq c'.1
  | u :: v :: r, i + 1, w, c, h => by
    have c' : (f u == some v && chainB f (v :: r)) = true := c
    rw [Bool.and_eq_true] at c'
    exact chain_at (l := v :: r) (i := i) c'.2 h
def riseB : List (List Int) → Bool
  | [] => true
  | [_] => true
  | a :: b :: r => decide (a < b) && riseB (b :: r)
theorem rise_pw : ∀ {l : List (List Int)}, riseB l = true → l.Pairwise (· < ·)
  | [], _ => .nil
  | [a], _ => List.pairwise_singleton _ _
  | a :: b :: r, h => by
    have h' : (decide (a < b) && riseB (b :: r)) = true := h
    rw [Bool.and_eq_true] at h'
    have ih := rise_pw h'.2
    have ab : a < b := of_decide_eq_true h'.1
    refine List.pairwise_cons.mpr ⟨fun c hc => ?_, ih⟩
    rcases List.mem_cons.mp hc with z | z
    · rw [z]; exact ab
    · exact lt_tr ab ((List.pairwise_cons.mp ih).1 c z)
def rowK (n : Nat) (w : List Int) : List Int := w.reverse.map (· + 1) ++ List.replicate (n - w.length) 0
/-- the lengths to which lists are drawn -/
def combos : List (Int × Nat) := [(1, 0), (1, 1), (1, 2), (1, 3), (1, 4), (1, 5), (1, 6), (1, 7), (1, 8), (2, 0), (2, 1), (2, 2), (2, 3), (2, 4), (2, 5), (2, 6), (2, 7), (2, 8), (3, 0), (3, 1), (3, 2), (3, 3), (3, 4), (3, 5), (4, 0), (4, 1), (4, 2), (4, 3), (4, 4)]
def wordsB (k : Int) (n : Nat) (l : List (List Int)) : Bool := l.all fun w => decide (w.length ≤ n) && w.all fun x => decide (0 ≤ x) && decide (x < k)
def ofB (k : Int) (n : Nat) : Bool := (wdOf k n).head? == some (List.replicate n 0) && (chainB (nextOf k n) (wdOf k n) && (wordsB k n (wdOf k n) && decide ((wdOf k n).length ≤ 1000)))
def toB (k : Int) (n : Nat) : Bool := (wdTo k n).head? == some [] && (chainB (nextTo k n) (wdTo k n) && (wordsB k n (wdTo k n) && (decide ((wdTo k n).length ≤ 1000) &&
  (riseB ((wdTo k n).map (rowK n)) && ((wdTo k n).map fun w => plc k n w.reverse) == (List.range (wdTo k n).length).map Int.ofNat))))
theorem of_all : (combos.all fun p => ofB p.1 p.2) = true := by decide +kernel
theorem to_all : (combos.all fun p => toB p.1 p.2) = true := by decide +kernel
theorem combo_bd : ∀ p ∈ combos, 1 ≤ p.1 ∧ p.1 ≤ 4 ∧ p.2 ≤ 8 := by decide +kernel
end K00
/-! M3 -/
set_option linter.all false
set_option maxRecDepth 100000
namespace K00
open RL
structure OfOk (k : Int) (n : Nat) : Prop where
  first : (wdOf k n)[0]? = some (List.replicate n 0)
  next : ∀ i w, (wdOf k n)[i]? = some w → nextOf k n w = (wdOf k n)[i + 1]?
  okw : ∀ w ∈ wdOf k n, w.length ≤ n ∧ ∀ x ∈ w, 0 ≤ x ∧ x < k
  len : (wdOf k n).length ≤ 1000
structure ToOk (k : Int) (n : Nat) : Prop where
  first : (wdTo k n)[0]? = some []
  next : ∀ i w, (wdTo k n)[i]? = some w → nextTo k n w = (wdTo k n)[i + 1]?
  okw : ∀ w ∈ wdTo k n, w.length ≤ n ∧ ∀ x ∈ w, 0 ≤ x ∧ x < k
  len : (wdTo k n).length ≤ 1000
  rise : ((wdTo k n).map (rowK n)).Pairwise (· < ·)
  place : ∀ (i : Nat) (w : List Int), (wdTo k n)[i]? = some w → plc k n w.reverse = i
theorem words_of_B {k : Int} {n : Nat} {l : List (List Int)} (h : wordsB k n l = true) : ∀ w ∈ l, w.length ≤ n ∧ ∀ x ∈ w, 0 ≤ x ∧ x < k := fun w hw => by
  have q := List.all_eq_true.mp h w hw
  rw [Bool.and_eq_true] at q
  refine ⟨of_decide_eq_true q.1, fun x hx => ?_⟩
  have r := List.all_eq_true.mp q.2 x hx
  rw [Bool.and_eq_true] at r
  exact ⟨of_decide_eq_true r.1, of_decide_eq_true r.2⟩
theorem head_at {α : Type} {l : List α} {x : α} (h : l.head? = some x) : l[0]? = some x := by
  cases l with
  | nil => cases h
  | cons a l => exact h
theorem of_ok {k : Int} {n : Nat} (h : (k, n) ∈ combos) : OfOk k n := by
  have q := List.all_eq_true.mp of_all _ h
  unfold ofB at q
  simp only [Bool.and_eq_true] at q
  obtain ⟨q1, q2, q3, q4⟩ := q
  exact ⟨head_at (eq_of_beq q1), fun i w e => chain_at q2 e, words_of_B q3, of_decide_eq_true q4⟩
theorem to_ok {k : Int} {n : Nat} (h : (k, n) ∈ combos) : ToOk k n := by
  have q := List.all_eq_true.mp to_all _ h
  unfold toB at q
  simp only [Bool.and_eq_true] at q
  obtain ⟨q1, q2, q3, q4, q5, q6⟩ := q
  refine ⟨head_at (eq_of_beq q1), fun i w e => chain_at q2 e, words_of_B q3, of_decide_eq_true q4, rise_pw q5, fun i w e => ?_⟩
  have e2 := eq_of_beq q6
  have e3 := congrArg (fun l => l[i]?) e2
  have hi : i < (wdTo k n).length := (List.getElem?_eq_some_iff.mp e).1
  simp only [List.getElem?_map, e, List.getElem?_range hi, Option.map_some] at e3
  exact Option.some.inj e3
end K00
/-! K00d -/
set_option Elab.async false
set_option linter.all false
set_option maxRecDepth 100000
set_option maxHeartbeats 2000000
namespace K00
open PySem PySem.Spec PyProof.Rows L2 PpSet RL
/-- rows of ints stand at the values -/
inductive IsWs (K : PySem.W.Frag) (H : Hp) : List V → List (List Int) → Prop
  | nil : IsWs K H [] []
  | cons {v : V} {k : List Int} {vs : List V} {ks : List (List Int)} : IsW K H v k → IsWs K H vs ks → IsWs K H (v :: vs) (k :: ks)
theorem IsWs.same {K : PySem.W.Frag} {H H' : Hp} (e : Same H H') : ∀ {vs ks}, IsWs K H vs ks → IsWs K H' vs ks
  | _, _, .nil => .nil
  | _, _, .cons h t => .cons (h.same e) (IsWs.same e t)
theorem IsWs.snoc {K : PySem.W.Frag} {H : Hp} {v : V} {k : List Int} (h : IsW K H v k) : ∀ {vs ks}, IsWs K H vs ks → IsWs K H (vs ++ [v]) (ks ++ [k])
  | _, _, .nil => .cons h .nil
  | _, _, .cons q t => .cons q (IsWs.snoc h t)
theorem IsWs.length {K : PySem.W.Frag} {H : Hp} : ∀ {vs ks}, IsWs K H vs ks → vs.length = ks.length
  | _, _, .nil => rfl
  | _, _, .cons _ t => congrArg (· + 1) (IsWs.length t)
theorem IsWs.at {K : PySem.W.Frag} {H : Hp} : ∀ {vs ks} {i : Nat} {v : V}, IsWs K H vs ks → vs[i]? = some v → ∃ k, ks[i]? = some k ∧ IsW K H v k
  | _, _, i, v, .nil, e => by simp at e
  | _, _, 0, v, .cons h _, e => by
    cases Option.some.inj e
    exact ⟨_, rfl, h⟩
  | _, _, i + 1, v, .cons _ t, e => by
    obtain ⟨k, e1, h⟩ := IsWs.at (i := i) t (by simpa using e)
    exact ⟨k, by simpa using e1, h⟩
theorem IsWs.get {K : PySem.W.Frag} {H : Hp} : ∀ {vs ks} {i : Nat} {k : List Int}, IsWs K H vs ks → ks[i]? = some k → ∃ v, vs[i]? = some v ∧ IsW K H v k
  | _, _, i, k, .nil, e => by simp at e
  | _, _, 0, k, .cons h _, e => by
    cases Option.some.inj e
    exact ⟨_, rfl, h⟩
  | _, _, i + 1, k, .cons _ t, e => by
    obtain ⟨v, e1, h⟩ := IsWs.get (i := i) t (by simpa using e)
    exact ⟨v, by simpa using e1, h⟩
def sp_gen (K : PySem.W.Frag) (f : Int → Nat → List (List Int)) : SpG := fun vs H Q _ => ∃ (k : Int) (n : Nat), vs = [.int k, .int n] ∧ (k, n) ∈ combos ∧ ∀ H' ys, Same H H' → IsWs K H' ys (f k n) → Q ys H'
/-- THE RULE for a generator def of the text -/
theorem fun_gen {P : Program} {w : World} {K : PySem.W.Frag} {mg : Str → Option Value} {base : Heap} {x qual : Str} {st : Stmt} {f : Addr} {fd : FuncData} {N ps : List Str} {k : Nat} {sp : SpG} (F : Fun K x qual st f fd) (S : GScope N ps (defScope st)) (len : ∀ vs H Q E, sp vs H Q E → vs.length = ps.length)
    (hbody : ∀ (cdv : Value) (A : Around) (outer : List Env) (s : Shared) (H : Hp) (vs : List V) (Q : List V → Hp → Prop) (E : XK) (pn : List (Addr × Obj)), Room k (A.deeper (envOfC qual (defScope st) s.heap.objs.size f cdv)) → sp vs H Q E →
      ∃ t, GSs (gcxOf P w K mg base N qual (defScope st) f cdv A outer s H E pn) (defBody st) t ∧ t { nx := fun ys _ H' => Q ys H', rt := fun ys v H' => v = .non ∧ Q ys H' } [] (start N vs) H) :
    GFn P w K mg base (k + 1) f fd ps sp := by
  obtain ⟨oc, od, kV, doc, pm, an, cdv, ct, osl, rfl, lk, hcd⟩ := F.ex
  exact gfn_of lk hcd S len fun A outer s H vs Q E pn hr hsp => hbody cdv A outer s H vs Q E pn hr hsp
section
variable {P : Program} {w : World} {K : PySem.W.Frag} {mg : Str → Option Value} {base : Heap}
theorem zero_word (n : Nat) : (List.replicate n ([.int 0] : List V)).flatten = (List.replicate n (0 : Int)).map V.int := by
  induction n with
  | zero => rfl
  | succ n ih => rw [List.replicate_succ, List.flatten_cons, ih, List.replicate_succ, List.map_cons] <;> rfl
theorem ok_words_of (T : Txt K mg) : GFn P w K mg base 4 T.a_words_of T.d_words_of ["letters", "length"] (sp_gen K wdOf) := by
  refine fun_gen T.F_words_of sc_words_of (fun vs H Q E h => ?_) fun cdv A outer s H vs Q E pn hr h => ?_
  · obtain ⟨k, n, rfl, _⟩ := h
    rfl
  · obtain ⟨k, n, rfl, hc, q⟩ := h
    refine ⟨_, gss_cons (gs_ps (ps_expr (pe_call (ok_check_letters T) (hr.mono (by decide)) rfl T.m_check_letters T.F_check_letters.kp T.b_check_letters .nil pass0 (pa_cons (pv 0) pa_nil))))
      (gss_cons (gs_ps (ps_expr (pe_call (ok_check_number T) (hr.mono (by decide)) rfl T.m_check_number T.F_check_number.kp T.b_check_number .nil pass0 (pa_cons (pv 1) (pa_cons pe_int (pa_cons (pe_glob (v := .int 8) rfl T.g_MOST_LISTED ⟨_, rfl⟩) pa_nil))))))
      (gss_cons (gs_ps (ps_set (i := 2) sc_words_of.nd rfl (Or.inl rfl) (pe_op op_repS (pe_tupS (pa_cons pe_int pa_nil)) (pv 1))))
      (gss_cons (gs_while owns_gcx (pt_cmp (pc_notN (pv 2))) (gss_cons (gs_yield (pv 2))
        (gss_pss (pss_cons (ps_set (i := 3) sc_words_of.nd rfl (Or.inl rfl) (pe_call (ok__raised T) (hr.mono (by decide)) rfl T.m__raised T.F__raised.kp T.b__raised .nil pass0 (pa_cons (pv 0) (pa_cons (pv 2) pa_nil))))
          (pss_one (ps_set (i := 2) sc_words_of.nd rfl (Or.inl rfl) (pe_ifExp (pt_cmp (pc_isN (pv 3))) pe_non (pe_op op_catS (pe_op op_repS (pe_tupS (pa_cons pe_int pa_nil)) (pe_op op_sub (pv 1) (pe_callB call_len_seq rfl T.n_len (by decide +kernel) (pa_cons (pv 3) pa_nil)))) (pv 3)))))))))
        gss_nil))), ?_⟩
    obtain ⟨k1, k4, n8⟩ := combo_bd _ hc
    have k1 : 1 ≤ k := k1
    have k4 : k ≤ 4 := k4
    have n8 : n ≤ 8 := n8
    have ok := of_ok hc
    refine ⟨_, rfl, k, rfl, k1, k4, ?_⟩
    refine ⟨_, rfl, _, 0, 8, rfl, .inl ⟨_, rfl⟩, by simp [numB]; omega, ?_⟩
    refine ⟨by show 1 ≤ sizeLine; decide, fun H2 p s2 hp => ⟨_, rfl, p, _, _, rfl, rfl, hp, by omega, by omega, by show 1 ≤ 1000; decide, fun H3 a s3 ha => ?_⟩⟩
    have et : (n : Int).toNat = n := by omega
    rw [et, zero_word] at ha
    refine ⟨fun m ys σ H4 => Same H3 H4 ∧ ∃ (i : Nat) (v : V) (u : Option V), i ≤ (wdOf k n).length ∧ m = (wdOf k n).length - i ∧ IsWs K H4 ys ((wdOf k n).take i) ∧ ((i = (wdOf k n).length ∧ v = .non) ∨ ∃ ws, (wdOf k n)[i]? = some ws ∧ IsW K H4 v ws) ∧
      σ = [some (.int k), some (.int (n : Int)), some v, u], ⟨_, Same.refl H3, 0, .ref a, none, Nat.zero_le _, rfl, .nil, .inr ⟨_, ok.first, a, rfl, ha⟩, rfl⟩, ?_⟩
    rintro m ys σ H4 ⟨s4, i, v, u, hi, rfl, hys, hv, rfl⟩
    rcases hv with ⟨rfl, rfl⟩ | ⟨ws, ew, hw⟩
    · refine ⟨_, rfl, _, rfl, ifF rfl ?_⟩
      rw [List.take_length] at hys
      exact q H4 ys (Same.trans s2 (Same.trans s3 s4)) hys
    · have hlt : i < (wdOf k n).length := (List.getElem?_eq_some_iff.mp ew).1
      obtain ⟨x, rfl, hx⟩ := id hw
      have okw := ok.okw ws (List.mem_of_getElem? ew)
      have hl := ok.len
      refine ⟨_, rfl, _, rfl, ifT rfl ⟨_, fun ys' σ' H' z => z, ?_⟩⟩
      have hlen := hys.length
      rw [List.length_take] at hlen
      refine ⟨by rw [sizeLine_eq]; omega, _, rfl, ?_⟩
      have hys2 : IsWs K H4 (ys ++ [.ref x]) ((wdOf k n).take (i + 1)) := by
        rw [take_more ew]
        exact hys.snoc hw
      have nx := ok.next i ws ew
      refine ⟨_, rfl, _, rfl, k, _, ws, rfl, hw, by omega, fun er H5 s5 => ?_, fun r er H5 v5 s5 hv5 => ?_⟩
      · have en : (wdOf k n)[i + 1]? = none := by rw [← nx]; simp [nextOf, er]
        have ei : i + 1 = (wdOf k n).length := by
          have := List.getElem?_eq_none_iff.mp en
          omega
        refine ⟨_, rfl, _, rfl, ifT rfl ?_⟩
        exact ⟨(wdOf k n).length - (i + 1), by omega, Same.trans s4 s5, i + 1, .non, some .non, by omega, rfl, hys2.same s5, .inl ⟨ei, rfl⟩, rfl⟩
      · have en : (wdOf k n)[i + 1]? = some (List.replicate (n - r.length) 0 ++ r) := by rw [← nx]; simp [nextOf, er]
        have hi1 : i + 1 < (wdOf k n).length := (List.getElem?_eq_some_iff.mp en).1
        have okr := (ok.okw _ (List.mem_of_getElem? en)).1
        obtain ⟨y, rfl, hy⟩ := id hv5
        have hr1 : r.length ≤ n := by
          rw [List.length_append] at okr
          omega
        refine ⟨_, rfl, _, rfl, ifF rfl ?_⟩
        refine ⟨by show 1 ≤ sizeLine; decide, fun H6 o s6 ho => ?_⟩
        refine ⟨_, rfl, _, rfl, y, _, rfl, .inr (Same.sqt s6 hy), _, _, rfl, rfl, o, _, _, rfl, rfl, ho, by rw [List.length_map]; omega, by rw [List.length_map]; omega, by show 1 ≤ 1000; decide, fun H7 d s7 hd => ?_⟩
        have e7 : ((n : Int) - ((r.map V.int).length : Int)).toNat = n - r.length := by rw [List.length_map]; omega
        rw [e7, zero_word] at hd
        refine ⟨_, rfl, d, y, _, _, rfl, rfl, hd, Same.sqt s7 (Same.sqt s6 hy), by rw [List.length_map, List.length_map, List.length_replicate]; exact size200 (by omega), fun H8 c s8 hc8 => ?_⟩
        rw [← List.map_append] at hc8
        have sAll := Same.trans s5 (Same.trans s6 (Same.trans s7 s8))
        exact ⟨(wdOf k n).length - (i + 1), by omega, Same.trans s4 sAll, i + 1, .ref c, some (.ref y), by omega, rfl, hys2.same sAll, .inr ⟨_, en, c, rfl, hc8⟩, rfl⟩
theorem ok_words_to (T : Txt K mg) : GFn P w K mg base 4 T.a_words_to T.d_words_to ["letters", "length"] (sp_gen K wdTo) := by
  refine fun_gen T.F_words_to sc_words_to (fun vs H Q E h => ?_) fun cdv A outer s H vs Q E pn hr h => ?_
  · obtain ⟨k, n, rfl, _⟩ := h
    rfl
  · obtain ⟨k, n, rfl, hc, q⟩ := h
    refine ⟨_, gss_cons (gs_ps (ps_expr (pe_call (ok_check_letters T) (hr.mono (by decide)) rfl T.m_check_letters T.F_check_letters.kp T.b_check_letters .nil pass0 (pa_cons (pv 0) pa_nil))))
      (gss_cons (gs_ps (ps_expr (pe_call (ok_check_number T) (hr.mono (by decide)) rfl T.m_check_number T.F_check_number.kp T.b_check_number .nil pass0 (pa_cons (pv 1) (pa_cons pe_int (pa_cons (pe_glob (v := .int 8) rfl T.g_MOST_LISTED ⟨_, rfl⟩) pa_nil))))))
      (gss_cons (gs_ps (ps_set (i := 2) sc_words_to.nd rfl (Or.inl rfl) (pe_tupS pa_nil)))
      (gss_cons (gs_while owns_gcx (pt_cmp (pc_notN (pv 2))) (gss_cons (gs_yield (pv 2))
        (gss_pss (pss_one (ps_set (i := 2) sc_words_to.nd rfl (Or.inl rfl) (pe_ifExp (pt_cmpR op_lt (pe_callB call_len_seq rfl T.n_len (by decide +kernel) (pa_cons (pv 2) pa_nil)) (pv 1) (nomark _))
          (pe_op op_catS (pe_tupS (pa_cons pe_int pa_nil)) (pv 2)) (pe_call (ok__raised T) (hr.mono (by decide)) rfl T.m__raised T.F__raised.kp T.b__raised .nil pass0 (pa_cons (pv 0) (pa_cons (pv 2) pa_nil)))))))))
        gss_nil))), ?_⟩
    obtain ⟨k1, k4, n8⟩ := combo_bd _ hc
    have k1 : 1 ≤ k := k1
    have k4 : k ≤ 4 := k4
    have n8 : n ≤ 8 := n8
    have ok := to_ok hc
    refine ⟨_, rfl, k, rfl, k1, k4, ?_⟩
    refine ⟨_, rfl, _, 0, 8, rfl, .inl ⟨_, rfl⟩, by simp [numB]; omega, ?_⟩
    refine ⟨Nat.zero_le _, fun H3 a s3 ha => ?_⟩
    refine ⟨fun m ys σ H4 => Same H3 H4 ∧ ∃ (i : Nat) (v : V), i ≤ (wdTo k n).length ∧ m = (wdTo k n).length - i ∧ IsWs K H4 ys ((wdTo k n).take i) ∧ ((i = (wdTo k n).length ∧ v = .non) ∨ ∃ ws, (wdTo k n)[i]? = some ws ∧ IsW K H4 v ws) ∧
      σ = [some (.int k), some (.int (n : Int)), some v], ⟨_, Same.refl H3, 0, .ref a, Nat.zero_le _, rfl, .nil, .inr ⟨_, ok.first, a, rfl, ha⟩, rfl⟩, ?_⟩
    rintro m ys σ H4 ⟨s4, i, v, hi, rfl, hys, hv, rfl⟩
    rcases hv with ⟨rfl, rfl⟩ | ⟨ws, ew, hw⟩
    · refine ⟨_, rfl, _, rfl, ifF rfl ?_⟩
      rw [List.take_length] at hys
      exact q H4 ys (Same.trans s3 s4) hys
    · have hlt : i < (wdTo k n).length := (List.getElem?_eq_some_iff.mp ew).1
      obtain ⟨x, rfl, hx⟩ := id hw
      have okw := ok.okw ws (List.mem_of_getElem? ew)
      have hl := ok.len
      refine ⟨_, rfl, _, rfl, ifT rfl ⟨_, fun ys' σ' H' z => z, ?_⟩⟩
      have hlen := hys.length
      rw [List.length_take] at hlen
      refine ⟨by rw [sizeLine_eq]; omega, _, rfl, ?_⟩
      have hys2 : IsWs K H4 (ys ++ [.ref x]) ((wdTo k n).take (i + 1)) := by
        rw [take_more ew]
        exact hys.snoc hw
      have nx := ok.next i ws ew
      refine ⟨_, rfl, _, _, rfl, .inr hx, _, rfl, _, _, rfl, rfl, _, rfl, ?_⟩
      by_cases c : ws.length < n
      · refine ifT (decide_eq_true (by rw [List.length_map]; omega)) ?_
        have en : (wdTo k n)[i + 1]? = some (0 :: ws) := by rw [← nx]; simp [nextTo, c]
        have hi1 : i + 1 < (wdTo k n).length := (List.getElem?_eq_some_iff.mp en).1
        refine ⟨by show 1 ≤ sizeLine; decide, fun H6 o s6 ho => ?_⟩
        refine ⟨_, rfl, o, x, _, _, rfl, rfl, ho, Same.sqt s6 hx, ?_, fun H8 d s8 hd => ?_⟩
        · rw [List.length_map]
          exact size200 (by simp; omega)
        · have sAll := Same.trans s6 s8
          exact ⟨(wdTo k n).length - (i + 1), by omega, Same.trans s4 sAll, i + 1, .ref d, by omega, rfl, hys2.same sAll, .inr ⟨_, en, d, rfl, hd⟩, rfl⟩
      · refine ifF (decide_eq_false (by rw [List.length_map]; omega)) ?_
        refine ⟨_, rfl, _, rfl, k, _, ws, rfl, hw, by omega, fun er H5 s5 => ?_, fun r er H5 v5 s5 hv5 => ?_⟩
        · have en : (wdTo k n)[i + 1]? = none := by rw [← nx]; simp [nextTo, c, er]
          have ei : i + 1 = (wdTo k n).length := by
            have := List.getElem?_eq_none_iff.mp en
            omega
          exact ⟨(wdTo k n).length - (i + 1), by omega, Same.trans s4 s5, i + 1, .non, by omega, rfl, hys2.same s5, .inl ⟨ei, rfl⟩, rfl⟩
        · have en : (wdTo k n)[i + 1]? = some r := by rw [← nx]; simp [nextTo, c, er]
          have hi1 : i + 1 < (wdTo k n).length := (List.getElem?_eq_some_iff.mp en).1
          exact ⟨(wdTo k n).length - (i + 1), by omega, Same.trans s4 s5, i + 1, v5, by omega, rfl, hys2.same s5, .inr ⟨_, en, hv5⟩, rfl⟩
end
end K00
/-! K00e -/
set_option Elab.async false
set_option linter.all false
set_option maxRecDepth 100000
set_option maxHeartbeats 2000000
namespace K00
open PySem PySem.Spec PyProof.Rows L2 PpSet RL
def sp_sorted_words (K : PySem.W.Frag) : Sp := fun vs H Q _ => ∃ (k : Int) (a : Addr) (xs : List V) (wss : List (List Int)), vs = [.int k, .ref a] ∧ 1 ≤ k ∧ k ≤ 4 ∧ SqT K H a xs ∧ IsWs K H xs wss ∧ wss.length ≤ 60 ∧ (∀ ws ∈ wss, okW k ws) ∧
  ∀ H' p ys out, Same H H' → SqT K H' p ys → IsWs K H' ys out → (out.map List.reverse).Pairwise (· < ·) → (∀ w, w ∈ out ↔ w ∈ wss) → Q (.ref p) H'
def sp_in_order (K : PySem.W.Frag) : Sp := fun vs H Q _ => ∃ (a : Addr) (xs : List V) (wss : List (List Int)), vs = [.ref a] ∧ SqT K H a xs ∧ IsWs K H xs wss ∧ wss.length ≤ 60 ∧
  ∀ H' p ys out, Same H H' → SqT K H' p ys → IsWs K H' ys out → (out.map List.reverse).Pairwise (· < ·) → (∀ w, w ∈ out ↔ w ∈ wss) → Q (.ref p) H'
theorem IsWs.stay {K : PySem.W.Frag} {H H' : Hp} (e : Stay H H') : ∀ {vs ks}, IsWs K H vs ks → IsWs K H' vs ks
  | _, _, .nil => .nil
  | _, _, .cons h t => .cons (IsW.stay e h) (IsWs.stay e t)
theorem lt_at {α : Type} {l : List α} {i : Nat} {x : α} (h : l[i]? = some x) : i < l.length := (List.getElem?_eq_some_iff.mp h).1
theorem isWs_refs {K : PySem.W.Frag} {H : Hp} : ∀ {L : List (Addr × List Int)}, (∀ p ∈ L, SqT K H p.1 (p.2.map V.int)) → IsWs K H (L.map fun q => V.ref q.1) (L.map (·.2))
  | [], _ => .nil
  | p :: L, h => .cons ⟨p.1, rfl, h p List.mem_cons_self⟩ (isWs_refs fun q hq => h q (List.mem_cons_of_mem _ hq))
section
variable {P : Program} {w : World} {K : PySem.W.Frag} {mg : Str → Option Value} {base : Heap}
theorem ok_in_order (T : Txt K mg) : FnOk P w K mg base CX0 1 T.a_in_order T.d_in_order ["words"] (sp_in_order K) := by
  refine T.F_in_order.ok sc_in_order (fun vs H Q E h => ?_) (fun cdv A outer s H vs Q E hr h => ?_)
  · obtain ⟨a, xs, wss, rfl, _⟩ := h
    rfl
  · obtain ⟨a, xs, wss, rfl, hx2, hw2, hz, q⟩ := h
    refine ⟨_, (pss_cons (ps_set (i := 1) sc_in_order.nd rfl (Or.inl rfl) (pe_callB (cr_sortedU rfl (Nat.lt_of_le_of_lt (Nat.add_le_add_left (by decide : 8 ≤ 64) _) hr.units)) rfl T.n_sorted (by decide +kernel) (pa_cons (pe_scT (own := [("word", 2)]) rfl (Nat.lt_of_le_of_lt (Nat.add_le_add_left (by decide : 3 ≤ 64) _) hr.units) sc_in_order.nd (pi_tup (pv 0)) (blkOk_by (own := [("word", 2)]) (N := ["words", "backwards", "word"]) (sc := defScope s_in_order) (by decide +kernel)) (fun _ _ _ _ _ => (pg_name (i := 2) sc_in_order.nd rfl (Or.inl rfl))) (fun _ _ _ _ _ => pts_nil) (fun _ _ _ _ _ => (pe_revK (K := K) rfl (pv 2)))) pa_nil))) (pss_one (ps_ret (pe_callTy call_tupS rfl T.n_tuple (by decide +kernel) (pa_cons (pe_lc (own := [("word", 2)]) rfl sc_in_order.nd (pi_list (pv 1)) (blkOk_by (own := [("word", 2)]) (N := ["words", "backwards", "word"]) (sc := defScope s_in_order) (by decide +kernel)) (fun _ _ _ _ _ => (pg_name (i := 2) sc_in_order.nd rfl (Or.inl rfl))) (fun _ _ _ _ _ => pts_nil) (fun _ _ _ _ _ => (pe_revK (K := K) rfl (pv 2)))) pa_nil))))), ?_⟩
    have hlen := hw2.length
    have s2 := Same.refl H
    -- the set of the words, read from the end
    refine ⟨_, rfl, a, rfl, ⟨_, hx2⟩, fun D hD => sc_tupT (xs := xs) (fun i H3 => Same H H3 ∧ ∃ L, SetTs K P w H3 D L ∧ L.length ≤ i ∧ (L.map (·.2)).Nodup ∧ ∀ r, r ∈ L.map (·.2) ↔ r ∈ (wss.take i).map List.reverse)
      ⟨same_upd hD _, [], ⟨upd_same, fun p hp => by cases hp⟩, Nat.le_refl _, List.nodup_nil, fun r => by simp⟩ (fun i H3 _ p => Same.sqt p.1 hx2) ?_ ?_⟩
    · rintro i x H3 hi ⟨s3, L, hL, hz3, hn, hm⟩
      obtain ⟨ws, ew, hws⟩ := hw2.at hi
      obtain ⟨b, rfl, hb⟩ := hws
      refine ⟨wipe_one _ _ _, ?_⟩
      dsimp only [tYes]
      rw [if_pos rfl]
      refine ⟨_, rfl, b, _, rfl, Same.sqt s3 hb, fun H4 c s4 hc => ⟨c, ws.reverse, L, rfl, ⟨s4 _ _ hL.1, fun p hp => Same.sqt s4 (hL.2 p hp)⟩, by rw [List.map_reverse]; exact hc, by have := lt_at ew; omega, fun L' h1 h2 => ?_⟩⟩
      have hD4 := s4 _ _ hL.1
      have hst : Stay H4 (upd H4 D (SetTO P w D L')) := stay_set hD4
      have hmm : ∀ r, r ∈ (wss.take (i + 1)).map List.reverse ↔ r = ws.reverse ∨ r ∈ (wss.take i).map List.reverse := fun r => by
        rw [take_more ew, List.map_append, List.mem_append]
        simp [or_comm]
      refine ⟨same_mut hD (Same.trans s3 s4), L', ⟨upd_same, fun p hp => ?_⟩, ?_⟩
      · by_cases hk : ws.reverse ∈ L.map (·.2)
        · have e := h1 hk
          subst e
          exact hst.sqt (Same.sqt s4 (hL.2 p hp))
        · rcases List.mem_cons.mp ((h2 hk).mem_iff.mp hp) with e | e
          · subst e
            exact hst.sqt (by rw [List.map_reverse]; exact hc)
          · exact hst.sqt (Same.sqt s4 (hL.2 p e))
      · by_cases hk : ws.reverse ∈ L.map (·.2)
        · have e := h1 hk
          subst e
          refine ⟨by omega, hn, fun r => ?_⟩
          rw [hmm, ← hm]
          exact ⟨.inr, fun z => z.elim (fun z => z ▸ hk) id⟩
        · have pm := h2 hk
          have pk := pm.map (·.2)
          refine ⟨by rw [pm.length_eq]; exact Nat.succ_le_succ hz3, pk.nodup_iff.mpr (List.nodup_cons.mpr ⟨hk, hn⟩), fun r => ?_⟩
          rw [hmm, ← hm, pk.mem_iff]
          exact List.mem_cons
    · rintro H3 ⟨s3, L, hL, hz3, hn, hm⟩
      refine ⟨D, L, rfl, hL, fun L1 p1 n1 H4 p s4 hp4 hp => ?_⟩
      -- the words, turned again
      generalize ho : L1.mergeSort (PySem.W.dataLe false fun q => dTup q.2) = L2 at hp
      have pm : L2.Perm L := (ho ▸ List.mergeSort_perm _ _).trans p1
      have hr2 : (L2.map (·.2)).Pairwise (· < ·) := ho ▸ sorted_rise (fun q : Addr × List Int => q.2) L1 n1
      refine ⟨_, rfl, p, rfl, ⟨_, SqL.of hp⟩, lc_lstA (i := 2) (fun q : Addr × List Int => V.ref q.1) (fun H x y => IsW K H y x.2.reverse) (fun H H' x y e r => r.stay e) (SqL.of hp) (by rw [sizeLine_eq]; have := pm.length_eq; omega) (fun x hm2 H5 Q5 s5 q5 => ?_) fun H5 p5 ys s5 _ hp5 e => ?_⟩
      · refine ⟨_, rfl, x.1, _, rfl, Same.sqt (Same.trans s4 s5) (hL.2 x (pm.mem_iff.mp hm2)), fun H6 c s6 hc => q5 H6 (.ref c) s6 ⟨c, rfl, ?_⟩⟩
        rw [List.map_reverse]
        exact hc
      · refine ⟨p5, ys, rfl, .inl (SqL.of hp5), fun H6 p6 s6 hp6 => ?_⟩
        have fin : ∀ {L : List (Addr × List Int)} {ys : List V}, Each (fun (x : Addr × List Int) y => IsW K H5 y x.2.reverse) L ys → IsWs K H6 ys (L.map fun q => q.2.reverse) := by
          intro L ys e
          induction e with
          | nil => exact .nil
          | cons r _ ih => exact .cons (r.same s6) ih
        refine q H6 p6 ys (L2.map fun q => q.2.reverse) (Same.trans s2 (Same.trans s3 (Same.trans s4 (Same.trans s5 s6)))) hp6 (fin e) ?_ fun v => ?_
        · rw [List.map_map]
          have e2 : (List.reverse ∘ fun q : Addr × List Int => q.2.reverse) = fun q => q.2 := by
            funext q
            exact List.reverse_reverse _
          rw [e2]
          exact hr2
        · have h1 := hm v.reverse
          rw [List.take_of_length_le (by omega)] at h1
          have h2 : v.reverse ∈ wss.map List.reverse ↔ v ∈ wss := by
            rw [List.mem_map]
            exact ⟨fun ⟨z, hz, e⟩ => List.reverse_inj.mp e ▸ hz, fun z => ⟨v, z, rfl⟩⟩
          have h3 : v ∈ L2.map (fun q => q.2.reverse) ↔ v.reverse ∈ L2.map (·.2) := by
            rw [List.mem_map, List.mem_map]
            exact ⟨fun ⟨z, hz, e⟩ => ⟨z, hz, by rw [← e, List.reverse_reverse]⟩, fun ⟨z, hz, e⟩ => ⟨z, hz, by rw [e, List.reverse_reverse]⟩⟩
          rw [h3, (pm.map (·.2)).mem_iff, h1, h2]
theorem ok_sorted_words (T : Txt K mg) : FnOk P w K mg base CX0 4 T.a_sorted_words T.d_sorted_words ["letters", "words"] (sp_sorted_words K) := by
  refine T.F_sorted_words.ok sc_sorted_words (fun vs H Q E h => ?_) (fun cdv A outer s H vs Q E hr h => ?_)
  · obtain ⟨k, a, xs, wss, rfl, _⟩ := h
    rfl
  · obtain ⟨k, a, xs, wss, rfl, k1, k4, hx, hw, hz, hok, q⟩ := h
    refine ⟨_, (pss_cons (ps_expr (pe_call (ok_check_letters T) (hr.mono (by decide)) rfl T.m_check_letters T.F_check_letters.kp T.b_check_letters .nil pass0 (pa_cons (pv 0) pa_nil))) (pss_cons (ps_if (PW.pt (pw_or (pt_not (pt_val (pe_callB (call_isiK (K := K) rfl) rfl T.n_isinstance (by decide +kernel) (pa_cons (pv 1) (pa_cons (pe_bltn (v := .ty "tuple") (u := .type "tuple") rfl T.n_tuple (by decide +kernel) rfl) pa_nil))))) (pw_or1 (pt_cmpR op_gt (pe_callB call_len_seq rfl T.n_len (by decide +kernel) (pa_cons (pv 1) pa_nil)) (pe_glob (v := .int 200) rfl T.g_MOST_SORTED ⟨_, rfl⟩) (nomark _))))) (pss_one ps_never) pss_nil) (pss_cons (ps_for PassesOwn.never rfl (pi_tup (pv 1)) (pg_name (i := 2) sc_sorted_words.nd rfl (Or.inl rfl)) (pss_one (ps_expr (pe_call (ok_check_word T) (hr.mono (by decide)) rfl T.m_check_word T.F_check_word.kp T.b_check_word .nil pass0 (pa_cons (pv 0) (pa_cons (pv 2) pa_nil)))))) (pss_one (ps_ret (pe_call (ok_in_order T) (hr.mono (by decide)) rfl T.m_in_order T.F_in_order.kp T.b_in_order .nil pass0 (pa_cons (pv 1) pa_nil))))))), ?_⟩
    have hlen := hw.length
    refine ⟨_, rfl, k, rfl, k1, k4, ?_⟩
    refine ⟨_, rfl, _, _, _, _, true, rfl, .ty _, tyx_sqt hx, kit_ty (by decide +kernel), _, rfl, iteF ?_⟩
    refine ⟨_, rfl, _, _, rfl, .inr hx, _, _, rfl, rfl, _, rfl, ifF (decide_eq_false (by omega)) ?_⟩
    -- each of the words is looked at
    refine ⟨_, rfl, a, rfl, ⟨_, hx⟩, for_tup (xs := xs) (fun i σ H2 => Same H H2 ∧ ∃ u1, σ = [some (.int k), some (.ref a), u1]) ⟨Same.refl H, _, rfl⟩ (fun i σ H2 _ p => Same.sqt p.1 hx) ?_ ?_⟩
    · rintro i x σ H2 hi ⟨s2, u1, rfl⟩
      obtain ⟨ws, ew, hws⟩ := hw.at hi
      exact ⟨_, rfl, _, rfl, k, x, ws, rfl, hws.same s2, hok ws (List.mem_of_getElem? ew), fun H3 s3 => ⟨Same.trans s2 s3, _, rfl⟩⟩
    rintro σ H2 ⟨s2, u1, rfl⟩
    have hx2 := Same.sqt s2 hx
    have hw2 := hw.same s2
    exact ⟨_, rfl, a, xs, wss, rfl, hx2, hw2, hz, fun H' p ys out s hp ho hs hm => q H' p ys out (Same.trans s2 s) hp ho hs hm⟩
end
end K00
/-! K00f -/
set_option Elab.async false
set_option linter.all false
set_option maxRecDepth 100000
set_option maxHeartbeats 2000000
namespace K00
open PySem PySem.Spec PyProof.Rows L2 PpSet RL
/-- the bag: three whole numbers -/
def Bag (b : Addr) (H : Hp) : Prop := ∃ x y z : Int, H b = some (.lst [.int x, .int y, .int z])
/-- all but the bag stands -/
def Kp (b : Addr) (H H' : Hp) : Prop := Bag b H' ∧ ∀ a u, a ≠ b → H a = some u → H' a = some u
theorem Kp.refl {b : Addr} {H : Hp} (h : Bag b H) : Kp b H H := ⟨h, fun _ _ _ z => z⟩
theorem Kp.trans {b : Addr} {H H1 H2 : Hp} (h : Kp b H H1) (k : Kp b H1 H2) : Kp b H H2 := ⟨k.1, fun a u n z => k.2 a u n (h.2 a u n z)⟩
theorem Bag.same {b : Addr} {H H' : Hp} (h : Bag b H) (s : Same H H') : Bag b H' := let ⟨x, y, z, e⟩ := h; ⟨x, y, z, s _ _ e⟩
theorem Kp.of {b : Addr} {H H' : Hp} (h : Bag b H) (s : Same H H') : Kp b H H' := ⟨h.same s, fun a u _ z => s a u z⟩
theorem Kp.more {b : Addr} {H H1 H2 : Hp} (h : Kp b H H1) (s : Same H1 H2) : Kp b H H2 := h.trans (Kp.of h.1 s)
theorem Kp.stay {b : Addr} {H H' : Hp} (h : Bag b H) (k : Kp b H H') : Stay H H' := by
  obtain ⟨x, y, z, e⟩ := h
  exact ⟨fun a xs q => k.2 a _ (fun c => by subst c; rw [e] at q; cases q) q, fun a o u q => k.2 a _ (fun c => by subst c; rw [e] at q; cases q) q⟩
theorem Bag.upd {b D : Addr} {H : Hp} {o : HO} (h : Bag b H) (n : D ≠ b) : Bag b (upd H D o) := by
  obtain ⟨x, y, z, e⟩ := h
  exact ⟨x, y, z, by rw [upd_ne (Ne.symm n)]; exact e⟩
theorem Kp.mut {b D : Addr} {H H' : Hp} {o : HO} (hD : H D = none) (n : D ≠ b) (k : Kp b H H') : Kp b H (upd H' D o) :=
  ⟨k.1.upd n, fun a u na z => by rw [upd_ne (fun c => by subst c; rw [hD] at z; cases z)]; exact k.2 a u na z⟩
theorem Kp.set {b : Addr} {H : Hp} {x y z : Int} : Kp b H (upd H b (.lst [.int x, .int y, .int z])) := ⟨⟨x, y, z, upd_same⟩, fun a u n e => by rw [upd_ne n]; exact e⟩
theorem ne_bag {b p : Addr} {H : Hp} (h : Bag b H) (hp : H p = none) : p ≠ b := fun e => by
  obtain ⟨x, y, z, q⟩ := h
  rw [← e, hp] at q
  cases q
/-- [e for _ in range(n)], e draws from the bag -/
theorem lc_rngB {te : TE} {σ : L2.St} {H1 : Hp} {i : Nat} {b : Addr} {Qd : Addr → Hp → Prop} {lo : Int} {n : Nat} (R : Hp → V → Prop) (mono : ∀ H H' y, Stay H H' → R H y → R H' y) (hb : Bag b H1) (hz : n < sizeLine)
    (el : ∀ j, j < n → ∀ (H : Hp) (Q : VK), Kp b H1 H → (∀ H' y, Kp b H H' → R H' y → Q y H') → te ((wipe σ [i]).set i (some (.int (lo + j)))) H Q)
    (fin : ∀ H' p ys, Kp b H1 H' → H1 p = none → H' p = some (.lst ys) → ys.length = n → (∀ y ∈ ys, R H' y) → Qd p H') :
    ∀ D, H1 D = none → ∃ W : Nat → Nat → Hp → Prop, (∃ m, W 0 m (upd H1 D (.lst []))) ∧ ∀ j m H, W j m H →
      ((Itr lo n).stop j H ∧ Qd D H) ∨ ((Itr lo n).go j H ∧ ∃ Nx : Hp → Prop, (∀ H', Nx H' → ∃ m', m' < m ∧ W (j + 1) m' H') ∧ ∀ x H', (Itr lo n).yld j H x H' → gName i x (wipe σ [i]) H' fun σ2 H2 => wipe σ2 [i] = wipe σ [i] ∧ tYes σ2 H2 fun b H3 =>
        if b = true then te σ2 H3 fun y H4 => ∃ acc, H4 D = some (.lst acc) ∧ acc.length < sizeLine ∧ Nx (upd H4 D (.lst (acc ++ [y]))) else Nx H3) := by
  intro D hD
  have nD := ne_bag hb hD
  refine lc_range (Qd := fun H => Qd D H) (fun j H => j ≤ n ∧ Kp b H1 H ∧ ∃ ys, H D = some (.lst ys) ∧ ys.length = j ∧ ∀ y ∈ ys, R H y) ⟨Nat.zero_le _, Kp.of hb (same_upd hD _), [], upd_same, rfl, fun y hy => by cases hy⟩ (fun j H hj p => ?_) fun H p => ?_
  · obtain ⟨_, s, ys, hys, hl, e⟩ := p
    refine ⟨wipe_one _ _ _, ?_⟩
    dsimp only [tYes]
    rw [if_pos rfl]
    refine el j hj H _ s fun H' y s2 r => ?_
    have h := s2.2 _ _ nD hys
    have st := stay_lst (o' := .lst (ys ++ [y])) h
    refine ⟨ys, h, by omega, hj, (Kp.trans s s2).mut hD nD, _, upd_same, by simp [hl], fun z hz => ?_⟩
    rcases List.mem_append.mp hz with hz | hz
    · exact mono _ _ _ (Stay.trans (Kp.stay s.1 s2) st) (e z hz)
    · rw [List.mem_singleton.mp hz]
      exact mono _ _ _ st r
  · obtain ⟨_, s, ys, hys, hl, e⟩ := p
    exact fin H D ys s hD hys hl e
theorem ints_of {ys : List V} {P : Int → Prop} (h : ∀ y ∈ ys, ∃ r, y = .int r ∧ P r) : ∃ ws : List Int, ys = ws.map V.int ∧ ∀ x ∈ ws, P x := by
  induction ys with
  | nil => exact ⟨[], rfl, fun x hx => by cases hx⟩
  | cons y ys ih =>
    obtain ⟨ws, rfl, hw⟩ := ih fun z hz => h z (List.mem_cons_of_mem _ hz)
    obtain ⟨r, rfl, hr⟩ := h y List.mem_cons_self
    exact ⟨r :: ws, rfl, fun x hx => (List.mem_cons.mp hx).elim (fun e => e ▸ hr) (hw x)⟩
def sp__law_bag (K : PySem.W.Frag) : Sp := fun vs H Q _ => ∃ (a : Addr) (xs : List Int) (j : Nat), vs = [.ref a, .int j] ∧ SqL K H a (xs.map V.int) ∧ j < 1000 ∧ ∀ H' p, Same H H' → Bag p H' → H p = none → Q (.ref p) H'
def sp__law_grab : Sp := fun vs H Q _ => ∃ (b : Addr) (n : Int), vs = [.ref b, .int n] ∧ Bag b H ∧ 0 < n ∧ n < 2 ^ 64 ∧ ∀ H' r, Kp b H H' → 0 ≤ r → r < n → Q (.int r) H'
def sp__law_one_of : Sp := fun vs H Q _ => ∃ (b a : Addr) (xs : List V), vs = [.ref b, .ref a] ∧ Bag b H ∧ a ≠ b ∧ H a = some (.lst xs) ∧ 0 < xs.length ∧ xs.length < 1000 ∧ ∀ H' v, Kp b H H' → v ∈ xs → Q v H'
def sp__law_word_drawn (K : PySem.W.Frag) : Sp := fun vs H Q _ => ∃ (b : Addr) (k most : Int), vs = [.ref b, .int k, .int most] ∧ Bag b H ∧ 1 ≤ k ∧ k ≤ 4 ∧ 0 ≤ most ∧ most ≤ 100 ∧ ∀ H' v ws, Kp b H H' → IsW K H' v ws → ws.length ≤ most → (∀ x ∈ ws, 0 ≤ x ∧ x < k) → Q v H'
section
variable {P : Program} {w : World} {K : PySem.W.Frag} {mg : Str → Option Value} {base : Heap}
theorem ok__law_bag (T : Txt K mg) : FnOk P w K mg base CX0 1 T.a__law_bag T.d__law_bag ["script", "spot"] (sp__law_bag K) := by
  refine T.F__law_bag.ok sc__law_bag (fun vs H Q E h => ?_) (fun cdv A outer s H vs Q E hr h => ?_)
  · obtain ⟨a, xs, j, rfl, _⟩ := h
    rfl
  · obtain ⟨a, xs, j, rfl, hx, hj, q⟩ := h
    refine ⟨_, (pss_cons (ps_set (i := 2) sc__law_bag.nd rfl (Or.inl rfl) (pe_ifExp (pt_cmpR op_lt (pv 1) (pe_callB call_len_seq rfl T.n_len (by decide +kernel) (pa_cons (pv 0) pa_nil)) (nomark _)) (pe_ix ix_list (pv 0) (pv 1) (fun _ _ => rfl)) (pe_op op_add (pe_op op_mul pe_int (pv 1)) pe_int))) (pss_cons (ps_set (i := 3) sc__law_bag.nd rfl (Or.inl rfl) (pe_op op_mod (pe_callTy call_int1 rfl T.n_int (by decide +kernel) (pa_cons (pe_callB call_abs rfl T.n_abs (by decide +kernel) (pa_cons (pv 2) pa_nil)) pa_nil)) (pe_op op_mulW (pe_op op_pow pe_int pe_int) (pe_op op_pow pe_int pe_int)))) (pss_cons (ps_set (i := 4) sc__law_bag.nd rfl (Or.inl rfl) (pe_op op_add (pe_op op_add (pe_op op_add (pe_op op_mul (pe_op op_mod (pv 3) pe_int) pe_int) (pe_op op_mul pe_int (pv 1))) (pe_op op_mul pe_int (pe_callTy call_int1 rfl T.n_int (by decide +kernel) (pa_cons (pe_cmpR op_lt (pv 2) pe_int (nomark _)) pa_nil)))) pe_int)) (pss_one (ps_ret (pe_lstS (pa_cons (pe_callB (call_max2 rfl) rfl T.n_max (by decide +kernel) (pa_cons pe_int (pa_cons (pe_op op_sub (pv 3) (pe_op op_pow pe_int pe_int)) pa_nil))) (pa_cons (pe_op op_mod (pe_callTy call_int1 rfl T.n_int (by decide +kernel) (pa_cons (pv 4) pa_nil)) pe_int) (pa_cons pe_int pa_nil))))))))), ?_⟩
    have pw : ∀ n : Nat, n ≤ 60 → CPow 10 n := fun n hn => ⟨by omega, by omega, by decide⟩
    refine ⟨_, rfl, _, rfl, _, _, rfl, .inl hx, _, _, rfl, rfl, _, rfl, ?_⟩
    by_cases c : j < xs.length
    · refine ifT (decide_eq_true (by rw [List.length_map]; omega)) ⟨_, rfl, _, rfl, a, _, _, _, rfl, rfl, hx, at_int (by omega) (by rw [Int.toNat_natCast]; exact List.getElem?_eq_getElem c), ?_⟩
      refine ⟨_, rfl, _, rfl, .inl ⟨_, rfl, _, _, rfl, rfl, pw _ (by decide), _, _, rfl, rfl, pw _ (by decide), _, _, rfl, rfl, (by show _ < 1000000; decide +kernel), _, _, rfl, rfl, (by show (0 : Int) < _; decide +kernel), ?_⟩⟩
      refine ⟨_, rfl, _, _, rfl, rfl, (by show (0 : Int) < _; decide), _, _, rfl, rfl, .inr (by decide), _, rfl, _, _, rfl, rfl, .inl (by decide), _, _, rfl, rfl, ?_⟩
      refine ⟨_, rfl, _, _, rfl, rfl, .inr ⟨_, rfl, _, _, rfl, rfl, .inl (by decide), _, _, rfl, rfl, _, _, rfl, rfl, ?_⟩⟩
      refine ⟨_, rfl, _, _, rfl, rfl, pw _ (by decide), _, _, rfl, rfl, _, _, rfl, ?_⟩
      refine ⟨_, rfl, .inl ⟨_, rfl, _, _, rfl, rfl, (by show (0 : Int) < _; decide), (by show 3 ≤ sizeLine; decide), fun H2 p s2 hp h2 => q H2 p s2 ⟨_, _, _, h2⟩ hp⟩⟩
    · refine ifF (decide_eq_false (by rw [List.length_map]; omega)) ?_
      refine ⟨_, rfl, _, _, rfl, rfl, .inl (by decide), _, _, rfl, rfl, ?_⟩
      refine ⟨_, rfl, _, rfl, .inl ⟨_, rfl, _, _, rfl, rfl, pw _ (by decide), _, _, rfl, rfl, pw _ (by decide), _, _, rfl, rfl, (by show _ < 1000000; decide +kernel), _, _, rfl, rfl, (by show (0 : Int) < _; decide +kernel), ?_⟩⟩
      refine ⟨_, rfl, _, _, rfl, rfl, (by show (0 : Int) < _; decide), _, _, rfl, rfl, .inr (by decide), _, rfl, _, _, rfl, rfl, .inl (by decide), _, _, rfl, rfl, ?_⟩
      refine ⟨_, rfl, _, _, rfl, rfl, .inr ⟨_, rfl, _, _, rfl, rfl, .inl (by decide), _, _, rfl, rfl, _, _, rfl, rfl, ?_⟩⟩
      refine ⟨_, rfl, _, _, rfl, rfl, pw _ (by decide), _, _, rfl, rfl, _, _, rfl, ?_⟩
      refine ⟨_, rfl, .inl ⟨_, rfl, _, _, rfl, rfl, (by show (0 : Int) < _; decide), (by show 3 ≤ sizeLine; decide), fun H2 p s2 hp h2 => q H2 p s2 ⟨_, _, _, h2⟩ hp⟩⟩
theorem ok__law_grab (T : Txt K mg) : FnOk P w K mg base CX0 1 T.a__law_grab T.d__law_grab ["bag", "total"] sp__law_grab := by
  refine T.F__law_grab.ok sc__law_grab (fun vs H Q E h => ?_) (fun cdv A outer s H vs Q E hr h => ?_)
  · obtain ⟨b, n, rfl, _⟩ := h
    rfl
  · obtain ⟨b, n, rfl, ⟨x, y, z, hb⟩, h0, h1, q⟩ := h
    refine ⟨_, (pss_cons (ps_if (pt_cmpR op_gt (pe_ix ix_list (pv 0) pe_int (fun _ _ => rfl)) pe_int (nomark _)) (pss_cons (ps_set (i := 2) sc__law_grab.nd rfl (Or.inl rfl) (pe_op op_mod (pe_callTy call_int1 rfl T.n_int (by decide +kernel) (pa_cons (pe_ix ix_list (pv 0) pe_int (fun _ _ => rfl)) pa_nil)) (pv 1))) (pss_cons (ps_asg (pe_op op_fdivW (pe_ix ix_list (pv 0) pe_int (fun _ _ => rfl)) (pv 1)) (pg_sub (pv 0) pe_int set_list)) (pss_one (ps_ret (pv 2))))) pss_nil) (pss_cons (ps_asg (pe_op op_add (pe_ix ix_list (pv 0) pe_int (fun _ _ => rfl)) pe_int) (pg_sub (pv 0) pe_int set_list)) (pss_cons (ps_set (i := 3) sc__law_grab.nd rfl (Or.inl rfl) (pe_op op_mod (pe_callTy call_int1 rfl T.n_int (by decide +kernel) (pa_cons (pe_op op_add (pe_ix ix_list (pv 0) pe_int (fun _ _ => rfl)) (pe_op op_mul pe_int (pe_ix ix_list (pv 0) pe_int (fun _ _ => rfl)))) pa_nil)) pe_int)) (pss_cons (ps_set (i := 4) sc__law_grab.nd rfl (Or.inl rfl) (pe_op op_add (pe_op op_mul (pe_op op_mod (pe_callTy call_int1 rfl T.n_int (by decide +kernel) (pa_cons (pe_op op_add (pe_op op_mul (pv 3) (pv 3)) (pe_op op_mul pe_int (pe_ix ix_list (pv 0) pe_int (fun _ _ => rfl)))) pa_nil)) pe_int) pe_int) (pv 3))) (pss_one (ps_ret (pe_op op_mod (pe_callTy call_int1 rfl T.n_int (by decide +kernel) (pa_cons (pe_op op_fdivW (pv 4) pe_int) pa_nil)) (pv 1)))))))), ?_⟩
    have hl := SqL.of (K := K) hb
    refine ⟨_, rfl, b, _, _, _, rfl, rfl, hl, rfl, _, _, rfl, rfl, _, rfl, ?_⟩
    by_cases c : x > 0
    · refine ifT (decide_eq_true c) ?_
      refine ⟨_, rfl, b, _, _, _, rfl, rfl, hl, rfl, .inl ⟨_, rfl, _, rfl, _, _, rfl, rfl, h0, ?_⟩⟩
      refine ⟨_, rfl, b, _, _, _, rfl, rfl, hl, rfl, _, rfl, _, _, rfl, rfl, wide_div (b := 64) h0 (by omega) (by decide) (by decide), ?_⟩
      refine ⟨_, rfl, b, _, _, _, rfl, rfl, hb, rfl, _, rfl, ?_⟩
      exact q _ _ Kp.set (Int.emod_nonneg _ (by omega)) (Int.emod_lt_of_pos _ h0)
    · refine ifF (decide_eq_false c) ?_
      refine ⟨_, rfl, b, _, _, _, rfl, rfl, hl, rfl, _, _, rfl, rfl, ?_⟩
      refine ⟨_, rfl, b, _, _, _, rfl, rfl, hb, rfl, ?_⟩
      have hl2 : SqL K (upd H b (.lst [.int x, .int y, .int (z + 1)])) b [.int x, .int y, .int (z + 1)] := SqL.of upd_same
      refine ⟨_, rfl, b, _, _, _, rfl, rfl, hl2, rfl, _, rfl, b, _, _, _, rfl, rfl, hl2, rfl, _, _, rfl, rfl, .inl (by decide), _, _, rfl, rfl, .inl ⟨_, rfl, _, _, rfl, rfl, (by show (0 : Int) < _; decide), ?_⟩⟩
      generalize ho : (y + 67867967 * (z + 1)) % 2305843009213693951 = one
      have o0 : 0 ≤ one := ho ▸ Int.emod_nonneg _ (by decide)
      have o1 : one < 2305843009213693951 := ho ▸ Int.emod_lt_of_pos _ (by decide)
      refine ⟨_, rfl, _, rfl, _, _, rfl, rfl, .inl (by omega), _, rfl, b, _, _, _, rfl, rfl, hl2, rfl, _, _, rfl, rfl, .inl (by decide), _, _, rfl, rfl, .inl ⟨_, rfl, _, _, rfl, rfl, (by show (0 : Int) < _; decide), ?_⟩⟩
      refine ⟨_, _, rfl, rfl, .inr (by decide), _, rfl, _, _, rfl, rfl, ?_⟩
      refine ⟨_, rfl, _, _, rfl, rfl, wide_div (b := 64) (by decide) (by decide) (by decide) (by decide), .inl ⟨_, rfl, _, rfl, _, _, rfl, rfl, h0, ?_⟩⟩
      exact q _ _ Kp.set (Int.emod_nonneg _ (by omega)) (Int.emod_lt_of_pos _ h0)
theorem ok__law_one_of (T : Txt K mg) : FnOk P w K mg base CX0 2 T.a__law_one_of T.d__law_one_of ["bag", "items"] sp__law_one_of := by
  refine T.F__law_one_of.ok sc__law_one_of (fun vs H Q E h => ?_) (fun cdv A outer s H vs Q E hr h => ?_)
  · obtain ⟨b, a, xs, rfl, _⟩ := h
    rfl
  · obtain ⟨b, a, xs, rfl, hb, hne, ha, z0, z1, q⟩ := h
    refine ⟨_, (pss_one (ps_ret (pe_ix ix_list (pv 1) (pe_call (ok__law_grab T) (hr.mono (by decide)) rfl T.m__law_grab T.F__law_grab.kp T.b__law_grab .nil pass0 (pa_cons (pv 0) (pa_cons (pe_callB call_len_seq rfl T.n_len (by decide +kernel) (pa_cons (pv 1) pa_nil)) pa_nil))) (fun _ _ => rfl)))), ?_⟩
    refine ⟨_, rfl, _, rfl, _, rfl, _, _, rfl, .inl (SqL.of ha), b, _, rfl, hb, by omega, by omega, fun H2 r k2 r0 r1 => ?_⟩
    obtain ⟨v, hv⟩ : ∃ v, xs[r.toNat]? = some v := ⟨_, List.getElem?_eq_getElem (by omega)⟩
    refine ⟨a, _, _, v, rfl, rfl, SqL.of (k2.2 _ _ hne ha), at_v r0 hv, q H2 v k2 (List.mem_of_getElem? hv)⟩
theorem ok__law_word_drawn (T : Txt K mg) : FnOk P w K mg base CX0 2 T.a__law_word_drawn T.d__law_word_drawn ["bag", "letters", "most"] (sp__law_word_drawn K) := by
  refine T.F__law_word_drawn.ok sc__law_word_drawn (fun vs H Q E h => ?_) (fun cdv A outer s H vs Q E hr h => ?_)
  · obtain ⟨b, k, most, rfl, _⟩ := h
    rfl
  · obtain ⟨b, k, most, rfl, hb, k1, k4, m0, m1, q⟩ := h
    refine ⟨_, (pss_one (ps_ret (pe_callTy call_tupS rfl T.n_tuple (by decide +kernel) (pa_cons (pe_lc (own := [("lap", 3)]) rfl sc__law_word_drawn.nd (pi_range1 rfl T.n_range (pa_cons (pe_call (ok__law_grab T) (hr.mono (by decide)) rfl T.m__law_grab T.F__law_grab.kp T.b__law_grab .nil pass0 (pa_cons (pv 0) (pa_cons (pe_op op_add (pv 2) pe_int) pa_nil))) pa_nil)) (blkOk_by (own := [("lap", 3)]) (N := ["bag", "letters", "most", "lap"]) (sc := defScope s__law_word_drawn) (by decide +kernel)) (fun _ _ _ _ _ => (pg_name (i := 3) sc__law_word_drawn.nd rfl (Or.inl rfl))) (fun _ _ _ _ _ => pts_nil) (fun _ _ _ _ _ => (pe_call (ok__law_grab T) (hr.mono (by decide)) rfl T.m__law_grab T.F__law_grab.kp T.b__law_grab .nil pass0 (pa_cons (pv 0) (pa_cons (pv 1) pa_nil))))) pa_nil)))), ?_⟩
    refine ⟨_, rfl, _, rfl, _, _, rfl, rfl, b, _, rfl, hb, by omega, by omega, fun H1 r k2 r0 r1 => ?_⟩
    refine ⟨r, rfl, by omega, by omega, lc_rngB (i := 3) (fun _ y => ∃ r, y = .int r ∧ 0 ≤ r ∧ r < k) (fun _ _ _ _ r => r) k2.1 (by rw [sizeLine_eq]; omega) (fun j hj H3 Q3 k3 q3 => ?_) fun H4 p ys k4 hp4 hp hl hy => ?_⟩
    · exact ⟨_, rfl, _, rfl, b, _, rfl, k3.1, by omega, by omega, fun H5 r' k5 a0 a1 => q3 H5 _ k5 ⟨_, rfl, a0, a1⟩⟩
    · obtain ⟨ws, rfl, hw⟩ := ints_of hy
      refine ⟨p, _, rfl, .inl (SqL.of hp), fun H5 p5 s5 hp5 => q H5 (.ref p5) ws (k2.trans (k4.more s5)) ⟨p5, rfl, hp5⟩ ?_ hw⟩
      rw [List.length_map] at hl
      omega
end
end K00
/-! M4 -/
set_option linter.all false
set_option maxRecDepth 100000
namespace K00
open RL
theorem lex_at : ∀ (xs ys : List Int) (x y : Int), xs[cpl xs ys]? = some x → ys[cpl xs ys]? = some y → HT.lexLt xs ys = decide (x < y) ∧ xs ≠ ys
  | [], ys, x, y, h, _ => by simp at h
  | u :: xs, [], x, y, _, h => by simp at h
  | u :: xs, v :: ys, x, y, h, k => by
    by_cases c : u = v
    · subst c
      have e : cpl (u :: xs) (u :: ys) = cpl xs ys + 1 := by simp [cpl]
      rw [e] at h k
      have ih := lex_at xs ys x y (by simpa using h) (by simpa using k)
      refine ⟨?_, fun z => ih.2 (List.cons.inj z).2⟩
      rw [← ih.1]
      simp [HT.lexLt]
    · have e : cpl (u :: xs) (v :: ys) = 0 := by simp [cpl, c]
      rw [e] at h k
      cases Option.some.inj h
      cases Option.some.inj k
      refine ⟨?_, fun z => c (List.cons.inj z).1⟩
      simp [HT.lexLt, c]
theorem lex_end : ∀ (xs ys : List Int), cpl xs ys = min xs.length ys.length → HT.lexLt xs ys = decide (xs.length < ys.length) ∧ (xs = ys ↔ xs.length = ys.length)
  | [], [], _ => by simp [HT.lexLt]
  | [], v :: ys, _ => by simp [HT.lexLt]
  | u :: xs, [], _ => by simp [HT.lexLt]
  | u :: xs, v :: ys, h => by
    by_cases c : u = v
    · subst c
      have e : cpl (u :: xs) (u :: ys) = cpl xs ys + 1 := by simp [cpl]
      rw [e] at h
      have ih := lex_end xs ys (by simp only [List.length_cons] at h; omega)
      refine ⟨?_, ?_⟩
      · have : HT.lexLt (u :: xs) (u :: ys) = HT.lexLt xs ys := by simp [HT.lexLt]
        rw [this, ih.1]
        simp
      · constructor
        · intro z
          rw [z]
        · intro z
          rw [ih.2.mpr (by simpa using z)]
    · have e : cpl (u :: xs) (v :: ys) = 0 := by simp [cpl, c]
      rw [e] at h
      simp only [List.length_cons] at h
      omega
theorem ordW_at {a b : List Int} {x y : Int} (h : a.reverse[cpl a.reverse b.reverse]? = some x) (k : b.reverse[cpl a.reverse b.reverse]? = some y) : ordW a b = if x < y then -1 else 1 := by
  have q := lex_at _ _ _ _ h k
  unfold ordW
  rw [if_neg (fun z => q.2 (by rw [z])), q.1]
  simp
theorem ordW_end {a b : List Int} (h : cpl a.reverse b.reverse = min a.length b.length) : ordW a b = if a.length = b.length then 0 else if a.length < b.length then -1 else 1 := by
  have q := lex_end a.reverse b.reverse (by rw [List.length_reverse, List.length_reverse]; exact h)
  rw [List.length_reverse, List.length_reverse, List.reverse_inj] at q
  unfold ordW
  rw [q.1]
  by_cases c : a.length = b.length
  · rw [if_pos c, if_pos (q.2.mpr c)]
  · rw [if_neg c, if_neg (fun z => c (q.2.mp z))]
    simp
theorem cpl_pre : ∀ (xs ys : List Int), cpl xs ys = xs.length ↔ xs <+: ys
  | [], ys => by simp [cpl]
  | u :: xs, [] => by simp [cpl]
  | u :: xs, v :: ys => by
    by_cases c : u = v
    · subst c
      have e : cpl (u :: xs) (u :: ys) = cpl xs ys + 1 := by simp [cpl]
      rw [e, List.length_cons, List.cons_prefix_cons, ← cpl_pre xs ys]
      simp
    · have e : cpl (u :: xs) (v :: ys) = 0 := by simp [cpl, c]
      rw [e, List.cons_prefix_cons]
      simp [c]
theorem end_iff (a b : List Int) : decide (cpl a.reverse b.reverse = a.length) = (decide (a.length ≤ b.length) && decide (b.drop (b.length - a.length) = a)) := by
  rw [Bool.eq_iff_iff, Bool.and_eq_true, decide_eq_true_iff, decide_eq_true_iff, decide_eq_true_iff]
  have h := cpl_pre a.reverse b.reverse
  rw [List.length_reverse, List.reverse_prefix, List.suffix_iff_eq_drop] at h
  rw [h]
  constructor
  · intro z
    refine ⟨?_, z.symm⟩
    have := congrArg List.length z
    rw [List.length_drop] at this
    omega
  · exact fun z => z.2.symm
theorem ordW_lt {a b : List Int} : ordW a b < 0 ↔ a.reverse < b.reverse := by
  unfold ordW
  rw [lexLt_eq]
  by_cases c : a = b
  · subst c
    rw [if_pos rfl]
    exact ⟨fun z => by omega, fun z => absurd z (lt_ir _)⟩
  · rw [if_neg c]
    by_cases d : a.reverse < b.reverse <;> simp [d]
theorem ordW_ge {a b : List Int} (h : ¬ ordW a b < 0) (n : a ≠ b) : b.reverse < a.reverse := by
  rcases lt_tri a.reverse b.reverse with z | z | z
  · exact absurd (ordW_lt.mpr z) h
  · exact absurd (List.reverse_inj.mp z) n
  · exact z
theorem put_rise {l : List (List Int)} {w : List Int} {i : Nat} (hr : l.Pairwise (· < ·)) (h1 : ∀ j x, j < i → l[j]? = some x → x < w) (h2 : ∀ x, l[i]? = some x → w < x) : (l.take i ++ [w] ++ l.drop i).Pairwise (· < ·) := by
  have hd : ∀ x ∈ l.drop i, w < x := by
    cases e : l.drop i with
    | nil => intro x hx; cases hx
    | cons y r =>
      have ey : l[i]? = some y := by
        have := List.getElem?_drop (xs := l) (i := i) (j := 0)
        rw [e] at this
        simpa using this.symm
      have hy := h2 y ey
      have hp : (y :: r).Pairwise (· < ·) := e ▸ hr.sublist (List.drop_sublist i l)
      intro x hx
      rcases List.mem_cons.mp hx with z | z
      · rw [z]; exact hy
      · exact lt_tr hy ((List.pairwise_cons.mp hp).1 x z)
  have ht : ∀ x ∈ l.take i, x < w := by
    intro x hx
    obtain ⟨j, hj, e⟩ := List.mem_iff_getElem.mp hx
    rw [List.length_take] at hj
    rw [List.getElem_take] at e
    exact h1 j x (by omega) (by rw [← e]; exact List.getElem?_eq_getElem (by omega))
  rw [List.append_assoc, List.pairwise_append]
  refine ⟨hr.sublist (List.take_sublist i l), List.pairwise_append.mpr ⟨List.pairwise_singleton _ _, hr.sublist (List.drop_sublist i l), fun a ha b hb => by rw [List.mem_singleton.mp ha]; exact hd b hb⟩, fun a ha b hb => ?_⟩
  rcases List.mem_append.mp hb with z | z
  · rw [List.mem_singleton.mp z]; exact ht a ha
  · exact lt_tr (ht a ha) (hd b z)
theorem put_mem {α : Type} (l : List α) (w : α) (i : Nat) (x : α) : x ∈ l.take i ++ [w] ++ l.drop i ↔ x ∈ l ∨ x = w := by
  have h : x ∈ l ↔ x ∈ l.take i ∨ x ∈ l.drop i := by
    rw [← List.mem_append, List.take_append_drop]
  rw [h]
  simp only [List.mem_append, List.mem_singleton]
  constructor
  · rintro ((h | h) | h)
    · exact .inl (.inl h)
    · exact .inr h
    · exact .inl (.inr h)
  · rintro ((h | h) | h)
    · exact .inl (.inl h)
    · exact .inr h
    · exact .inl (.inr h)
end K00
/-! K00g -/
set_option Elab.async false
set_option linter.all false
set_option maxRecDepth 100000
set_option maxHeartbeats 2000000
namespace K00
open PySem PySem.Spec PyProof.Rows L2 PpSet RL
/-- two words, a value of the two -/
def sp_pair (K : PySem.W.Frag) (f : List Int → List Int → V) : Sp := fun vs H Q _ => ∃ (v u : V) (a b : List Int), vs = [v, u] ∧ IsW K H v a ∧ IsW K H u b ∧ a.length ≤ 1000 ∧ b.length ≤ 1000 ∧ ∀ H', Same H H' → Q (f a b) H'
theorem neF {α : Type} [DecidableEq α] {x y : α} (h : x = y) : (!decide (x = y)) = false := by rw [decide_eq_true h]; rfl
theorem neT {α : Type} [DecidableEq α] {x y : α} (h : x ≠ y) : (!decide (x = y)) = true := by rw [decide_eq_false h]; rfl
section
variable {P : Program} {w : World} {K : PySem.W.Frag} {mg : Str → Option Value} {base : Heap}
theorem ok__law_wd_compared (T : Txt K mg) : FnOk P w K mg base CX0 1 T.a__law_wd_compared T.d__law_wd_compared ["one", "other"] (sp_pair K fun a b => .int (ordW a b)) := by
  refine T.F__law_wd_compared.ok sc__law_wd_compared (fun vs H Q E h => ?_) (fun cdv A outer s H vs Q E hr h => ?_)
  · obtain ⟨v, u, a, b, rfl, _⟩ := h
    rfl
  · obtain ⟨v, u, a, b, rfl, ⟨x, rfl, hx⟩, ⟨y, rfl, hy⟩, za, zb, q⟩ := h
    refine ⟨_, (pss_cons (ps_for PassesOwn.never rfl (pi_range1 rfl T.n_range (pa_cons (pe_callB (call_min2 rfl) rfl T.n_min (by decide +kernel) (pa_cons (pe_callB call_len_seq rfl T.n_len (by decide +kernel) (pa_cons (pv 0) pa_nil)) (pa_cons (pe_callB call_len_seq rfl T.n_len (by decide +kernel) (pa_cons (pv 1) pa_nil)) pa_nil))) pa_nil)) (pg_name (i := 2) sc__law_wd_compared.nd rfl (Or.inl rfl)) (pss_cons (ps_par (i := 3) (j := 4) rfl sc__law_wd_compared.nd rfl rfl (by decide) rfl rfl (pa_cons (pe_ix ix_tup (pv 0) (pe_op op_sub (pe_op op_sub (pe_callB call_len_seq rfl T.n_len (by decide +kernel) (pa_cons (pv 0) pa_nil)) pe_int) (pv 2)) (fun _ _ => rfl)) (pa_cons (pe_ix ix_tup (pv 1) (pe_op op_sub (pe_op op_sub (pe_callB call_len_seq rfl T.n_len (by decide +kernel) (pa_cons (pv 1) pa_nil)) pe_int) (pv 2)) (fun _ _ => rfl)) pa_nil)) rfl) (pss_one (ps_if (pt_cmpR op_ne (pv 3) (pv 4) (nomark _)) (pss_one (ps_ret (pe_ifExp (pt_cmpR op_lt (pv 3) (pv 4) (nomark _)) (pe_un un_neg pe_int) pe_int))) pss_nil)))) (pss_one (ps_ret (pe_ifExp (pt_cmpR op_eq (pe_callB call_len_seq rfl T.n_len (by decide +kernel) (pa_cons (pv 0) pa_nil)) (pe_callB call_len_seq rfl T.n_len (by decide +kernel) (pa_cons (pv 1) pa_nil)) (nomark _)) pe_int (pe_ifExp (pt_cmpR op_lt (pe_callB call_len_seq rfl T.n_len (by decide +kernel) (pa_cons (pv 0) pa_nil)) (pe_callB call_len_seq rfl T.n_len (by decide +kernel) (pa_cons (pv 1) pa_nil)) (nomark _)) (pe_un un_neg pe_int) pe_int))))), ?_⟩
    have la : (a.map V.int).length = a.length := List.length_map _
    have lb : (b.map V.int).length = b.length := List.length_map _
    have cl := cpl_le a.reverse b.reverse
    rw [List.length_reverse, List.length_reverse] at cl
    refine ⟨_, rfl, _, _, rfl, .inr hx, _, rfl, _, _, rfl, .inr hy, _, _, rfl, ?_⟩
    rw [la, lb]
    have em : (if (b.length : Int) < (a.length : Int) then (b.length : Int) else (a.length : Int)) = ((min a.length b.length : Nat) : Int) := by split <;> omega
    rw [em]
    refine ⟨_, rfl, by omega, by omega, for_range (fun i σ H2 => H2 = H ∧ i ≤ cpl a.reverse b.reverse ∧ ∃ u1 u2 u3, σ = [some (.ref x), some (.ref y), u1, u2, u3]) ⟨rfl, Nat.zero_le _, _, _, _, rfl⟩ ?_ ?_⟩
    · rintro i σ H2 hi ⟨rfl, hc, u1, u2, u3, rfl⟩
      rw [Int.toNat_natCast] at hi
      have ia : i < a.length := by omega
      have ib : i < b.length := by omega
      have ea := from_end a i ia
      have eb := from_end b i ib
      have ra : i < a.reverse.length := by rw [List.length_reverse]; exact ia
      have rb : i < b.reverse.length := by rw [List.length_reverse]; exact ib
      rw [List.getElem?_eq_getElem ra] at ea
      rw [List.getElem?_eq_getElem rb] at eb
      refine ⟨_, rfl, _, rfl, _, _, rfl, .inr hx, _, _, rfl, rfl, _, rfl, _, _, rfl, rfl, x, _, _, _, rfl, rfl, hx, at_int (by rw [la]; omega) (by rw [la, Int.zero_add]; exact ea), ?_⟩
      refine ⟨_, rfl, _, rfl, _, _, rfl, .inr hy, _, _, rfl, rfl, _, rfl, _, _, rfl, rfl, y, _, _, _, rfl, rfl, hy, at_int (by rw [lb]; omega) (by rw [lb, Int.zero_add]; exact eb), ?_⟩
      refine ⟨_, _, rfl, ?_⟩
      refine ⟨_, rfl, _, rfl, rfl, _, rfl, ?_⟩
      by_cases d : a.reverse[i] = b.reverse[i]
      · refine ifF (neF (by rw [d])) ⟨rfl, ?_, _, _, _, rfl⟩
        refine Nat.lt_of_le_of_ne hc fun z => ?_
        have n := cpl_ne a.reverse b.reverse (by rw [List.length_reverse, List.length_reverse]; omega)
        rw [← z, List.getElem?_eq_getElem ra, List.getElem?_eq_getElem rb, d] at n
        exact n rfl
      · refine ifT (neT (fun z => d (by injection z))) ?_
        have e : cpl a.reverse b.reverse = i := by
          refine Nat.le_antisymm (Nat.le_of_not_lt fun z => ?_) hc
          have n := cpl_at _ _ _ z
          rw [List.getElem?_eq_getElem ra, List.getElem?_eq_getElem rb] at n
          exact d (Option.some.inj n)
        have ew := ordW_at (a := a) (b := b) (x := a.reverse[i]) (y := b.reverse[i]) (by rw [e]; exact List.getElem?_eq_getElem ra) (by rw [e]; exact List.getElem?_eq_getElem rb)
        have q2 := q H2 (Same.refl H2)
        dsimp only at q2
        rw [ew] at q2
        refine ⟨_, rfl, _, rfl, _, _, rfl, rfl, _, rfl, ?_⟩
        by_cases c : a.reverse[i] < b.reverse[i]
        · rw [if_pos c] at q2
          exact ifT (decide_eq_true c) ⟨_, rfl, q2⟩
        · rw [if_neg c] at q2
          exact ifF (decide_eq_false c) q2
    · rintro σ H2 ⟨rfl, hc, u1, u2, u3, rfl⟩
      rw [Int.toNat_natCast] at hc
      have ew := ordW_end (a := a) (b := b) (by omega)
      have q2 := q H2 (Same.refl H2)
      dsimp only at q2
      rw [ew] at q2
      refine ⟨_, rfl, _, _, rfl, .inr hx, _, rfl, _, _, rfl, .inr hy, rfl, _, rfl, ?_⟩
      rw [la, lb]
      by_cases c : a.length = b.length
      · rw [if_pos c] at q2
        exact ifT (decide_eq_true (by rw [c])) q2
      · rw [if_neg c] at q2
        refine ifF (decide_eq_false fun z => c (by injection z with z; omega)) ⟨_, rfl, _, _, rfl, .inr hx, _, rfl, _, _, rfl, .inr hy, _, _, rfl, rfl, _, rfl, ?_⟩
        rw [la, lb]
        by_cases d : a.length < b.length
        · rw [if_pos d] at q2
          exact ifT (decide_eq_true (by omega)) ⟨_, rfl, q2⟩
        · rw [if_neg d] at q2
          exact ifF (decide_eq_false (by omega)) q2
theorem ok__law_wd_is_end (T : Txt K mg) : FnOk P w K mg base CX0 1 T.a__law_wd_is_end T.d__law_wd_is_end ["end", "word"] (sp_pair K fun a b => .bl (decide (cpl a.reverse b.reverse = a.length))) := by
  refine T.F__law_wd_is_end.ok sc__law_wd_is_end (fun vs H Q E h => ?_) (fun cdv A outer s H vs Q E hr h => ?_)
  · obtain ⟨v, u, a, b, rfl, _⟩ := h
    rfl
  · obtain ⟨v, u, a, b, rfl, ha, hb, za, zb, q⟩ := h
    refine ⟨_, (pss_one (ps_ret (pe_and (pe_cmpR op_le (pe_callB call_len_seq rfl T.n_len (by decide +kernel) (pa_cons (pv 0) pa_nil)) (pe_callB call_len_seq rfl T.n_len (by decide +kernel) (pa_cons (pv 1) pa_nil)) (nomark _)) (pe_one (pe_cmpR (op_eqD hr.units) (pe_slice sl_tupU (pv 1) (po_some (pe_op op_sub (pe_callB call_len_seq rfl T.n_len (by decide +kernel) (pa_cons (pv 1) pa_nil)) (pe_callB call_len_seq rfl T.n_len (by decide +kernel) (pa_cons (pv 0) pa_nil)))) po_none) (pv 0) (nomark _)))))), ?_⟩
    obtain ⟨x, rfl, hx⟩ := ha
    obtain ⟨y, rfl, hy⟩ := hb
    dsimp only at q
    rw [end_iff] at q
    have la : (a.map V.int).length = a.length := List.length_map _
    have lb : (b.map V.int).length = b.length := List.length_map _
    refine ⟨_, rfl, _, _, rfl, .inr hx, _, rfl, _, _, rfl, .inr hy, _, _, rfl, rfl, ?_⟩
    rw [la, lb]
    by_cases c : a.length ≤ b.length
    · rw [decide_eq_true c, Bool.true_and] at q
      refine ⟨_, rfl, ifT (decide_eq_true (by omega)) ⟨_, rfl, _, rfl, _, _, rfl, .inr hy, _, rfl, _, _, rfl, .inr hx, _, _, rfl, rfl, ?_⟩⟩
      refine ⟨_, rfl, y, _, rfl, hy, fun H2 p s2 hp => ?_⟩
      rw [la, lb, cut_from b (by omega)] at hp
      have e : ((b.length : Int) - (a.length : Int)).toNat = b.length - a.length := by omega
      rw [e] at hp
      have ha2 : IsW K H2 (.ref x) a := ⟨x, rfl, Same.sqt s2 hx⟩
      have hp2 : IsW K H2 (.ref p) (b.drop (b.length - a.length)) := ⟨p, rfl, hp⟩
      refine ⟨_, rfl, _, _, hp2.dp, ha2.dp, shaped_tup _, shaped_tup a, ?_⟩
      rw [eqv_tup]
      exact q H2 s2
    · rw [decide_eq_false c, Bool.false_and] at q
      exact ⟨_, rfl, ifF (decide_eq_false (by omega)) (q H (Same.refl H))⟩
theorem ok__law_wd_common (T : Txt K mg) : FnOk P w K mg base CX0 1 T.a__law_wd_common T.d__law_wd_common ["one", "other"] (sp_pair K fun a b => .int (cpl a.reverse b.reverse)) := by
  refine T.F__law_wd_common.ok sc__law_wd_common (fun vs H Q E h => ?_) (fun cdv A outer s H vs Q E hr h => ?_)
  · obtain ⟨v, u, a, b, rfl, _⟩ := h
    rfl
  · obtain ⟨v, u, a, b, rfl, ⟨x, rfl, hx⟩, ⟨y, rfl, hy⟩, za, zb, q⟩ := h
    refine ⟨_, (pss_cons (ps_set (i := 2) sc__law_wd_common.nd rfl (Or.inl rfl) pe_int) (pss_cons (ps_for PassesOwn.never rfl (pi_range1 rfl T.n_range (pa_cons (pe_callB (call_min2 rfl) rfl T.n_min (by decide +kernel) (pa_cons (pe_callB call_len_seq rfl T.n_len (by decide +kernel) (pa_cons (pv 0) pa_nil)) (pa_cons (pe_callB call_len_seq rfl T.n_len (by decide +kernel) (pa_cons (pv 1) pa_nil)) pa_nil))) pa_nil)) (pg_name (i := 3) sc__law_wd_common.nd rfl (Or.inl rfl)) (pss_cons (ps_if (pt_cmpR op_ne (pe_ix ix_tup (pv 0) (pe_op op_sub (pe_op op_sub (pe_callB call_len_seq rfl T.n_len (by decide +kernel) (pa_cons (pv 0) pa_nil)) pe_int) (pv 3)) (fun _ _ => rfl)) (pe_ix ix_tup (pv 1) (pe_op op_sub (pe_op op_sub (pe_callB call_len_seq rfl T.n_len (by decide +kernel) (pa_cons (pv 1) pa_nil)) pe_int) (pv 3)) (fun _ _ => rfl)) (nomark _)) (pss_one ps_break) pss_nil) (pss_one (ps_set (i := 2) sc__law_wd_common.nd rfl (Or.inl rfl) (pe_op op_add (pv 2) pe_int))))) (pss_one (ps_ret (pv 2))))), ?_⟩
    have la : (a.map V.int).length = a.length := List.length_map _
    have lb : (b.map V.int).length = b.length := List.length_map _
    have cl := cpl_le a.reverse b.reverse
    rw [List.length_reverse, List.length_reverse] at cl
    refine ⟨_, rfl, _, _, rfl, .inr hx, _, rfl, _, _, rfl, .inr hy, _, _, rfl, ?_⟩
    rw [la, lb]
    have em : (if (b.length : Int) < (a.length : Int) then (b.length : Int) else (a.length : Int)) = ((min a.length b.length : Nat) : Int) := by split <;> omega
    rw [em]
    refine ⟨_, rfl, by omega, by omega, for_range (fun i σ H2 => H2 = H ∧ i ≤ cpl a.reverse b.reverse ∧ ∃ u3, σ = [some (.ref x), some (.ref y), some (.int i), u3]) ⟨rfl, Nat.zero_le _, _, rfl⟩ ?_ ?_⟩
    · rintro i σ H2 hi ⟨rfl, hc, u3, rfl⟩
      rw [Int.toNat_natCast] at hi
      have ia : i < a.length := by omega
      have ib : i < b.length := by omega
      have ea := from_end a i ia
      have eb := from_end b i ib
      have ra : i < a.reverse.length := by rw [List.length_reverse]; exact ia
      have rb : i < b.reverse.length := by rw [List.length_reverse]; exact ib
      rw [List.getElem?_eq_getElem ra] at ea
      rw [List.getElem?_eq_getElem rb] at eb
      refine ⟨_, rfl, _, rfl, _, _, rfl, .inr hx, _, _, rfl, rfl, _, rfl, _, _, rfl, rfl, x, _, _, _, rfl, rfl, hx, at_int (by rw [la]; omega) (by rw [la, Int.zero_add]; exact ea), ?_⟩
      refine ⟨_, rfl, _, rfl, _, _, rfl, .inr hy, _, _, rfl, rfl, _, rfl, _, _, rfl, rfl, y, _, _, _, rfl, rfl, hy, at_int (by rw [lb]; omega) (by rw [lb, Int.zero_add]; exact eb), ?_⟩
      refine ⟨rfl, _, rfl, ?_⟩
      by_cases d : a.reverse[i] = b.reverse[i]
      · refine ifF (neF (by rw [d])) ⟨_, rfl, _, _, rfl, rfl, rfl, ?_, _, rfl⟩
        refine Nat.lt_of_le_of_ne hc fun z => ?_
        have n := cpl_ne a.reverse b.reverse (by rw [List.length_reverse, List.length_reverse]; omega)
        rw [← z, List.getElem?_eq_getElem ra, List.getElem?_eq_getElem rb, d] at n
        exact n rfl
      · refine ifT (neT (fun z => d (by injection z))) ?_
        have e : cpl a.reverse b.reverse = i := by
          refine Nat.le_antisymm (Nat.le_of_not_lt fun z => ?_) hc
          have n := cpl_at _ _ _ z
          rw [List.getElem?_eq_getElem ra, List.getElem?_eq_getElem rb] at n
          exact d (Option.some.inj n)
        have q2 := q H2 (Same.refl H2)
        dsimp only at q2
        rw [e] at q2
        exact ⟨_, rfl, q2⟩
    · rintro σ H2 ⟨rfl, hc, u3, rfl⟩
      rw [Int.toNat_natCast] at hc
      have e : cpl a.reverse b.reverse = min a.length b.length := by omega
      have q2 := q H2 (Same.refl H2)
      dsimp only at q2
      rw [e] at q2
      exact ⟨_, rfl, q2⟩
end
end K00
/-! K00h -/
set_option Elab.async false
set_option linter.all false
set_option maxRecDepth 100000
set_option maxHeartbeats 2000000
namespace K00
open PySem PySem.Spec PyProof.Rows L2 PpSet RL
def sp_put (K : PySem.W.Frag) : Sp := fun vs H Q _ => ∃ (a : Addr) (v : V) (xs : List V) (wss : List (List Int)) (ws : List Int), vs = [.ref a, v] ∧ H a = some (.lst xs) ∧ IsWs K H xs wss ∧ IsW K H v ws ∧ wss.length ≤ 100 ∧ (∀ x ∈ wss, x.length ≤ 1000) ∧ ws.length ≤ 1000 ∧
  (wss.map List.reverse).Pairwise (· < ·) ∧ ∀ H' p ys out, Same H H' → H' p = some (.lst ys) → IsWs K H' ys out → (out.map List.reverse).Pairwise (· < ·) → (∀ x, x ∈ out ↔ x ∈ wss ∨ x = ws) → out.length ≤ wss.length + 1 → Q (.ref p) H'
def sp_srt (K : PySem.W.Frag) : Sp := fun vs H Q _ => ∃ (a : Addr) (xs : List V) (wss : List (List Int)), vs = [.ref a] ∧ H a = some (.lst xs) ∧ IsWs K H xs wss ∧ wss.length ≤ 100 ∧ (∀ x ∈ wss, x.length ≤ 1000) ∧
  ∀ H' p ys out, Same H H' → H' p = some (.lst ys) → IsWs K H' ys out → (out.map List.reverse).Pairwise (· < ·) → (∀ x, x ∈ out ↔ x ∈ wss) → Q (.ref p) H'
theorem IsWs.take {K : PySem.W.Frag} {H : Hp} : ∀ {vs ks} (n : Nat), IsWs K H vs ks → IsWs K H (vs.take n) (ks.take n)
  | _, _, 0, _ => .nil
  | _, _, _ + 1, .nil => .nil
  | _, _, n + 1, .cons h t => .cons h (IsWs.take n t)
theorem IsWs.drop {K : PySem.W.Frag} {H : Hp} : ∀ {vs ks} (n : Nat), IsWs K H vs ks → IsWs K H (vs.drop n) (ks.drop n)
  | _, _, 0, h => h
  | _, _, _ + 1, .nil => .nil
  | _, _, n + 1, .cons h t => IsWs.drop n t
theorem IsWs.app {K : PySem.W.Frag} {H : Hp} : ∀ {vs ks us ls}, IsWs K H vs ks → IsWs K H us ls → IsWs K H (vs ++ us) (ks ++ ls)
  | _, _, _, _, .nil, g => g
  | _, _, _, _, .cons h t, g => .cons h (IsWs.app t g)
theorem cutV_from (k : List V) {i : Nat} (h : i ≤ k.length) : cutV k (some (i : Int)) none = k.drop i := by
  unfold cutV
  have e1 : HT.sIx k.length 0 (some (i : Int)) = i := by
    rw [HT.sIx_nat]
    omega
  have e2 : HT.sIx k.length k.length none = k.length := rfl
  rw [e1, e2]
  exact List.take_of_length_le (by rw [List.length_drop]; omega)
theorem cutV_to (k : List V) {i : Nat} (h : i ≤ k.length) : cutV k none (some (i : Int)) = k.take i := by
  unfold cutV
  have e1 : HT.sIx k.length k.length (some (i : Int)) = i := by
    rw [HT.sIx_nat]
    omega
  have e2 : HT.sIx k.length 0 none = 0 := rfl
  rw [e1, e2]
  simp
theorem seq_mid2 {t1 t2 t3 : TS} {D : Ends} {σ : L2.St} {H : Hp} (Mid : L2.St → Hp → Prop) (h2 : ∀ σ H, Mid σ H → t3 D σ H) (h1 : ∀ nx : L2.St → Hp → Prop, (∀ σ H, Mid σ H → nx σ H) → tSeq t1 t2 { D with nx := nx } σ H) : tSeq t1 (tSeq t2 t3) D σ H := h1 _ h2
theorem seq_mid {t2 t3 : TS} {D : Ends} {σ : L2.St} {H : Hp} (Mid : L2.St → Hp → Prop) (h2 : ∀ σ H, Mid σ H → t3 D σ H) (h1 : ∀ nx : L2.St → Hp → Prop, (∀ σ H, Mid σ H → nx σ H) → t2 { D with nx := nx } σ H) : tSeq t2 t3 D σ H := h1 _ h2
section
variable {P : Program} {w : World} {K : PySem.W.Frag} {mg : Str → Option Value} {base : Heap}
theorem ok__law_wd_put_in (T : Txt K mg) : FnOk P w K mg base CX0 2 T.a__law_wd_put_in T.d__law_wd_put_in ["words", "word"] (sp_put K) := by
  refine T.F__law_wd_put_in.ok sc__law_wd_put_in (fun vs H Q E h => ?_) (fun cdv A outer s H vs Q E hr h => ?_)
  · obtain ⟨a, v, xs, wss, ws, rfl, _⟩ := h
    rfl
  · obtain ⟨a, v, xs, wss, ws, rfl, ha, hx, hv, hz, hzs, hzw, hr', q⟩ := h
    refine ⟨_, (pss_cons (ps_set (i := 2) sc__law_wd_put_in.nd rfl (Or.inl rfl) pe_int) (pss_cons (ps_while PassesOwn.never (PW.pt (pw_and (pt_cmpR op_lt (pv 2) (pe_callB call_len_seq rfl T.n_len (by decide +kernel) (pa_cons (pv 0) pa_nil)) (nomark _)) (pw_and1 (pt_cmpR op_lt (pe_call (ok__law_wd_compared T) (hr.mono (by decide)) rfl T.m__law_wd_compared T.F__law_wd_compared.kp T.b__law_wd_compared .nil pass0 (pa_cons (pe_ix ix_list (pv 0) (pv 2) (fun _ _ => rfl)) (pa_cons (pv 1) pa_nil))) pe_int (nomark _))))) (pss_one (ps_set (i := 2) sc__law_wd_put_in.nd rfl (Or.inl rfl) (pe_op op_add (pv 2) pe_int)))) (pss_cons (ps_if (PW.pt (pw_and (pt_cmpR op_lt (pv 2) (pe_callB call_len_seq rfl T.n_len (by decide +kernel) (pa_cons (pv 0) pa_nil)) (nomark _)) (pw_and1 (pt_cmpR (op_eqD hr.units) (pe_ix ix_list (pv 0) (pv 2) (fun _ _ => rfl)) (pv 1) (nomark _))))) (pss_one (ps_ret (pv 0))) pss_nil) (pss_one (ps_ret (pe_op op_catL (pe_op op_catL (pe_slice sl_lstU (pv 0) po_none (po_some (pv 2))) (pe_lstS (pa_cons (pv 1) pa_nil))) (pe_slice sl_lstU (pv 0) (po_some (pv 2)) po_none))))))), ?_⟩
    have hlen := hx.length
    refine seq_mid2 (fun σ H2 => Same H H2 ∧ ∃ i : Nat, i ≤ wss.length ∧ (∀ j x, j < i → wss[j]? = some x → x.reverse < ws.reverse) ∧ (∀ x, wss[i]? = some x → ¬ ordW x ws < 0) ∧ σ = [some (.ref a), some v, some (.int (i : Int))]) ?_ fun nx hnx => ?_
    · rintro σ H2 ⟨s2, i, hi, hlow, hhigh, rfl⟩
      have ha2 := s2 _ _ ha
      have hx2 := hx.same s2
      have hv2 := hv.same s2
      -- the word is put in
      have put : (∀ x, wss[i]? = some x → x ≠ ws) → ∀ H3, Same H H3 → ∀ H4 p, Same H3 H4 → H4 p = some (.lst (xs.take i ++ [v] ++ xs.drop i)) → Q (.ref p) H4 := fun hne H3 s3 H4 p s4 hp => by
        have s34 := Same.trans s3 s4
        refine q H4 p _ (wss.take i ++ [ws] ++ wss.drop i) s34 hp (((hx.same s34).take i).app (.cons (hv.same s34) .nil) |>.app ((hx.same s34).drop i)) ?_ (put_mem wss ws i) ?_
        · rw [List.map_append, List.map_append, List.map_take, List.map_drop]
          refine put_rise hr' (fun j x hj e => ?_) fun x e => ?_
          · rw [List.getElem?_map] at e
            obtain ⟨y, ey, rfl⟩ := Option.map_eq_some_iff.mp e
            exact hlow j y hj ey
          · rw [List.getElem?_map] at e
            obtain ⟨y, ey, rfl⟩ := Option.map_eq_some_iff.mp e
            exact ordW_ge (hhigh y ey) (hne y ey)
        · simp
          omega
      refine ⟨_, rfl, _, rfl, _, _, rfl, .inl (SqL.of ha2), _, _, rfl, rfl, _, rfl, ?_⟩
      by_cases c : i < wss.length
      · refine ifT (decide_eq_true (by omega)) ?_
        obtain ⟨vx, evx⟩ : ∃ vx, xs[i]? = some vx := ⟨_, List.getElem?_eq_getElem (by omega)⟩
        obtain ⟨x, ex, hvx⟩ := hx2.at evx
        refine ⟨_, rfl, _, rfl, a, _, _, vx, rfl, rfl, SqL.of ha2, at_v (by omega) (by rw [Int.toNat_natCast]; exact evx), ?_⟩
        refine ⟨_, rfl, _, _, hvx.dp, hv2.dp, shaped_tup _, shaped_tup _, _, rfl, ?_⟩
        rw [eqv_tup]
        by_cases dd : x = ws
        · refine ifT (decide_eq_true dd) ⟨_, rfl, q H2 a xs wss s2 ha2 hx2 hr' (fun y => ⟨.inl, fun z => z.elim id fun z => ?_⟩) (by omega)⟩
          rw [z, ← dd]
          exact List.mem_of_getElem? ex
        · refine ifF (decide_eq_false dd) ?_
          refine ⟨_, rfl, _, rfl, _, rfl, a, xs, rfl, SqL.of ha2, fun H3 p s3 _ hp => ?_⟩
          rw [cutV_to xs (by omega)] at hp
          refine ⟨_, rfl, by show 1 ≤ sizeLine; decide, fun H4 l s4 _ hl => ⟨p, l, _, _, rfl, rfl, s4 _ _ hp, hl, ?_, fun H5 c s5 _ hc => ?_⟩⟩
          · rw [sizeLine_eq, List.length_take]
            simp only [List.length_cons, List.length_nil]
            omega
          refine ⟨_, rfl, _, rfl, _, rfl, a, xs, rfl, SqL.of (s5 _ _ (s4 _ _ (s3 _ _ ha2))), fun H6 d s6 _ hd => ?_⟩
          rw [cutV_from xs (by omega)] at hd
          refine ⟨c, d, _, _, rfl, rfl, s6 _ _ hc, hd, ?_, fun H7 e s7 _ he => put (fun y ey => ?_) H2 s2 H7 e (Same.trans s3 (Same.trans s4 (Same.trans s5 (Same.trans s6 s7)))) he⟩
          · rw [sizeLine_eq, List.length_append, List.length_take, List.length_drop]
            simp only [List.length_cons, List.length_nil]
            omega
          · rw [ex] at ey
            cases ey
            exact dd
      · refine ifF (decide_eq_false (by omega)) ?_
        refine ⟨_, rfl, _, rfl, _, rfl, a, xs, rfl, SqL.of ha2, fun H3 p s3 _ hp => ?_⟩
        rw [cutV_to xs (by omega)] at hp
        refine ⟨_, rfl, by show 1 ≤ sizeLine; decide, fun H4 l s4 _ hl => ⟨p, l, _, _, rfl, rfl, s4 _ _ hp, hl, ?_, fun H5 c s5 _ hc => ?_⟩⟩
        · rw [sizeLine_eq, List.length_take]
          simp only [List.length_cons, List.length_nil]
          omega
        refine ⟨_, rfl, _, rfl, _, rfl, a, xs, rfl, SqL.of (s5 _ _ (s4 _ _ (s3 _ _ ha2))), fun H6 d s6 _ hd => ?_⟩
        rw [cutV_from xs (by omega)] at hd
        refine ⟨c, d, _, _, rfl, rfl, s6 _ _ hc, hd, ?_, fun H7 e s7 _ he => put (fun y ey => ?_) H2 s2 H7 e (Same.trans s3 (Same.trans s4 (Same.trans s5 (Same.trans s6 s7)))) he⟩
        · rw [sizeLine_eq, List.length_append, List.length_take, List.length_drop]
          simp only [List.length_cons, List.length_nil]
          omega
        · rw [List.getElem?_eq_none (by omega)] at ey
          cases ey
    · refine ⟨fun m σ H2 => Same H H2 ∧ ∃ i : Nat, i ≤ wss.length ∧ m = wss.length - i ∧ (∀ j x, j < i → wss[j]? = some x → x.reverse < ws.reverse) ∧ σ = [some (.ref a), some v, some (.int (i : Int))], ⟨_, Same.refl H, 0, Nat.zero_le _, rfl, fun j x hj => absurd hj (Nat.not_lt_zero _), rfl⟩, ?_⟩
      rintro m σ H2 ⟨s2, i, hi, rfl, hlow, rfl⟩
      have ha2 := s2 _ _ ha
      have hx2 := hx.same s2
      have hv2 := hv.same s2
      refine ⟨_, rfl, _, rfl, _, _, rfl, .inl (SqL.of ha2), _, _, rfl, rfl, _, rfl, ?_⟩
      by_cases c : i < wss.length
      · refine ifT (decide_eq_true (by omega)) ?_
        obtain ⟨vx, evx⟩ : ∃ vx, xs[i]? = some vx := ⟨_, List.getElem?_eq_getElem (by omega)⟩
        obtain ⟨x, ex, hvx⟩ := hx2.at evx
        refine ⟨_, rfl, _, rfl, a, _, _, vx, rfl, rfl, SqL.of ha2, at_v (by omega) (by rw [Int.toNat_natCast]; exact evx), ?_⟩
        refine ⟨_, rfl, _, _, x, ws, rfl, hvx, hv2, hzs x (List.mem_of_getElem? ex), hzw, fun H3 s3 => ⟨_, _, rfl, rfl, _, rfl, ?_⟩⟩
        have s23 := Same.trans s2 s3
        by_cases d : ordW x ws < 0
        · refine ifT (decide_eq_true d) ⟨_, fun σ' H' z => z, _, rfl, _, _, rfl, rfl, wss.length - (i + 1), by omega, s23, i + 1, c, rfl, fun j y hj ey => ?_, rfl⟩
          rcases Nat.lt_succ_iff_lt_or_eq.mp hj with z | z
          · exact hlow j y z ey
          · subst z
            rw [ex] at ey
            cases ey
            exact ordW_lt.mp d
        · exact ifF (decide_eq_false d) (hnx _ _ ⟨s23, i, hi, hlow, fun y ey => (by rw [ex] at ey; cases ey; exact d), rfl⟩)
      · exact ifF (decide_eq_false (by omega)) (hnx _ _ ⟨s2, i, hi, hlow, fun y ey => (by rw [List.getElem?_eq_none (by omega)] at ey; cases ey), rfl⟩)
theorem ok__law_wd_sorted (T : Txt K mg) : FnOk P w K mg base CX0 3 T.a__law_wd_sorted T.d__law_wd_sorted ["words"] (sp_srt K) := by
  refine T.F__law_wd_sorted.ok sc__law_wd_sorted (fun vs H Q E h => ?_) (fun cdv A outer s H vs Q E hr h => ?_)
  · obtain ⟨a, xs, wss, rfl, _⟩ := h
    rfl
  · obtain ⟨a, xs, wss, rfl, ha, hx, hz, hzs, q⟩ := h
    refine ⟨_, (pss_cons (ps_set (i := 1) sc__law_wd_sorted.nd rfl (Or.inl rfl) (pe_lstS pa_nil)) (pss_cons (ps_for PassesOwn.never rfl (pi_list (pv 0)) (pg_name (i := 2) sc__law_wd_sorted.nd rfl (Or.inl rfl)) (pss_one (ps_set (i := 1) sc__law_wd_sorted.nd rfl (Or.inl rfl) (pe_call (ok__law_wd_put_in T) (hr.mono (by decide)) rfl T.m__law_wd_put_in T.F__law_wd_put_in.kp T.b__law_wd_put_in .nil pass0 (pa_cons (pv 1) (pa_cons (pv 2) pa_nil)))))) (pss_one (ps_ret (pv 1))))), ?_⟩
    have hlen := hx.length
    refine ⟨by show 0 ≤ sizeLine; decide, fun H1 p s1 _ hp => ?_⟩
    refine ⟨_, rfl, a, rfl, ⟨_, SqL.of (s1 _ _ ha)⟩, for_list (xs := xs) (fun i σ H2 => Same H H2 ∧ ∃ (p : Addr) (ys : List V) (out : List (List Int)) (u : Option V), H2 p = some (.lst ys) ∧ IsWs K H2 ys out ∧ (out.map List.reverse).Pairwise (· < ·) ∧ (∀ x, x ∈ out ↔ x ∈ wss.take i) ∧ out.length ≤ i ∧ σ = [some (.ref a), some (.ref p), u])
      ⟨s1, p, [], [], _, hp, .nil, .nil, fun x => by simp, Nat.le_refl _, rfl⟩ (fun i σ H2 _ p => SqL.of (p.1 _ _ ha)) ?_ ?_⟩
    · rintro i x σ H2 hi ⟨s2, p, ys, out, u, hp2, hys, hr2, hm, hl, rfl⟩
      obtain ⟨ws, ew, hws⟩ := hx.at hi
      have hi2 := lt_at ew
      have hsub : ∀ x ∈ out, x.length ≤ 1000 := fun x hx => hzs x (List.mem_of_mem_take ((hm x).mp hx))
      refine ⟨_, rfl, _, rfl, p, x, ys, out, ws, rfl, hp2, hys, hws.same s2, by omega, hsub, hzs ws (List.mem_of_getElem? ew), hr2, fun H3 p3 ys3 out3 s3 hp3 hys3 hr3 hm3 hl3 => ⟨Same.trans s2 s3, p3, ys3, out3, _, hp3, hys3, hr3, fun y => ?_, by omega, rfl⟩⟩
      rw [hm3, hm, take_more ew, List.mem_append, List.mem_singleton]
    · rintro σ H2 ⟨s2, p, ys, out, u, hp2, hys, hr2, hm, hl, rfl⟩
      exact ⟨_, rfl, q H2 p ys out s2 hp2 hys hr2 fun y => by rw [hm, List.take_of_length_le (by omega)]⟩
end
end K00
/-! M5 -/
set_option linter.all false
set_option maxRecDepth 100000
namespace K00
open RL
theorem combos_down {k : Int} {n i : Nat} (h : (k, n) ∈ combos) (hi : i ≤ n) : (k, i) ∈ combos := by
  have q : combos.all (fun p => (List.range (p.2 + 1)).all fun i => decide ((p.1, i) ∈ combos)) = true := by decide +kernel
  exact of_decide_eq_true (List.all_eq_true.mp (List.all_eq_true.mp q _ h) i (List.mem_range.mpr (Nat.lt_succ_of_le hi)))
theorem combos_bd {k : Int} {n : Nat} (h : (k, n) ∈ combos) : 1 ≤ k ∧ k ≤ 4 ∧ n ≤ 8 := by
  have q : combos.all (fun p => decide (1 ≤ p.1) && (decide (p.1 ≤ 4) && decide (p.2 ≤ 8))) = true := by decide +kernel
  have r := List.all_eq_true.mp q _ h
  simp only [Bool.and_eq_true, decide_eq_true_eq] at r
  exact r
theorem flat_le {α β : Type} {g : α → List β} {c : Nat} (h : ∀ w, (g w).length ≤ c) : ∀ l : List α, (l.flatMap g).length ≤ l.length * c
  | [] => by simp
  | x :: l => by
    rw [List.flatMap_cons, List.length_append, List.length_cons, Nat.succ_mul]
    have := flat_le h l
    have := h x
    omega
theorem rng_len (k : Int) : (rng k).length = k.toNat := by simp [rng]
theorem rng_eq (k : Int) (f : Int → List Int) : (List.range k.toNat).map (fun j => f ((j : Nat) : Int)) = (rng k).map f := by
  unfold rng
  rw [List.map_map]
  rfl
end K00
/-! K00i -/
set_option Elab.async false
set_option linter.all false
set_option maxRecDepth 100000
set_option maxHeartbeats 2000000
namespace K00
open PySem PySem.Spec PyProof.Rows L2 PpSet RL
def sp_wds (K : PySem.W.Frag) (f : Int → Nat → List (List Int)) : Sp := fun vs H Q _ => ∃ (k : Int) (n : Nat), vs = [.int k, .int n] ∧ (k, n) ∈ combos ∧ ∀ H' p ys, Same H H' → H p = none → H' p = some (.lst ys) → IsWs K H' ys (f k n) → Q (.ref p) H'
theorem each_ws {α : Type} {K : PySem.W.Frag} {H : Hp} {g : α → List Int} {js : List α} {ys : List V} (h : Each (fun j y => IsW K H y (g j)) js ys) : IsWs K H ys (js.map g) := by
  induction h with
  | nil => exact .nil
  | cons r _ ih => exact .cons r ih
section
variable {P : Program} {w : World} {K : PySem.W.Frag} {mg : Str → Option Value} {base : Heap}
theorem ok__law_wd_of (T : Txt K mg) : FnOk P w K mg base CX0 1 T.a__law_wd_of T.d__law_wd_of ["letters", "length"] (sp_wds K wdOf) := by
  refine T.F__law_wd_of.ok sc__law_wd_of (fun vs H Q E h => ?_) (fun cdv A outer s H vs Q E hr h => ?_)
  · obtain ⟨k, n, rfl, _⟩ := h
    rfl
  · obtain ⟨k, n, rfl, hc, q⟩ := h
    refine ⟨_, (pss_cons (ps_set (i := 2) sc__law_wd_of.nd rfl (Or.inl rfl) (pe_lstS (pa_cons (pe_tupK (K := K) rfl pa_nil) pa_nil))) (pss_cons (ps_for PassesOwn.never rfl (pi_range1 rfl T.n_range (pa_cons (pv 1) pa_nil)) (pg_name (i := 3) sc__law_wd_of.nd rfl (Or.inl rfl)) (pss_cons (ps_set (i := 4) sc__law_wd_of.nd rfl (Or.inl rfl) (pe_lstS pa_nil)) (pss_cons (ps_for PassesOwn.never rfl (pi_list (pv 2)) (pg_name (i := 5) sc__law_wd_of.nd rfl (Or.inr rfl)) (pss_one (ps_expr (pe_bm PySem.F.plainAttrs_list PySem.F.slot_list_extend PySem.F.type_list_extend mt_extend (pv 4) (pa_cons (pe_lc (own := [("letter", 6)]) rfl sc__law_wd_of.nd (pi_range1 rfl T.n_range (pa_cons (pv 0) pa_nil)) (blkOk_by (own := [("letter", 6)]) (N := ["letters", "length", "found", "lap", "longer", "word", "letter"]) (sc := defScope s__law_wd_of) (by decide +kernel)) (fun _ _ _ _ _ => (pg_name (i := 6) sc__law_wd_of.nd rfl (Or.inl rfl))) (fun _ _ _ _ _ => pts_nil) (fun _ _ _ _ _ => (pe_op (op_catK (K := K) rfl) (pe_tupK (K := K) rfl (pa_cons (pv 6) pa_nil)) (pv 5)))) pa_nil))))) (pss_one (ps_set (i := 2) sc__law_wd_of.nd rfl (Or.inl rfl) (pe_callTy call_lstS rfl T.n_list (by decide +kernel) (pa_cons (pv 4) pa_nil))))))) (pss_one (ps_ret (pv 2))))), ?_⟩
    obtain ⟨k1, k4, n8⟩ := combos_bd hc
    refine ⟨by show 0 ≤ sizeLine; decide, fun H0 o s0 ho => ⟨by show 1 ≤ sizeLine; decide, fun H1 p s1 hp0 hp => ?_⟩⟩
    have hw0 : IsWs K H1 [.ref o] (wdOf k 0) := .cons ⟨o, rfl, Same.sqt s1 ho⟩ .nil
    have np : H p = none := by
      cases e : H p with
      | none => rfl
      | some u => rw [s0 _ _ e] at hp0; cases hp0
    refine ⟨_, rfl, _, rfl, by omega, by omega, for_range (fun i σ H2 => Same H H2 ∧ ∃ (p : Addr) (ys : List V) (u1 u2 u3 u4 : Option V), H p = none ∧ H2 p = some (.lst ys) ∧ IsWs K H2 ys (wdOf k i) ∧ σ = [some (.int k), some (.int (n : Int)), some (.ref p), u1, u2, u3, u4])
      ⟨Same.trans s0 s1, p, _, _, _, _, _, np, hp, hw0, rfl⟩ ?_ ?_⟩
    · rintro i σ H2 hi ⟨s2, p, ys, u1, u2, u3, u4, np, hp, hys, rfl⟩
      rw [Int.toNat_natCast] at hi
      have hl := hys.length
      have ok := of_ok (combos_down hc (Nat.le_of_lt hi))
      refine ⟨by show 0 ≤ sizeLine; decide, fun H3 r s3 hr0 hr => ?_⟩
      refine ⟨_, rfl, p, rfl, ⟨_, SqL.of (s3 _ _ hp)⟩, for_list (xs := ys) (fun j σ H4 => Same H2 H4 ∧ ∃ (zs : List V) (u3 u4 : Option V), H4 r = some (.lst zs) ∧ IsWs K H4 zs (((wdOf k i).take j).flatMap fun w => (rng k).map fun x => x :: w) ∧ σ = [some (.int k), some (.int (n : Int)), some (.ref p), some (.int (0 + (i : Int))), some (.ref r), u3, u4])
        ⟨s3, [], _, _, hr, .nil, rfl⟩ (fun j σ H4 _ z => SqL.of (z.1 _ _ hp)) ?_ ?_⟩
      · rintro j x σ H4 hj ⟨s4, zs, u3, u4, hr4, hzs, rfl⟩
        obtain ⟨ws, ew, hws⟩ := (hys.same s4).at hj
        have hws1 : ws.length ≤ 8 := by have := (ok.okw ws (List.mem_of_getElem? ew)).1; omega
        have hzl : zs.length ≤ 4000 := by
          rw [hzs.length]
          have h1 := flat_le (g := fun w => (rng k).map fun x => x :: w) (c := 4) (fun w => by rw [List.length_map, rng_len]; omega) ((wdOf k i).take j)
          have h2 := ok.len
          rw [List.length_take] at h1
          have h3 : min j (wdOf k i).length * 4 ≤ 1000 * 4 := Nat.mul_le_mul_right 4 (by omega)
          omega
        refine ⟨_, rfl, .inl ⟨rfl, _, SqL.of hr4⟩, _, rfl, k, rfl, by omega, by omega, ?_⟩
        refine lc_rngA (i := 6) (fun H j y => IsW K H y ((j : Int) :: ws)) (fun H H' x y e z => z.stay e) (by rw [sizeLine_eq]; omega) (fun jj hjj H5 Q5 s5 q5 => ?_) fun H5 b ys5 s5 hb0 hb e5 => ?_
        · obtain ⟨x, rfl, hx⟩ := hws
          refine ⟨_, rfl, by show 1 ≤ sizeLine; decide, fun H6 o6 s6 ho6 => ?_⟩
          refine ⟨_, rfl, o6, x, _, _, rfl, rfl, ho6, Same.sqt (Same.trans s5 s6) hx, ?_, fun H7 d s7 hd => q5 H7 (.ref d) (Same.trans s6 s7) ⟨d, rfl, ?_⟩⟩
          · rw [List.length_map]
            exact size200 (by simp; omega)
          · rw [Int.zero_add] at hd
            exact hd
        · have hr5 := s5 _ _ hr4
          have hl5 := e5.length
          rw [List.length_range] at hl5
          have st : Stay H5 (upd H5 r (.lst (zs ++ ys5))) := stay_lst hr5
          have hz2 : IsWs K (upd H5 r (.lst (zs ++ ys5))) (zs ++ ys5) (((wdOf k i).take (j + 1)).flatMap fun w => (rng k).map fun x => x :: w) := by
            rw [take_more ew, List.flatMap_append]
            refine ((hzs.same s5).stay st).app ?_
            rw [List.flatMap_cons, List.flatMap_nil, List.append_nil, ← rng_eq]
            exact (each_ws e5).stay st
          refine ⟨r, b, zs, ys5, rfl, rfl, hr5, hb, by rw [sizeLine_eq]; omega, same_mut hr0 (Same.trans s4 s5), _, _, _, upd_same, hz2, rfl⟩
      · rintro σ H4 ⟨s4, zs, u3, u4, hr4, hzs, rfl⟩
        rw [List.take_of_length_le (by omega)] at hzs
        refine ⟨_, rfl, r, zs, rfl, .inl (SqL.of hr4), fun H5 b s5 hb0 hb => ⟨Same.trans s2 (Same.trans s4 s5), b, zs, _, _, _, _, ?_, hb, hzs.same s5, rfl⟩⟩
        cases e : H b with
        | none => rfl
        | some u => rw [Same.trans s2 s4 _ _ e] at hb0; cases hb0
    · rintro σ H2 ⟨s2, p, ys, u1, u2, u3, u4, np, hp, hys, rfl⟩
      rw [Int.toNat_natCast] at hys
      exact ⟨_, rfl, q H2 p ys s2 np hp hys⟩
end
end K00
/-! M6 -/
set_option linter.all false
set_option maxRecDepth 100000
namespace K00
open RL PySem PySem.W
/-- a row and a word, as data -/
def keyD (r u : List Int) : PyData := .tuple [.list (r.map .int), .tuple (u.map .int)]
theorem keyD_is (r u : List Int) : keyD r u = Datum.toD ((r, Tup.mk u) : List Int × Tup Int) := rfl
theorem keyD_alike (r u r' u' : List Int) : alike (keyD r u) (keyD r' u') = true := DatumOrd.alike ((r, Tup.mk u) : List Int × Tup Int) (r', Tup.mk u')
theorem listLt_ints : ∀ xs ys : List Int, listLt xs ys = HT.lexLt xs ys
  | [], [] => rfl
  | [], _ :: _ => rfl
  | _ :: _, [] => rfl
  | x :: xs, y :: ys => by
    show (if x = y then listLt xs ys else decide (x < y)) = (if x = y then HT.lexLt xs ys else decide (x < y))
    rw [listLt_ints xs ys]
theorem keyD_lt {r u r' u' : List Int} (h : r < r') : dataLt (keyD r' u') (keyD r u) = false := by
  have e := DatumOrd.lt_eq ((r', Tup.mk u') : List Int × Tup Int) (r, Tup.mk u)
  rw [← keyD_is, ← keyD_is] at e
  rw [e]
  have n : ¬ r' = r := fun z => by
    subst z
    exact lt_ir _ h
  have e2 : DatumOrd.lt ((r', Tup.mk u') : List Int × Tup Int) (r, Tup.mk u) = listLt r' r := if_neg n
  rw [e2, listLt_ints, lexLt_eq]
  exact decide_eq_false fun z => lt_ir r (lt_tr h z)
theorem keyD_depth (r u : List Int) : (keyD r u).depth ≤ 40 := Nat.le_trans (keyD_is r u ▸ Datum.depth_le ((r, Tup.mk u) : List Int × Tup Int)) (by decide)
end K00
/-! K00j -/
set_option Elab.async false
set_option linter.all false
set_option maxRecDepth 100000
set_option maxHeartbeats 2000000
namespace K00
open PySem PySem.Spec PyProof.Rows L2 PpSet RL
def KeyAt (K : PySem.W.Frag) (q : Addr) (n : Nat) (H : Hp) (z : V × List Int) (y : V) : Prop := ∃ t r, y = .ref t ∧ SqT K H t [.ref r, z.1] ∧ r ≠ q ∧ H r = some (.lst ((rowK n z.2).map V.int)) ∧ IsW K H z.1 z.2
theorem KeyAt.same {K : PySem.W.Frag} {q : Addr} {n : Nat} {H H' : Hp} {z : V × List Int} {y : V} (h : KeyAt K q n H z y) (s : Same H H') : KeyAt K q n H' z y := by
  obtain ⟨t, r, e, h1, h2, h3, h4⟩ := h
  exact ⟨t, r, e, Same.sqt s h1, h2, s _ _ h3, h4.same s⟩
theorem KeyAt.mut {K : PySem.W.Frag} {q : Addr} {n : Nat} {H : Hp} {z : V × List Int} {y : V} {xs : List V} {o : HO} (hq : H q = some (.lst xs)) (h : KeyAt K q n H z y) : KeyAt K q n (upd H q o) z y := by
  obtain ⟨t, r, e, h1, h2, h3, h4⟩ := h
  have st : Stay H (upd H q o) := stay_lst hq
  exact ⟨t, r, e, st.sqt h1, h2, by rw [upd_ne h2]; exact h3, h4.stay st⟩
theorem IsWs.zip {K : PySem.W.Frag} {H : Hp} : ∀ {vs ks}, IsWs K H vs ks → ∃ zs : List (V × List Int), vs = zs.map (·.1) ∧ ks = zs.map (·.2) ∧ ∀ z ∈ zs, IsW K H z.1 z.2
  | _, _, .nil => ⟨[], rfl, rfl, fun z hz => by cases hz⟩
  | v :: _, k :: _, .cons h t => by
    obtain ⟨zs, rfl, rfl, hz⟩ := IsWs.zip t
    exact ⟨(v, k) :: zs, rfl, rfl, fun z hm => (List.mem_cons.mp hm).elim (fun e => e ▸ h) (hz z)⟩
theorem isWs_unzip {K : PySem.W.Frag} {H : Hp} : ∀ {zs : List (V × List Int)}, (∀ z ∈ zs, IsW K H z.1 z.2) → IsWs K H (zs.map (·.1)) (zs.map (·.2))
  | [], _ => .nil
  | z :: zs, h => .cons (h z List.mem_cons_self) (isWs_unzip fun y hy => h y (List.mem_cons_of_mem _ hy))
theorem dpAll_ints {K : PySem.W.Frag} {H : Hp} : ∀ k : List Int, DpAll K H (k.map V.int) (k.map .int)
  | [] => .nil
  | n :: k => .cons (.int n) (dpAll_ints k)
theorem KeyAt.dp {K : PySem.W.Frag} {q : Addr} {n : Nat} {H : Hp} {z : V × List Int} {y : V} (h : KeyAt K q n H z y) : Dp K H y (keyD (rowK n z.2) z.2) := by
  obtain ⟨t, r, rfl, h1, h2, h3, h4⟩ := h
  exact .tup h1 (.cons (.lst (SqL.of h3) (dpAll_ints _)) (.cons h4.dp .nil))
theorem each_vd {K : PySem.W.Frag} {q : Addr} {n : Nat} {H : Hp} {zs : List (V × List Int)} {ys : List V} (h : Each (fun z y => KeyAt K q n H z y) zs ys) : ∃ ds : List VD, ys = ds.map (·.1) ∧ ds.map (·.2) = zs.map (fun z => keyD (rowK n z.2) z.2) ∧ ∀ d ∈ ds, Dp K H d.1 d.2 := by
  induction h with
  | nil => exact ⟨[], rfl, rfl, fun d hd => by cases hd⟩
  | cons r _ ih =>
    obtain ⟨ds, rfl, e, hd⟩ := ih
    exact ⟨(_, _) :: ds, rfl, congrArg (_ :: ·) e, fun d hm => (List.mem_cons.mp hm).elim (fun e => e ▸ r.dp) (hd d)⟩
theorem each_at {α β : Type} {R : α → β → Prop} {as : List α} {bs : List β} (h : Each R as bs) : ∀ {i : Nat} {b : β}, bs[i]? = some b → ∃ a, as[i]? = some a ∧ R a b := by
  induction h with
  | nil => intro i b e; simp at e
  | cons r _ ih =>
    intro i b e
    cases i with
    | zero => cases Option.some.inj e; exact ⟨_, rfl, r⟩
    | succ i => exact ih e
def sp_settled (K : PySem.W.Frag) : Sp := fun vs H Q _ => ∃ (k : V) (n : Nat) (a : Addr) (xs : List V) (wss : List (List Int)), vs = [k, .int n, .ref a] ∧ H a = some (.lst xs) ∧ IsWs K H xs wss ∧ n ≤ 8 ∧ wss.length ≤ 1000 ∧ (∀ ws ∈ wss, ws.length ≤ n) ∧ (wss.map (rowK n)).Pairwise (· < ·) ∧
  ∀ H' p ys, Same H H' → H p = none → H' p = some (.lst ys) → IsWs K H' ys wss → Q (.ref p) H'
def plus1 : V → V
  | .int i => .int (i + 1)
  | v => v
section
variable {P : Program} {w : World} {K : PySem.W.Frag} {mg : Str → Option Value} {base : Heap}
theorem ok__law_wd_settled (T : Txt K mg) : FnOk P w K mg base CX0 1 T.a__law_wd_settled T.d__law_wd_settled ["letters", "most", "words"] (sp_settled K) := by
  refine T.F__law_wd_settled.ok sc__law_wd_settled (fun vs H Q E h => ?_) (fun cdv A outer s H vs Q E hr h => ?_)
  · obtain ⟨k, n, a, xs, wss, rfl, _⟩ := h
    rfl
  · obtain ⟨k, n, a, xs, wss, rfl, ha, hx, n8, hz, hzs, hrise, q⟩ := h
    obtain ⟨zs, rfl, rfl, hzz⟩ := hx.zip
    rw [List.length_map] at hz
    refine ⟨_, (pss_cons (ps_set (i := 3) sc__law_wd_settled.nd rfl (Or.inl rfl) (pe_lstS pa_nil)) (pss_cons (ps_for PassesOwn.never rfl (pi_list (pv 2)) (pg_name (i := 4) sc__law_wd_settled.nd rfl (Or.inl rfl)) (pss_cons (ps_set (i := 5) sc__law_wd_settled.nd rfl (Or.inl rfl) (pe_op op_catL (pe_lc (own := [("letter", 6)]) rfl sc__law_wd_settled.nd (pi_tup (pe_revK (K := K) rfl (pv 4))) (blkOk_by (own := [("letter", 6)]) (N := ["letters", "most", "words", "keyed", "word", "row", "letter"]) (sc := defScope s__law_wd_settled) (by decide +kernel)) (fun _ _ _ _ _ => (pg_name (i := 6) sc__law_wd_settled.nd rfl (Or.inl rfl))) (fun _ _ _ _ _ => pts_nil) (fun _ _ _ _ _ => (pe_op op_add (pv 6) pe_int))) (pe_op op_repL (pe_lstS (pa_cons pe_int pa_nil)) (pe_op op_sub (pv 1) (pe_callB call_len_seq rfl T.n_len (by decide +kernel) (pa_cons (pv 4) pa_nil)))))) (pss_one (ps_expr (pe_bm PySem.F.plainAttrs_list PySem.F.slot_list_append PySem.F.type_list_append mt_append (pv 3) (pa_cons (pe_tupK (K := K) rfl (pa_cons (pv 5) (pa_cons (pv 4) pa_nil))) pa_nil)))))) (pss_one (ps_ret (pe_lc (own := [("row", 5), ("word", 4)]) rfl sc__law_wd_settled.nd (pi_list (pe_callB (cr_sortedD hr.units) rfl T.n_sorted (by decide +kernel) (pa_cons (pv 3) pa_nil))) (blkOk_by (own := [("row", 5), ("word", 4)]) (N := ["letters", "most", "words", "keyed", "word", "row", "letter"]) (sc := defScope s__law_wd_settled) (by decide +kernel)) (fun _ _ _ _ _ => (pg_tupK (K := K) (n := 2) rfl rfl (pgs_cons (pg_name (i := 5) sc__law_wd_settled.nd rfl (Or.inl rfl)) (pgs_cons (pg_name (i := 4) sc__law_wd_settled.nd rfl (Or.inl rfl)) pgs_nil)))) (fun _ _ _ _ _ => pts_nil) (fun _ _ _ _ _ => (pv 4))))))), ?_⟩
    refine ⟨by show 0 ≤ sizeLine; decide, fun H1 p s1 hp0 hp => ?_⟩
    refine ⟨_, rfl, a, rfl, ⟨_, SqL.of (s1 _ _ ha)⟩, for_list (xs := zs.map (·.1)) (fun i σ H2 => Same H H2 ∧ ∃ (ys : List V) (u4 u5 u6 : Option V), H2 p = some (.lst ys) ∧ Each (fun z y => KeyAt K p n H2 z y) (zs.take i) ys ∧ σ = [some k, some (.int (n : Int)), some (.ref a), some (.ref p), u4, u5, u6])
      ⟨s1, [], _, _, _, hp, .nil, rfl⟩ (fun i σ H2 _ z => SqL.of (z.1 _ _ ha)) ?_ ?_⟩
    · rintro i x σ H2 hi ⟨s2, ys, u4, u5, u6, hp2, hys, rfl⟩
      rw [List.getElem?_map] at hi
      obtain ⟨z, ez, rfl⟩ := Option.map_eq_some_iff.mp hi
      have hzm := List.mem_of_getElem? ez
      have hw2 := (hzz z hzm).same s2
      have hzl := hzs z.2 (List.mem_map_of_mem hzm)
      have hyl := hys.length
      rw [List.length_take] at hyl
      obtain ⟨zv, zw⟩ := z
      dsimp only at hw2 hzl
      obtain ⟨wa, rfl, hwa⟩ := hw2
      refine ⟨_, rfl, ?_⟩
      refine ⟨wa, _, rfl, hwa, fun H3 t s3 ht => ?_⟩
      refine ⟨t, rfl, ⟨_, ht⟩, ?_⟩
      refine lc_tupF (i := 6) plus1 ht (by rw [sizeLine_eq, List.length_reverse, List.length_map]; omega) (fun x hm H4 Q4 s4 q4 => ?_) fun H4 b s4 hb0 hb => ?_
      · rw [← List.map_reverse] at hm
        obtain ⟨j, _, rfl⟩ := List.mem_map.mp hm
        exact ⟨_, rfl, _, _, rfl, rfl, q4 H4 (Same.refl H4)⟩
      · refine ⟨by show 1 ≤ sizeLine; decide, fun H5 c s5 hc0 hc => ?_⟩
        have hwa5 := Same.sqt s5 (Same.sqt s4 (Same.sqt s3 hwa))
        refine ⟨_, rfl, _, rfl, _, _, rfl, .inr hwa5, _, _, rfl, rfl, c, _, _, rfl, rfl, hc, ?_, ?_, ?_, fun H6 d s6 hd0 hd => ?_⟩
        · rw [List.length_map]; omega
        · rw [List.length_map]; omega
        · rw [List.length_map, sizeLine_eq]
          simp only [List.length_cons, List.length_nil]
          omega
        rw [List.length_map] at hd
        have hb6 := s6 _ _ (s5 _ _ hb)
        refine ⟨b, d, _, _, rfl, rfl, hb6, hd, ?_, fun H7 r s7 hr0 hr => ?_⟩
        · rw [sizeLine_eq]
          simp
          omega
        have er : List.map plus1 (List.map V.int zw).reverse ++ (List.replicate ((n : Int) - (zw.length : Int)).toNat [V.int 0]).flatten = (rowK n zw).map V.int := by
          have e1 : ((n : Int) - (zw.length : Int)).toNat = n - zw.length := by omega
          rw [e1]
          unfold rowK
          rw [List.map_append, List.map_map, List.map_replicate]
          congr 1
          · rw [← List.map_reverse, List.map_map]
            rfl
          · simp
        rw [er] at hr
        have s27 : Same H2 H7 := Same.trans s3 (Same.trans s4 (Same.trans s5 (Same.trans s6 s7)))
        have hp7 := s27 _ _ hp2
        refine ⟨_, rfl, .inl ⟨rfl, _, SqL.of hp7⟩, _, rfl, _, rfl, by show 2 ≤ sizeLine; decide, fun H8 t8 s8 ht8 => ?_⟩
        have hp8 := s8 _ _ hp7
        have s28 := Same.trans s27 s8
        refine ⟨p, ys, _, rfl, rfl, hp8, by rw [sizeLine_eq]; omega, same_mut hp0 (Same.trans s2 s28), ys ++ [.ref t8], _, _, _, upd_same, ?_, rfl⟩
        rw [take_more ez]
        refine ((hys.imp fun z y h => (h.same s28).mut hp8)).snoc ?_
        have hwa8 := Same.sqt s8 (Same.sqt s7 (Same.sqt s6 hwa5))
        have key : KeyAt K p n H8 (V.ref wa, zw) (.ref t8) := ⟨t8, r, rfl, ht8, fun z => ?_, s8 _ _ hr, wa, rfl, hwa8⟩
        · exact key.mut hp8
        · subst z
          have h6 := (Same.trans s3 (Same.trans s4 (Same.trans s5 s6))) _ _ hp2
          rw [h6] at hr0
          cases hr0
    · rintro σ H2 ⟨s2, ys, u4, u5, u6, hp2, hys, rfl⟩
      rw [List.take_of_length_le (by rw [List.length_map]; exact Nat.le_refl _)] at hys
      obtain ⟨ds, eds, ed, hd⟩ := each_vd hys
      have hk : ∀ d ∈ ds.map (·.2), ∃ r u, d = keyD r u := fun d hm => by
        rw [ed] at hm
        obtain ⟨z, _, rfl⟩ := List.mem_map.mp hm
        exact ⟨_, _, rfl⟩
      have hsort : ds.mergeSort (PySem.W.dataLe false (·.2)) = ds := by
        refine List.mergeSort_of_pairwise ?_
        have h1 : (ds.map (·.2)).Pairwise fun d e => PySem.W.dataLt e d = false := by
          rw [ed, List.pairwise_map]
          rw [List.map_map, List.pairwise_map] at hrise
          exact hrise.imp fun h => keyD_lt h
        rw [List.pairwise_map] at h1
        refine h1.imp fun {d e} h => ?_
        rw [PySem.W.dataLe_eq]
        show (!PySem.W.dataLt e.2 d.2) = true
        rw [h]
        rfl
      refine ⟨_, rfl, p, ds, rfl, SqL.of (eds ▸ hp2), hd, ?_, ?_, ?_, ?_⟩
      · intro d hd1 e he1
        obtain ⟨r, u, rfl⟩ := hk d hd1
        obtain ⟨r', u', rfl⟩ := hk e he1
        exact keyD_alike _ _ _ _
      · refine .inr fun d hd1 => ?_
        obtain ⟨r, u, rfl⟩ := hk d hd1
        exact ⟨_, rfl⟩
      · intro d hd1
        obtain ⟨r, u, e⟩ := hk d.2 (List.mem_map_of_mem hd1)
        rw [e]
        exact keyD_depth r u
      · rw [hsort, ← eds]
        refine fun H3 c s3 hc0 hc => ⟨c, rfl, ⟨_, SqL.of hc⟩, fun D hD => ?_⟩
        refine lc_list (xs := ys) (fun j H4 => Same H3 H4 ∧ H4 D = some (.lst ((zs.take j).map (·.1)))) ⟨same_upd hD _, upd_same⟩ (fun j H4 _ z => SqL.of (z.1 _ _ hc)) (fun j x H4 hj z => ?_) fun H4 z => ?_
        · obtain ⟨s4, hD4⟩ := z
          obtain ⟨z, ez, t, r, rfl, h1, h2, h3, h4⟩ := each_at hys hj
          refine ⟨t, _, rfl, Same.sqt s4 (Same.sqt s3 h1), rfl, _, _, rfl, _, _, rfl, rfl, ⟨rfl, ?_⟩⟩
          dsimp only [tYes]
          rw [if_pos rfl]
          refine ⟨_, rfl, (zs.take j).map (·.1), hD4, ?_, same_mut hD s4, ?_⟩
          · rw [List.length_map, List.length_take, sizeLine_eq]
            omega
          · rw [upd_same, take_more ez, List.map_append]
            rfl
        · obtain ⟨s4, hD4⟩ := z
          have hlz := hys.length
          rw [List.take_of_length_le (by omega)] at hD4
          have nD : H D = none := by
            cases e : H D with
            | none => rfl
            | some u => rw [Same.trans s2 s3 _ _ e] at hD; cases hD
          have s24 := Same.trans s2 (Same.trans s3 s4)
          exact q H4 D _ s24 nD hD4 (isWs_unzip fun z hz => (hzz z hz).same s24)
theorem ok__law_wd_to (T : Txt K mg) : FnOk P w K mg base CX0 2 T.a__law_wd_to T.d__law_wd_to ["letters", "most"] (sp_wds K wdTo) := by
  refine T.F__law_wd_to.ok sc__law_wd_to (fun vs H Q E h => ?_) (fun cdv A outer s H vs Q E hr h => ?_)
  · obtain ⟨k, n, rfl, _⟩ := h
    rfl
  · obtain ⟨k, n, rfl, hc, q⟩ := h
    refine ⟨_, (pss_cons (ps_set (i := 2) sc__law_wd_to.nd rfl (Or.inl rfl) (pe_lstS (pa_cons (pe_tupK (K := K) rfl pa_nil) pa_nil))) (pss_cons (ps_for PassesOwn.never rfl (pi_range1 rfl T.n_range (pa_cons (pv 1) pa_nil)) (pg_name (i := 3) sc__law_wd_to.nd rfl (Or.inl rfl)) (pss_cons (ps_set (i := 4) sc__law_wd_to.nd rfl (Or.inl rfl) (pe_lstS pa_nil)) (pss_cons (ps_for PassesOwn.never rfl (pi_list (pv 2)) (pg_name (i := 5) sc__law_wd_to.nd rfl (Or.inr rfl)) (pss_cons (ps_expr (pe_bm PySem.F.plainAttrs_list PySem.F.slot_list_append PySem.F.type_list_append mt_append (pv 4) (pa_cons (pv 5) pa_nil))) (pss_one (ps_if (pt_cmpR op_eq (pe_callB call_len_seq rfl T.n_len (by decide +kernel) (pa_cons (pv 5) pa_nil)) (pv 3) (nomark _)) (pss_one (ps_expr (pe_bm PySem.F.plainAttrs_list PySem.F.slot_list_extend PySem.F.type_list_extend mt_extend (pv 4) (pa_cons (pe_lc (own := [("letter", 6)]) rfl sc__law_wd_to.nd (pi_range1 rfl T.n_range (pa_cons (pv 0) pa_nil)) (blkOk_by (own := [("letter", 6)]) (N := ["letters", "most", "found", "lap", "longer", "word", "letter"]) (sc := defScope s__law_wd_to) (by decide +kernel)) (fun _ _ _ _ _ => (pg_name (i := 6) sc__law_wd_to.nd rfl (Or.inl rfl))) (fun _ _ _ _ _ => pts_nil) (fun _ _ _ _ _ => (pe_op (op_catK (K := K) rfl) (pe_tupK (K := K) rfl (pa_cons (pv 6) pa_nil)) (pv 5)))) pa_nil)))) pss_nil)))) (pss_one (ps_set (i := 2) sc__law_wd_to.nd rfl (Or.inl rfl) (pe_callTy call_lstS rfl T.n_list (by decide +kernel) (pa_cons (pv 4) pa_nil))))))) (pss_one (ps_ret (pe_call (ok__law_wd_settled T) (hr.mono (by decide)) rfl T.m__law_wd_settled T.F__law_wd_settled.kp T.b__law_wd_settled .nil pass0 (pa_cons (pv 0) (pa_cons (pv 1) (pa_cons (pv 2) pa_nil)))))))), ?_⟩
    obtain ⟨k1, k4, n8⟩ := combos_bd hc
    refine ⟨by show 0 ≤ sizeLine; decide, fun H0 o s0 ho => ⟨by show 1 ≤ sizeLine; decide, fun H1 p s1 hp0 hp => ?_⟩⟩
    have hw0 : IsWs K H1 [.ref o] (wdTo k 0) := .cons ⟨o, rfl, Same.sqt s1 ho⟩ .nil
    have np : H p = none := by
      cases e : H p with
      | none => rfl
      | some u => rw [s0 _ _ e] at hp0; cases hp0
    refine ⟨_, rfl, _, rfl, by omega, by omega, for_range (fun i σ H2 => Same H H2 ∧ ∃ (p : Addr) (ys : List V) (u1 u2 u3 u4 : Option V), H p = none ∧ H2 p = some (.lst ys) ∧ IsWs K H2 ys (wdTo k i) ∧ σ = [some (.int k), some (.int (n : Int)), some (.ref p), u1, u2, u3, u4])
      ⟨Same.trans s0 s1, p, _, _, _, _, _, np, hp, hw0, rfl⟩ ?_ ?_⟩
    · rintro i σ H2 hi ⟨s2, p, ys, u1, u2, u3, u4, np, hp, hys, rfl⟩
      rw [Int.toNat_natCast] at hi
      have hl := hys.length
      have ok := to_ok (combos_down hc (Nat.le_of_lt hi))
      refine ⟨by show 0 ≤ sizeLine; decide, fun H3 r s3 hr0 hr => ?_⟩
      refine ⟨_, rfl, p, rfl, ⟨_, SqL.of (s3 _ _ hp)⟩, for_list (xs := ys) (fun j σ H4 => Same H2 H4 ∧ ∃ (zs : List V) (u3 u4 : Option V), H4 r = some (.lst zs) ∧ IsWs K H4 zs (((wdTo k i).take j).flatMap fun w => w :: (if w.length = i then (rng k).map fun x => x :: w else [])) ∧ σ = [some (.int k), some (.int (n : Int)), some (.ref p), some (.int (0 + (i : Int))), some (.ref r), u3, u4])
        ⟨s3, [], _, _, hr, .nil, rfl⟩ (fun j σ H4 _ z => SqL.of (z.1 _ _ hp)) ?_ ?_⟩
      · rintro j x σ H4 hj ⟨s4, zs, u3, u4, hr4, hzs, rfl⟩
        obtain ⟨ws, ew, hws⟩ := (hys.same s4).at hj
        have hws1 : ws.length ≤ 8 := by have := (ok.okw ws (List.mem_of_getElem? ew)).1; omega
        have hzl : zs.length ≤ 5000 := by
          rw [hzs.length]
          have h1 := flat_le (g := fun w : List Int => w :: (if w.length = i then (rng k).map fun x => x :: w else [])) (c := 5) (fun w => by split <;> simp [rng_len] <;> omega) ((wdTo k i).take j)
          have h2 := ok.len
          rw [List.length_take] at h1
          have h3 : min j (wdTo k i).length * 5 ≤ 1000 * 5 := Nat.mul_le_mul_right 5 (by omega)
          omega
        have st4 : Stay H4 (upd H4 r (.lst (zs ++ [x]))) := stay_lst hr4
        refine ⟨_, rfl, .inl ⟨rfl, _, SqL.of hr4⟩, _, rfl, r, zs, x, rfl, rfl, hr4, by rw [sizeLine_eq]; omega, ?_⟩
        obtain ⟨xa, rfl, hxa⟩ := hws
        generalize hH5 : upd H4 r (.lst (zs ++ [.ref xa])) = H5 at st4 ⊢
        have hr5 : H5 r = some (.lst (zs ++ [.ref xa])) := by rw [← hH5]; exact upd_same
        have hxa5 := st4.sqt hxa
        have s25 : Same H2 H5 := by rw [← hH5]; exact same_mut hr0 s4
        have hzs5 : IsWs K H5 (zs ++ [.ref xa]) ((((wdTo k i).take j).flatMap fun w => w :: (if w.length = i then (rng k).map fun x => x :: w else [])) ++ [ws]) := (hzs.stay st4).app (.cons ⟨xa, rfl, hxa5⟩ .nil)
        refine ⟨_, rfl, _, _, rfl, .inr hxa5, _, rfl, rfl, _, rfl, ?_⟩
        rw [List.length_map]
        by_cases c : ws.length = i
        · refine ifT (decide_eq_true (by rw [c, Int.zero_add])) ?_
          refine ⟨_, rfl, .inl ⟨rfl, _, SqL.of hr5⟩, _, rfl, k, rfl, by omega, by omega, ?_⟩
          refine lc_rngA (i := 6) (fun H j y => IsW K H y ((j : Int) :: ws)) (fun H H' x y e z => z.stay e) (by rw [sizeLine_eq]; omega) (fun jj hjj H6 Q6 s6 q6 => ?_) fun H6 b ys6 s6 hb0 hb e6 => ?_
          · refine ⟨_, rfl, by show 1 ≤ sizeLine; decide, fun H7 o7 s7 ho7 => ?_⟩
            refine ⟨_, rfl, o7, xa, _, _, rfl, rfl, ho7, Same.sqt (Same.trans s6 s7) hxa5, ?_, fun H8 d s8 hd => q6 H8 (.ref d) (Same.trans s7 s8) ⟨d, rfl, ?_⟩⟩
            · rw [List.length_map]
              exact size200 (by simp; omega)
            · rw [Int.zero_add] at hd
              exact hd
          · have hr6 := s6 _ _ hr5
            have hl6 := e6.length
            rw [List.length_range] at hl6
            have st : Stay H6 (upd H6 r (.lst (zs ++ [.ref xa] ++ ys6))) := stay_lst hr6
            have hz2 : IsWs K (upd H6 r (.lst (zs ++ [.ref xa] ++ ys6))) (zs ++ [.ref xa] ++ ys6) (((wdTo k i).take (j + 1)).flatMap fun w => w :: (if w.length = i then (rng k).map fun x => x :: w else [])) := by
              rw [take_more ew, List.flatMap_append, List.flatMap_cons, List.flatMap_nil, List.append_nil, if_pos c, ← rng_eq]
              have h := ((hzs5.same s6).stay st).app ((each_ws e6).stay st)
              have e : ∀ (A B : List (List Int)), A ++ ws :: B = A ++ [ws] ++ B := fun A B => by rw [List.append_assoc]; rfl
              rw [e]
              exact h
            refine ⟨r, b, _, ys6, rfl, rfl, hr6, hb, by rw [sizeLine_eq]; simp; omega, same_mut hr0 (Same.trans s25 s6), _, _, _, upd_same, hz2, rfl⟩
        · refine ifF (decide_eq_false fun z => c (by injection z with z; omega)) ?_
          refine ⟨s25, _, _, _, hr5, ?_, rfl⟩
          rw [take_more ew, List.flatMap_append, List.flatMap_cons, List.flatMap_nil, List.append_nil, if_neg c]
          exact hzs5
      · rintro σ H4 ⟨s4, zs, u3, u4, hr4, hzs, rfl⟩
        rw [List.take_of_length_le (by omega)] at hzs
        refine ⟨_, rfl, r, zs, rfl, .inl (SqL.of hr4), fun H5 b s5 hb0 hb => ⟨Same.trans s2 (Same.trans s4 s5), b, zs, _, _, _, _, ?_, hb, hzs.same s5, rfl⟩⟩
        cases e : H b with
        | none => rfl
        | some u => rw [Same.trans s2 s4 _ _ e] at hb0; cases hb0
    · rintro σ H2 ⟨s2, p, ys, u1, u2, u3, u4, np, hp, hys, rfl⟩
      rw [Int.toNat_natCast] at hys
      have ok := to_ok hc
      refine ⟨_, rfl, _, rfl, _, rfl, _, n, p, ys, wdTo k n, rfl, hp, hys, n8, ok.len, fun w hw => (ok.okw w hw).1, ok.rise, fun H3 p3 ys3 s3 hp0 hp3 hys3 => q H3 p3 ys3 (Same.trans s2 s3) ?_ hp3 hys3⟩
      cases e : H p3 with
      | none => rfl
      | some u => rw [s2 _ _ e] at hp0; cases hp0
end
end K00
/-! K00k -/
set_option Elab.async false
set_option linter.all false
set_option maxRecDepth 100000
set_option maxHeartbeats 2000000
namespace K00
open PySem PySem.Spec PyProof.Rows L2 PpSet RL
/-- what stands in a tuple that is asked about -/
def ItemV (K : PySem.W.Frag) (H : Hp) (v : V) : Prop := (∃ i, v = .int i) ∨ (∃ b, v = .bl b) ∨ v = .non ∨ ∃ ws, IsW K H v ws
theorem ItemV.same {K : PySem.W.Frag} {H H' : Hp} {v : V} (h : ItemV K H v) (s : Same H H') : ItemV K H' v := by
  rcases h with h | h | h | ⟨ws, h⟩
  · exact .inl h
  · exact .inr (.inl h)
  · exact .inr (.inr (.inl h))
  · exact .inr (.inr (.inr ⟨ws, h.same s⟩))
theorem ItemV.num {K : PySem.W.Frag} {H : Hp} {v : V} (h : ItemV K H v) : NumV K H v := by
  rcases h with h | h | rfl | ⟨ws, a, rfl, h⟩
  · exact .inl h
  · exact .inr (.inl h)
  · exact .inr (.inr ⟨fun i z => (nomatch z), fun i z => (nomatch z), _, .base .non, kit_ty (by decide +kernel)⟩)
  · exact .inr (.inr ⟨fun i z => (nomatch z), fun i z => (nomatch z), _, tyx_sqt h, kit_ty (by decide +kernel)⟩)
theorem ItemV.dp {K : PySem.W.Frag} {H : Hp} {v : V} (h : ItemV K H v) : ∃ d : PyData, Dp K H v d ∧ d.canLay0 = true ∧ d.depth ≤ 1 := by
  rcases h with ⟨i, rfl⟩ | ⟨b, rfl⟩ | rfl | ⟨ws, h⟩
  · exact ⟨_, .int i, by simp only [PyData.canLay0], by simp only [PyData.depth]; omega⟩
  · exact ⟨_, .bl b, by simp only [PyData.canLay0], by simp only [PyData.depth]; omega⟩
  · exact ⟨_, .non, by simp only [PyData.canLay0], by simp only [PyData.depth]; omega⟩
  · exact ⟨_, h.dp, by simp only [PyData.canLay0, lay_ints], depth_tup ws⟩
theorem items_dp {K : PySem.W.Frag} {H : Hp} : ∀ {xs : List V}, (∀ x ∈ xs, ItemV K H x) → ∃ ds : List PyData, DpAll K H xs ds ∧ PyData.canLayAll0 ds = true ∧ PyData.depthAll ds ≤ 1 ∧ ds.length = xs.length
  | [], _ => ⟨[], .nil, by simp only [PyData.canLayAll0], by simp [PyData.depthAll], rfl⟩
  | x :: xs, h => by
    obtain ⟨d, h1, h2, h3⟩ := (h x List.mem_cons_self).dp
    obtain ⟨ds, k1, k2, k3, k4⟩ := items_dp fun y hy => h y (List.mem_cons_of_mem _ hy)
    exact ⟨d :: ds, .cons h1 k1, by simp only [PyData.canLayAll0, h2, k2, Bool.and_self], by simp only [PyData.depthAll]; omega, by simp [k4]⟩
theorem eqv_nil (ds : List PyData) : PyData.eqv (.list ds) (.list []) = ds.isEmpty := by
  cases ds <;> simp [PyData.eqv, PyData.eqvAll]
def sp_due (K : PySem.W.Frag) : Sp := fun vs H Q _ => ∃ (k : Int) (v : V), vs = [.int k, v] ∧
  (((∃ t, TyX K H v t ∧ PySem.W.kitOne K t (.type "tuple") = some false) ∧ ∀ H', Same H H' → Q (.bl false) H') ∨
    ∃ a xs, v = .ref a ∧ SqT K H a xs ∧ xs.length ≤ 1000 ∧ (∀ x ∈ xs, ItemV K H x) ∧ ∀ H', Same H H' → Q (.bl (spelled xs k 200)) H')
def sp_power : Sp := fun vs H Q _ => ∃ (k : Int) (n : Nat), vs = [.int k, .int n] ∧ 0 ≤ k ∧ k ≤ 4 ∧ n ≤ 1000 ∧ Q (.int (k ^ n)) H
section
variable {P : Program} {w : World} {K : PySem.W.Frag} {mg : Str → Option Value} {base : Heap}
theorem ok__law_power (T : Txt K mg) : FnOk P w K mg base CX0 1 T.a__law_power T.d__law_power ["number", "many"] sp_power := by
  refine T.F__law_power.ok sc__law_power (fun vs H Q E h => ?_) (fun cdv A outer s H vs Q E hr h => ?_)
  · obtain ⟨k, n, rfl, _⟩ := h
    rfl
  · obtain ⟨k, n, rfl, k0, k4, hn, q⟩ := h
    refine ⟨_, (pss_cons (ps_set (i := 2) sc__law_power.nd rfl (Or.inl rfl) pe_int) (pss_cons (ps_for PassesOwn.never rfl (pi_range1 rfl T.n_range (pa_cons (pv 1) pa_nil)) (pg_name (i := 3) sc__law_power.nd rfl (Or.inl rfl)) (pss_one (ps_set (i := 2) sc__law_power.nd rfl (Or.inl rfl) (pe_op op_mul (pv 2) (pv 0))))) (pss_one (ps_ret (pv 2))))), ?_⟩
    refine ⟨_, rfl, _, rfl, by omega, by omega, for_range (fun i σ H2 => H2 = H ∧ ∃ u, σ = [some (.int k), some (.int (n : Int)), some (.int (k ^ i)), u]) ⟨rfl, _, by rw [Int.pow_zero]; rfl⟩ ?_ ?_⟩
    · rintro i σ H2 hi ⟨rfl, u, rfl⟩
      exact ⟨_, rfl, _, rfl, _, _, rfl, rfl, .inr ⟨by omega, by omega⟩, rfl, _, by rw [Int.pow_succ]; rfl⟩
    · rintro σ H2 ⟨rfl, u, rfl⟩
      rw [Int.toNat_natCast]
      exact ⟨_, rfl, q⟩
theorem ok__law_is_word_due (T : Txt K mg) : FnOk P w K mg base CX0 1 T.a__law_is_word_due T.d__law_is_word_due ["letters", "value"] (sp_due K) := by
  refine T.F__law_is_word_due.ok sc__law_is_word_due (fun vs H Q E h => ?_) (fun cdv A outer s H vs Q E hr h => ?_)
  · obtain ⟨k, v, rfl, _⟩ := h
    rfl
  · obtain ⟨k, v, rfl, h⟩ := h
    refine ⟨_, (pss_cons (ps_if (PW.pt (pw_or (pt_not (pt_val (pe_callB (call_isiK (K := K) rfl) rfl T.n_isinstance (by decide +kernel) (pa_cons (pv 1) (pa_cons (pe_bltn (v := .ty "tuple") (u := .type "tuple") rfl T.n_tuple (by decide +kernel) rfl) pa_nil))))) (pw_or1 (pt_cmpR op_gt (pe_callB call_len_seq rfl T.n_len (by decide +kernel) (pa_cons (pv 1) pa_nil)) pe_int (nomark _))))) (pss_one (ps_ret pe_bl)) pss_nil) (pss_one (ps_ret (pe_cmpR (op_eqD hr.units) (pe_lc (own := [("one", 2)]) rfl sc__law_is_word_due.nd (pi_tup (pv 1)) (blkOk_by (own := [("one", 2)]) (N := ["letters", "value", "one"]) (sc := defScope s__law_is_word_due) (by decide +kernel)) (fun _ _ _ _ _ => (pg_name (i := 2) sc__law_is_word_due.nd rfl (Or.inl rfl))) (fun _ _ _ _ _ => (pts_one (PW.pt (pw_or (pt_val (pe_callB (call_isiK (K := K) rfl) rfl T.n_isinstance (by decide +kernel) (pa_cons (pv 2) (pa_cons (pe_bltn (v := .ty "bool") (u := .type "bool") rfl T.n_bool (by decide +kernel) rfl) pa_nil)))) (pw_or (pt_not (pt_val (pe_callB (call_isiK (K := K) rfl) rfl T.n_isinstance (by decide +kernel) (pa_cons (pv 2) (pa_cons (pe_bltn (v := .ty "int") (u := .type "int") rfl T.n_int (by decide +kernel) rfl) pa_nil))))) (pw_or1 (pt_not (pt_chain op_le op_lt pe_int (pv 2) (pv 0))))))))) (fun _ _ _ _ _ => (pv 2))) (pe_lstS pa_nil) (nomark _))))), ?_⟩
    rcases h with ⟨⟨t, ht, hk⟩, q⟩ | ⟨a, xs, rfl, hx, hz, hn, q⟩
    · exact ⟨_, rfl, _, _, _, _, false, rfl, .ty _, ht, hk, _, rfl, iteT (iteT (q H (Same.refl H)))⟩
    · refine ⟨_, rfl, _, _, _, _, true, rfl, .ty _, tyx_sqt hx, kit_ty (by decide +kernel), _, rfl, iteF ?_⟩
      refine ⟨_, rfl, _, _, rfl, .inr hx, _, _, rfl, rfl, _, rfl, ?_⟩
      by_cases c : (xs.length : Int) > 200
      · refine ifT (decide_eq_true c) ?_
        have e : spelled xs k 200 = false := by
          unfold spelled
          rw [decide_eq_false (by omega), Bool.false_and]
        rw [e] at q
        exact q H (Same.refl H)
      · refine ifF (decide_eq_false c) ?_
        refine ⟨_, rfl, a, rfl, ⟨_, hx⟩, fun D hD => ?_⟩
        refine lc_tup (xs := xs) (fun j H2 => Same H H2 ∧ H2 D = some (.lst ((xs.take j).filter fun x => !numB x 0 (k - 1)))) ⟨same_upd hD _, upd_same⟩ (fun j H2 _ z => Same.sqt z.1 hx) (fun j x H2 hj z => ?_) fun H2 z => ?_
        · obtain ⟨s2, hD2⟩ := z
          refine ⟨rfl, ?_⟩
          refine tt_mid (fun b => b = !numB x 0 (k - 1)) (fun b e => ?_) fun k' hk' => ?_
          · have hf : (xs.take (j + 1)).filter (fun x => !numB x 0 (k - 1)) = (xs.take j).filter (fun x => !numB x 0 (k - 1)) ++ (if b then [x] else []) := by
              rw [take_more hj, List.filter_append, e]
              congr 1
              cases h : numB x 0 (k - 1) <;> simp [h]
            cases b with
            | true =>
              refine iteT ⟨_, rfl, _, hD2, ?_, same_mut hD s2, ?_⟩
              · have := List.length_filter_le (fun x => !numB x 0 (k - 1)) (xs.take j)
                rw [List.length_take] at this
                rw [sizeLine_eq]
                omega
              · rw [upd_same, hf]
                rfl
            | false =>
              refine iteF ⟨s2, ?_⟩
              rw [hf, hD2]
              simp
          · rcases (hn x (List.mem_of_getElem? hj)).same s2 with ⟨i, rfl⟩ | ⟨b, rfl⟩ | rfl | ⟨ws, b, rfl, h⟩
            · refine ⟨_, rfl, _, _, _, _, false, rfl, .ty _, .base (.int i), kit_ty (by decide +kernel), _, rfl, iteF ?_⟩
              refine ⟨_, rfl, _, _, _, _, true, rfl, .ty _, .base (.int i), kit_ty (by decide +kernel), _, rfl, iteF ?_⟩
              refine ⟨_, rfl, _, _, rfl, rfl, _, rfl, ?_⟩
              by_cases c0 : (0 : Int) ≤ i
              · refine ifT (decide_eq_true c0) ⟨_, rfl, _, _, rfl, rfl, _, rfl, ?_⟩
                refine hk' _ ?_
                have : (i < k) = (i ≤ k - 1) := propext ⟨fun z => by omega, fun z => by omega⟩
                simp [numB, c0, this]
              · refine ifF (decide_eq_false c0) ⟨_, rfl, hk' _ ?_⟩
                simp [numB, c0]
            · refine ⟨_, rfl, _, _, _, _, true, rfl, .ty _, .base (.bl b), kit_ty (by decide +kernel), _, rfl, iteT ?_⟩
              exact hk' _ rfl
            · refine ⟨_, rfl, _, _, _, _, false, rfl, .ty _, .base .non, kit_ty (by decide +kernel), _, rfl, iteF ?_⟩
              refine ⟨_, rfl, _, _, _, _, false, rfl, .ty _, .base .non, kit_ty (by decide +kernel), _, rfl, iteT ?_⟩
              exact hk' _ rfl
            · refine ⟨_, rfl, _, _, _, _, false, rfl, .ty _, tyx_sqt h, kit_ty (by decide +kernel), _, rfl, iteF ?_⟩
              refine ⟨_, rfl, _, _, _, _, false, rfl, .ty _, tyx_sqt h, kit_ty (by decide +kernel), _, rfl, iteT ?_⟩
              exact hk' _ rfl
        · obtain ⟨s2, hD2⟩ := z
          rw [List.take_length] at hD2
          refine ⟨by show 0 ≤ sizeLine; decide, fun H3 e s3 _ he => ?_⟩
          have hD3 := s3 _ _ hD2
          have s13 := Same.trans s2 s3
          obtain ⟨ds, k1, k2, k3, k4⟩ := items_dp (K := K) (H := H3) (xs := xs.filter fun x => !numB x 0 (k - 1)) fun x hx => (hn x ((List.mem_filter.mp hx).1)).same s13
          refine ⟨.list ds, .list [], .lst (SqL.of hD3) k1, .lst (SqL.of he) .nil, ?_, ?_, ?_⟩
          · unfold SeqAt.shaped
            rw [Bool.and_eq_true]
            exact ⟨by simp only [PyData.canLay0, k2], decide_eq_true (by simp only [PyData.depth]; omega)⟩
          · decide
          · rw [eqv_nil]
            have e2 : ds.isEmpty = spelled xs k 200 := by
              unfold spelled
              rw [decide_eq_true (by omega), Bool.true_and]
              rw [Bool.eq_iff_iff, List.isEmpty_iff, ← List.length_eq_zero_iff, k4, List.length_eq_zero_iff, List.filter_eq_nil_iff, List.all_eq_true]
              simp
            rw [e2]
            exact q H3 s13
end
end K00
/-! K00l -/
set_option Elab.async false
set_option linter.all false
set_option maxRecDepth 100000
set_option maxHeartbeats 2000000
namespace K00
open PySem PySem.Spec PyProof.Rows L2 PpSet RL
def okR (k : Int) (ws : List Int) : Prop := ∀ x ∈ ws, 0 ≤ x ∧ x < k
def sp_some (K : PySem.W.Frag) : Sp := fun vs H Q _ => ∃ (b : Addr) (k : Int), vs = [.ref b, .int k] ∧ Bag b H ∧ 1 ≤ k ∧ k ≤ 4 ∧ ∀ H' p ys wss, Kp b H H' → p ≠ b → H' p = some (.lst ys) → IsWs K H' ys wss → wss.length = 11 → (∀ ws ∈ wss, ws.length ≤ 100 ∧ okR k ws) → Q (.ref p) H'
theorem szc {a b : List Int} (h1 : a.length ≤ 1000) (h2 : b.length ≤ 1000) : (a.map V.int).length + (b.map V.int).length ≤ sizeLine := by
  rw [List.length_map, List.length_map, sizeLine_eq]
  omega
theorem okR_app {k : Int} {a b : List Int} (h1 : okR k a) (h2 : okR k b) : okR k (a ++ b) := fun x hx => (List.mem_append.mp hx).elim (h1 x) (h2 x)
theorem okR_drop {k : Int} {a : List Int} (n : Nat) (h1 : okR k a) : okR k (a.drop n) := fun x hx => h1 x (List.mem_of_mem_drop hx)
theorem isW_app {K : PySem.W.Frag} {H : Hp} {p : Addr} {a b : List Int} (h : SqT K H p (a.map V.int ++ b.map V.int)) : IsW K H (.ref p) (a ++ b) := ⟨p, rfl, by rw [List.map_append]; exact h⟩
theorem words_at {K : PySem.W.Frag} {H : Hp} {Pr : List Int → Prop} : ∀ {ys : List V}, (∀ y ∈ ys, ∃ ws, IsW K H y ws ∧ Pr ws) → ∃ wss, IsWs K H ys wss ∧ wss.length = ys.length ∧ ∀ ws ∈ wss, Pr ws
  | [], _ => ⟨[], .nil, rfl, fun ws h => by cases h⟩
  | y :: ys, hy => by
    obtain ⟨wss, g1, g2, g3⟩ := words_at fun z hz => hy z (List.mem_cons_of_mem _ hz)
    obtain ⟨ws, g4, g5⟩ := hy y List.mem_cons_self
    exact ⟨ws :: wss, .cons g4 g1, by simp [g2], fun z hz => (List.mem_cons.mp hz).elim (fun e => e ▸ g5) (g3 z)⟩
section
variable {P : Program} {w : World} {K : PySem.W.Frag} {mg : Str → Option Value} {base : Heap}
theorem ok__law_some_words (T : Txt K mg) : FnOk P w K mg base CX0 3 T.a__law_some_words T.d__law_some_words ["bag", "letters"] (sp_some K) := by
  refine T.F__law_some_words.ok sc__law_some_words (fun vs H Q E h => ?_) (fun cdv A outer s H vs Q E hr h => ?_)
  · obtain ⟨b, k, rfl, _⟩ := h
    rfl
  · obtain ⟨b, k, rfl, hb, k1, k4, q⟩ := h
    refine ⟨_, (pss_cons (ps_asg (pe_tupK (K := K) rfl (pa_cons (pe_call (ok__law_word_drawn T) (hr.mono (by decide)) rfl T.m__law_word_drawn T.F__law_word_drawn.kp T.b__law_word_drawn .nil pass0 (pa_cons (pv 0) (pa_cons (pv 1) (pa_cons pe_int pa_nil)))) (pa_cons (pe_call (ok__law_word_drawn T) (hr.mono (by decide)) rfl T.m__law_word_drawn T.F__law_word_drawn.kp T.b__law_word_drawn .nil pass0 (pa_cons (pv 0) (pa_cons (pv 1) (pa_cons pe_int pa_nil)))) pa_nil))) (pg_tupK (K := K) (n := 2) rfl rfl (pgs_cons (pg_name (i := 2) sc__law_some_words.nd rfl (Or.inr rfl)) (pgs_cons (pg_name (i := 3) sc__law_some_words.nd rfl (Or.inl rfl)) pgs_nil)))) (pss_cons (ps_set (i := 4) sc__law_some_words.nd rfl (Or.inl rfl) (pe_call (ok__law_word_drawn T) (hr.mono (by decide)) rfl T.m__law_word_drawn T.F__law_word_drawn.kp T.b__law_word_drawn .nil pass0 (pa_cons (pv 0) (pa_cons (pv 1) (pa_cons pe_int pa_nil))))) (pss_cons (ps_set (i := 5) sc__law_some_words.nd rfl (Or.inl rfl) (pe_lstS (pa_cons (pv 2) (pa_cons (pv 3) (pa_cons (pe_op (op_catK (K := K) rfl) (pv 4) (pv 2)) (pa_cons (pe_op (op_catK (K := K) rfl) (pv 3) (pv 2)) (pa_cons (pe_op (op_catK (K := K) rfl) (pe_op (op_catK (K := K) rfl) (pv 4) (pv 3)) (pv 2)) (pa_cons (pe_slice sl_tupU (pv 2) (po_some pe_int) po_none) (pa_cons (pe_slice sl_tupU (pv 3) (po_some pe_int) po_none) (pa_cons (pe_op (op_catK (K := K) rfl) (pe_tupK (K := K) rfl (pa_cons pe_int pa_nil)) (pv 3)) (pa_cons (pe_tupK (K := K) rfl pa_nil) pa_nil))))))))))) (pss_one (ps_ret (pe_op op_catL (pv 5) (pe_lc (own := [("lap", 6)]) rfl sc__law_some_words.nd (pi_range1 rfl T.n_range (pa_cons pe_int pa_nil)) (blkOk_by (own := [("lap", 6)]) (N := ["bag", "letters", "first", "second", "ahead", "found", "lap"]) (sc := defScope s__law_some_words) (by decide +kernel)) (fun _ _ _ _ _ => (pg_name (i := 6) sc__law_some_words.nd rfl (Or.inl rfl))) (fun _ _ _ _ _ => pts_nil) (fun _ _ _ _ _ => (pe_op (op_catK (K := K) rfl) (pe_call (ok__law_word_drawn T) (hr.mono (by decide)) rfl T.m__law_word_drawn T.F__law_word_drawn.kp T.b__law_word_drawn .nil pass0 (pa_cons (pv 0) (pa_cons (pv 1) (pa_cons pe_int pa_nil)))) (pv 2)))))))))), ?_⟩
    refine ⟨_, rfl, _, rfl, b, k, 6, rfl, hb, k1, k4, by omega, by omega, fun H1 v1 w1 h1 i1 l1 o1 => ?_⟩
    refine ⟨_, rfl, _, rfl, b, k, 9, rfl, h1.1, k1, k4, by omega, by omega, fun H2 v2 w2 h2 i2 l2 o2 => ?_⟩
    refine ⟨by show 2 ≤ sizeLine; decide, fun H3 t s3 ht => ⟨t, _, rfl, ht, rfl, _, _, rfl, _, _, rfl, rfl, ?_⟩⟩
    have k3 := (h1.trans h2).more s3
    refine ⟨_, rfl, _, rfl, b, k, 3, rfl, k3.1, k1, k4, by omega, by omega, fun H4 v3 w3 h4 i3 l3 o3 => ?_⟩
    have i1' := (i1.stay (Kp.stay h1.1 (h2.more s3))).stay (Kp.stay k3.1 h4)
    have i2' := (i2.same s3).stay (Kp.stay k3.1 h4)
    obtain ⟨a1, rfl, x1⟩ := i1'
    obtain ⟨a2, rfl, x2⟩ := i2'
    obtain ⟨a3, rfl, x3⟩ := i3
    have k4' := k3.trans h4
    clear i1 i2
    refine ⟨_, rfl, _, rfl, _, rfl, _, rfl, a3, a1, _, _, rfl, rfl, x3, x1, szc (by omega) (by omega), fun H5 p5 s5 hp5 => ?_⟩
    refine ⟨_, rfl, _, rfl, a2, a1, _, _, rfl, rfl, Same.sqt s5 x2, Same.sqt s5 x1, szc (by omega) (by omega), fun H6 p6 s6 hp6 => ?_⟩
    have s46 := Same.trans s5 s6
    refine ⟨_, rfl, _, rfl, a3, a2, _, _, rfl, rfl, Same.sqt s46 x3, Same.sqt s46 x2, szc (by omega) (by omega), fun H7 p7 s7 hp7 => ?_⟩
    have s47 := Same.trans s46 s7
    have i7 := isW_app hp7
    obtain ⟨_, z7, x7⟩ := i7
    cases z7
    refine ⟨_, rfl, p7, a1, _, _, rfl, rfl, x7, Same.sqt s47 x1, szc (by rw [List.length_append]; omega) (by omega), fun H8 p8 s8 hp8 => ?_⟩
    have s48 := Same.trans s47 s8
    refine ⟨_, rfl, _, rfl, a1, _, rfl, Same.sqt s48 x1, fun H9 p9 s9 hp9 => ?_⟩
    rw [cut_from w1 (by omega)] at hp9
    have s49 := Same.trans s48 s9
    refine ⟨_, rfl, _, rfl, a2, _, rfl, Same.sqt s49 x2, fun H10 p10 s10 hp10 => ?_⟩
    rw [cut_from w2 (by omega)] at hp10
    have s4a := Same.trans s49 s10
    refine ⟨by show 1 ≤ sizeLine; decide, fun H11 p11 s11 hp11 => ?_⟩
    have s4b := Same.trans s4a s11
    refine ⟨_, rfl, p11, a2, _, _, rfl, rfl, hp11, Same.sqt s4b x2, szc (a := [0]) (by decide) (by omega), fun H12 p12 s12 hp12 => ?_⟩
    refine ⟨by show 0 ≤ sizeLine; decide, fun H13 p13 s13 hp13 => ?_⟩
    refine ⟨by show 9 ≤ sizeLine; decide, fun H14 f s14 hf0 hf => ?_⟩
    -- the list of the nine
    have s4e := Same.trans s4b (Same.trans s12 (Same.trans s13 s14))
    have nine : IsWs K H14 [.ref a1, .ref a2, .ref p5, .ref p6, .ref p8, .ref p9, .ref p10, .ref p12, .ref p13] [w1, w2, w3 ++ w1, w2 ++ w1, (w3 ++ w2) ++ w1, w1.drop 1, w2.drop 1, 0 :: w2, []] := by
      have e5 := isW_app hp5
      have e6 := isW_app hp6
      have e8 := isW_app hp8
      have e13 := Same.trans s13 s14
      have e12 := Same.trans s12 e13
      have e11 := Same.trans s11 e12
      have e10 := Same.trans s10 e11
      have e9 := Same.trans s9 e10
      have e08 := Same.trans s8 e9
      have e07 := Same.trans s7 e08
      have e06 := Same.trans s6 e07
      exact .cons ⟨a1, rfl, Same.sqt s4e x1⟩ (.cons ⟨a2, rfl, Same.sqt s4e x2⟩ (.cons (e5.same e06) (.cons (e6.same e07) (.cons (e8.same e9) (.cons ⟨p9, rfl, Same.sqt e10 hp9⟩ (.cons ⟨p10, rfl, Same.sqt e11 hp10⟩ (.cons ⟨p12, rfl, Same.sqt e13 hp12⟩ (.cons ⟨p13, rfl, Same.sqt s14 hp13⟩ .nil))))))))
    have k14 := k4'.more s4e
    have nf : f ≠ b := ne_bag (k4'.more (Same.trans s4b (Same.trans s12 s13))).1 hf0
    refine ⟨_, rfl, 2, rfl, by omega, by omega, ?_⟩
    refine lc_rngB (i := 6) (fun H y => ∃ ws, IsW K H y ws ∧ ws.length ≤ 100 ∧ okR k ws) (fun H H' y e ⟨ws, z, r⟩ => ⟨ws, z.stay e, r⟩) k14.1 (by rw [sizeLine_eq]; decide) (fun j hj H15 Q15 k15 q15 => ?_) fun H15 c ys k15 hc0 hc hl hy => ?_
    · refine ⟨_, rfl, _, rfl, b, k, 90, rfl, k15.1, k1, k4, by omega, by omega, fun H16 v16 w16 k16 i16 l16 o16 => ?_⟩
      obtain ⟨a16, rfl, x16⟩ := i16
      have x1' := (Kp.stay k15.1 k16).sqt ((Kp.stay k14.1 k15).sqt (Same.sqt s4e x1))
      refine ⟨_, rfl, a16, a1, _, _, rfl, rfl, x16, x1', szc (by omega) (by omega), fun H17 p17 s17 hp17 => q15 H17 _ (k16.more s17) ⟨_, isW_app hp17, by rw [List.length_append]; omega, okR_app o16 o1⟩⟩
    · have hf15 := k15.2 _ _ nf hf
      refine ⟨f, c, _, _, rfl, rfl, hf15, hc, by rw [hl, sizeLine_eq]; simp, fun H16 p s16 hp0 hp => ?_⟩
      obtain ⟨ws2, hws2, hl2, ho2⟩ := words_at hy
      refine q H16 p _ _ ((k14.trans k15).more s16) (ne_bag k15.1 hp0) hp (((IsWs.stay (Kp.stay k14.1 k15) nine).app hws2).same s16) (by simp [hl2, hl]) fun ws hws => ?_
      rcases List.mem_append.mp hws with h | h
      · simp only [List.mem_cons, List.not_mem_nil, or_false] at h
        have z0 : okR k (0 :: w2) := fun x hx => (List.mem_cons.mp hx).elim (fun e => by omega) (o2 x)
        rcases h with rfl | rfl | rfl | rfl | rfl | rfl | rfl | rfl | rfl
        · exact ⟨by omega, o1⟩
        · exact ⟨by omega, o2⟩
        · exact ⟨by rw [List.length_append]; omega, okR_app o3 o1⟩
        · exact ⟨by rw [List.length_append]; omega, okR_app o2 o1⟩
        · exact ⟨by rw [List.length_append, List.length_append]; omega, okR_app (okR_app o3 o2) o1⟩
        · exact ⟨by rw [List.length_drop]; omega, okR_drop 1 o1⟩
        · exact ⟨by rw [List.length_drop]; omega, okR_drop 1 o2⟩
        · exact ⟨by rw [List.length_cons]; omega, z0⟩
        · exact ⟨by decide, fun x hx => by cases hx⟩
      · exact ho2 ws h
end
end K00
/-! M7 -/
set_option linter.all false
set_option maxRecDepth 100000
namespace K00
open RL
theorem ordW_neg (a b : List Int) : ordW b a = 0 - ordW a b := by
  unfold ordW
  rw [lexLt_eq, lexLt_eq]
  by_cases c : a = b
  · rw [if_pos c, if_pos c.symm]; rfl
  · rw [if_neg c, if_neg (fun z => c z.symm)]
    rcases lt_tri a.reverse b.reverse with h | h | h
    · rw [decide_eq_true h, decide_eq_false (fun z => lt_ir _ (lt_tr h z))]; rfl
    · exact absurd (List.reverse_inj.mp h) c
    · rw [decide_eq_true h, decide_eq_false (fun z => lt_ir _ (lt_tr h z))]; rfl
theorem lex_pre : ∀ (p x y : List Int), HT.lexLt (p ++ x) (p ++ y) = HT.lexLt x y
  | [], _, _ => rfl
  | u :: p, x, y => by
    show (if u = u then HT.lexLt (p ++ x) (p ++ y) else _) = _
    rw [if_pos rfl, lex_pre p x y]
theorem ordW_app (a b c : List Int) : ordW (a ++ c) (b ++ c) = ordW a b := by
  unfold ordW
  rw [List.reverse_append, List.reverse_append, lex_pre]
  by_cases h : a = b
  · rw [if_pos h, if_pos (by rw [h])]
  · rw [if_neg h, if_neg (fun z => h (List.append_cancel_right z))]
theorem letters_rev {k : Int} {a : List Int} (h : ∀ x ∈ a, 0 ≤ x ∧ x < k) : letters k a.reverse := fun x hx => h x (List.mem_reverse.mp hx)
theorem ordW_plc {k : Int} (hk : 1 ≤ k) {a b : List Int} {n : Nat} (ha : a.length ≤ n) (hb : b.length ≤ n) (la : ∀ x ∈ a, 0 ≤ x ∧ x < k) (lb : ∀ x ∈ b, 0 ≤ x ∧ x < k) : plc k n a.reverse < plc k n b.reverse ↔ ordW a b < 0 := by
  have ha' : a.reverse.length ≤ n := by rw [List.length_reverse]; exact ha
  have hb' : b.reverse.length ≤ n := by rw [List.length_reverse]; exact hb
  rw [ordW_lt]
  rcases lt_tri a.reverse b.reverse with h | h | h
  · exact ⟨fun _ => h, fun _ => plc_lt hk _ _ n ha' hb' (letters_rev la) (letters_rev lb) h⟩
  · rw [h]
    exact ⟨fun z => absurd z (Int.lt_irrefl _), fun z => absurd z (lt_ir _)⟩
  · have := plc_lt hk _ _ n hb' ha' (letters_rev lb) (letters_rev la) h
    exact ⟨fun z => by omega, fun z => absurd (lt_tr h z) (lt_ir _)⟩
theorem sum_pow (k : Int) : ∀ n : Nat, ((List.range (n + 1)).map fun i => k ^ i).sum = sz k n
  | 0 => by simp [sz]
  | n + 1 => by
    have h : ∀ m : Nat, ((List.range (m + 1)).map fun i => k ^ i).sum = ((List.range m).map fun i => k ^ i).sum * k + 1 := by
      intro m
      induction m with
      | zero => simp
      | succ m ih =>
        have e1 : ((List.range (m + 1 + 1)).map fun i => k ^ i).sum = ((List.range (m + 1)).map fun i => k ^ i).sum + k ^ (m + 1) := by
          rw [List.range_succ (n := m + 1), List.map_append, List.sum_append]
          simp
        have e2 : ((List.range (m + 1)).map fun i => k ^ i).sum = ((List.range m).map fun i => k ^ i).sum + k ^ m := by
          rw [List.range_succ (n := m), List.map_append, List.sum_append]
          simp
        have e3 := ih.symm.trans e2
        rw [e1, ih]
        conv => rhs; rw [e3]
        rw [Int.add_mul, Int.pow_succ]
        omega
    rw [h (n + 1), sum_pow k n]
    rfl
theorem sz_28 {k : Int} (hk : 1 ≤ k) (h4 : k ≤ 4) {n : Nat} (hn : n ≤ 28) : sz k n < 2 ^ 64 :=
  Int.lt_of_le_of_lt (Int.le_trans (sz_k hk h4 n) (sz_le (by decide) n 28 hn)) (by decide)
end K00
/-! K00m -/
set_option Elab.async false
set_option linter.all false
set_option maxRecDepth 100000
set_option maxHeartbeats 2000000
namespace K00
open PySem PySem.Spec PyProof.Rows L2 PpSet RL
def sp_pairR (K : PySem.W.Frag) : Sp := fun vs H Q _ => ∃ (k : Int) (v u t : V) (a b c : List Int), vs = [.int k, v, u, t] ∧ 1 ≤ k ∧ k ≤ 4 ∧ IsW K H v a ∧ IsW K H u b ∧ IsW K H t c ∧ a.length ≤ 100 ∧ b.length ≤ 100 ∧ c.length ≤ 100 ∧ okR k a ∧ okR k b ∧ okR k c ∧ ∀ H', Same H H' → Q (.bl true) H'
theorem okW_of {k : Int} {a : List Int} (h : a.length ≤ 200) (o : okR k a) : okW k a := ⟨h, o⟩
theorem words_dp {K : PySem.W.Frag} {H : Hp} : ∀ {ys wss}, IsWs K H ys wss → DpAll K H ys (wss.map dTup)
  | _, _, .nil => .nil
  | _, _, .cons h t => .cons h.dp (words_dp t)
theorem words_lay : ∀ wss : List (List Int), PyData.canLayAll0 (wss.map dTup) = true
  | [] => by simp only [List.map_nil, PyData.canLayAll0]
  | ws :: wss => by
    rw [List.map_cons]
    simp only [PyData.canLayAll0, PyData.canLay0, lay_ints, words_lay wss, Bool.and_self]
theorem words_depth : ∀ wss : List (List Int), PyData.depthAll (wss.map dTup) ≤ 1
  | [] => by simp [PyData.depthAll]
  | ws :: wss => by
    have := depth_tup ws
    have := words_depth wss
    rw [List.map_cons]
    simp only [PyData.depthAll]
    omega
theorem words_shaped (wss : List (List Int)) : SeqAt.shaped (.list (wss.map dTup)) = true := by
  have := words_depth wss
  unfold SeqAt.shaped
  rw [Bool.and_eq_true]
  exact ⟨by simp only [PyData.canLay0, words_lay], decide_eq_true (by simp only [PyData.depth]; omega)⟩
theorem words_shapedT (wss : List (List Int)) : SeqAt.shaped (.tuple (wss.map dTup)) = true := by
  have := words_depth wss
  unfold SeqAt.shaped
  rw [Bool.and_eq_true]
  exact ⟨by simp only [PyData.canLay0, words_lay], decide_eq_true (by simp only [PyData.depth]; omega)⟩
theorem words_eqvAll : ∀ wss : List (List Int), PyData.eqvAll (wss.map dTup) (wss.map dTup) = true
  | [] => by simp [PyData.eqvAll]
  | ws :: wss => by
    rw [List.map_cons]
    simp only [PyData.eqvAll, words_eqvAll wss, Bool.and_true]
    rw [eqv_tup]
    simp
theorem words_eqv (wss : List (List Int)) : PyData.eqv (.list (wss.map dTup)) (.list (wss.map dTup)) = true := by
  simp only [PyData.eqv, words_eqvAll]
theorem words_eqvT (wss : List (List Int)) : PyData.eqv (.tuple (wss.map dTup)) (.tuple (wss.map dTup)) = true := by
  simp only [PyData.eqv, words_eqvAll]
def sp_listsR : Sp := fun vs H Q _ => ∃ (b : Addr) (k : Int), vs = [.ref b, .int k] ∧ Bag b H ∧ 1 ≤ k ∧ k ≤ 4 ∧ ∀ H', Kp b H H' → Q (.bl true) H'
section
variable {P : Program} {w : World} {K : PySem.W.Frag} {mg : Str → Option Value} {base : Heap}
theorem ok__law_pair_right (T : Txt K mg) : FnOk P w K mg base CX0 6 T.a__law_pair_right T.d__law_pair_right ["letters", "one", "other", "behind"] (sp_pairR K) := by
  refine T.F__law_pair_right.ok sc__law_pair_right (fun vs H Q E h => ?_) (fun cdv A outer s H vs Q E hr h => ?_)
  · obtain ⟨k, v, u, t, a, b, c, rfl, _⟩ := h
    rfl
  · obtain ⟨k, v, u, t, a, b, c, rfl, k1, k4, ha, hb, hc, za, zb, zc, oa, ob, oc, q⟩ := h
    refine ⟨_, (pss_cons (ps_set (i := 4) sc__law_pair_right.nd rfl (Or.inl rfl) (pe_call (ok__law_wd_compared T) (hr.mono (by decide)) rfl T.m__law_wd_compared T.F__law_wd_compared.kp T.b__law_wd_compared .nil pass0 (pa_cons (pv 1) (pa_cons (pv 2) pa_nil)))) (pss_cons (ps_if (PW.pt (pw_or (pt_cmpR op_ne (pe_call (ok_compare_words T) (hr.mono (by decide)) rfl T.m_compare_words T.F_compare_words.kp T.b_compare_words .nil pass0 (pa_cons (pv 0) (pa_cons (pv 1) (pa_cons (pv 2) pa_nil)))) (pv 4) (nomark _)) (pw_or1 (pt_cmpR op_ne (pe_call (ok_compare_words T) (hr.mono (by decide)) rfl T.m_compare_words T.F_compare_words.kp T.b_compare_words .nil pass0 (pa_cons (pv 0) (pa_cons (pv 2) (pa_cons (pv 1) pa_nil)))) (pe_op op_sub pe_int (pv 4)) (nomark _))))) (pss_one (ps_ret pe_bl)) pss_nil) (pss_cons (ps_if (PW.pt (pw_or (pt_cmpR op_ne (pe_call (ok_compare_words T) (hr.mono (by decide)) rfl T.m_compare_words T.F_compare_words.kp T.b_compare_words .nil pass0 (pa_cons (pv 0) (pa_cons (pe_op (op_catK (K := K) rfl) (pv 1) (pv 3)) (pa_cons (pe_op (op_catK (K := K) rfl) (pv 2) (pv 3)) pa_nil)))) (pv 4) (nomark _)) (pw_or1 (pt_cmpR op_ne (pe_call (ok_common_end T) (hr.mono (by decide)) rfl T.m_common_end T.F_common_end.kp T.b_common_end .nil pass0 (pa_cons (pv 0) (pa_cons (pv 1) (pa_cons (pv 2) pa_nil)))) (pe_call (ok__law_wd_common T) (hr.mono (by decide)) rfl T.m__law_wd_common T.F__law_wd_common.kp T.b__law_wd_common .nil pass0 (pa_cons (pv 1) (pa_cons (pv 2) pa_nil))) (nomark _))))) (pss_one (ps_ret pe_bl)) pss_nil) (pss_one (ps_ret (pe_cmpR op_eq (pe_callB call_repr_bl rfl T.n_repr (by decide +kernel) (pa_cons (pe_call (ok_is_end T) (hr.mono (by decide)) rfl T.m_is_end T.F_is_end.kp T.b_is_end .nil pass0 (pa_cons (pv 0) (pa_cons (pv 1) (pa_cons (pv 2) pa_nil)))) pa_nil)) (pe_callB call_repr_bl rfl T.n_repr (by decide +kernel) (pa_cons (pe_call (ok__law_wd_is_end T) (hr.mono (by decide)) rfl T.m__law_wd_is_end T.F__law_wd_is_end.kp T.b__law_wd_is_end .nil pass0 (pa_cons (pv 1) (pa_cons (pv 2) pa_nil))) pa_nil)) (nomark _))))))), ?_⟩
    have wa := okW_of (by omega) oa
    have wb := okW_of (by omega) ob
    refine ⟨_, rfl, _, rfl, v, u, a, b, rfl, ha, hb, by omega, by omega, fun H1 s1 => ?_⟩
    refine ⟨_, rfl, _, rfl, _, rfl, k, v, u, a, b, rfl, k1, k4, ha.same s1, hb.same s1, wa, wb, fun H2 s2 => ?_⟩
    have s02 := Same.trans s1 s2
    refine ⟨_, rfl, rfl, _, rfl, ifF (neF rfl) ?_⟩
    refine ⟨_, rfl, _, rfl, _, rfl, k, u, v, b, a, rfl, k1, k4, hb.same s02, ha.same s02, wb, wa, fun H3 s3 => ?_⟩
    have s03 := Same.trans s02 s3
    refine ⟨_, rfl, _, _, rfl, rfl, rfl, _, rfl, ifF (neF (congrArg V.int (ordW_neg a b))) ?_⟩
    -- with the same word behind
    obtain ⟨x, rfl, hx⟩ := ha.same s03
    obtain ⟨y, rfl, hy⟩ := hb.same s03
    obtain ⟨z, rfl, hz⟩ := hc.same s03
    refine ⟨_, rfl, _, rfl, _, rfl, x, z, _, _, rfl, rfl, hx, hz, szc (by omega) (by omega), fun H4 p4 s4 hp4 => ?_⟩
    refine ⟨_, rfl, _, rfl, y, z, _, _, rfl, rfl, Same.sqt s4 hy, Same.sqt s4 hz, szc (by omega) (by omega), fun H5 p5 s5 hp5 => ?_⟩
    have i4 := (isW_app hp4).same s5
    have i5 := isW_app hp5
    refine ⟨k, _, _, _, _, rfl, k1, k4, i4, i5, okW_of (by rw [List.length_append]; omega) (okR_app oa oc), okW_of (by rw [List.length_append]; omega) (okR_app ob oc), fun H6 s6 => ?_⟩
    have s36 := Same.trans s4 (Same.trans s5 s6)
    refine ⟨_, rfl, rfl, _, rfl, ifF (neF (congrArg V.int (ordW_app a b c))) ?_⟩
    have ha6 : IsW K H6 (.ref x) a := ⟨x, rfl, Same.sqt s36 hx⟩
    have hb6 : IsW K H6 (.ref y) b := ⟨y, rfl, Same.sqt s36 hy⟩
    refine ⟨_, rfl, _, rfl, _, rfl, k, _, _, a, b, rfl, k1, k4, ha6, hb6, wa, wb, fun H7 s7 => ?_⟩
    refine ⟨_, rfl, _, rfl, _, _, a, b, rfl, ha6.same s7, hb6.same s7, by omega, by omega, fun H8 s8 => ?_⟩
    have s68 := Same.trans s7 s8
    refine ⟨rfl, _, rfl, ifF (neF rfl) ?_⟩
    refine ⟨_, rfl, _, rfl, _, rfl, k, _, _, a, b, rfl, k1, k4, ha6.same s68, hb6.same s68, wa, wb, fun H9 s9 => ?_⟩
    have s69 := Same.trans s68 s9
    refine ⟨_, rfl, _, rfl, _, rfl, _, _, a, b, rfl, ha6.same s69, hb6.same s69, by omega, by omega, fun H10 s10 => ?_⟩
    refine ⟨_, rfl, rfl, ?_⟩
    rw [decide_eq_true rfl]
    exact q H10 (Same.trans s03 (Same.trans s36 (Same.trans s69 s10)))
theorem ok__law_lists_right (T : Txt K mg) : FnOk P w K mg base CX0 8 T.a__law_lists_right T.d__law_lists_right ["bag", "letters"] (sp_listsR) := by
  refine T.F__law_lists_right.ok sc__law_lists_right (fun vs H Q E h => ?_) (fun cdv A outer s H vs Q E hr h => ?_)
  · obtain ⟨b, k, rfl, _⟩ := h
    rfl
  · obtain ⟨b, k, rfl, hb, k1, k4, q⟩ := h
    refine ⟨_, (pss_cons (ps_set (i := 2) sc__law_lists_right.nd rfl (Or.inl rfl) (pe_call (ok__law_grab T) (hr.mono (by decide)) rfl T.m__law_grab T.F__law_grab.kp T.b__law_grab .nil pass0 (pa_cons (pv 0) (pa_cons (pe_ix ix_list (pe_lstS (pa_cons pe_int (pa_cons pe_int (pa_cons pe_int (pa_cons pe_int pa_nil))))) (pe_op op_sub (pv 1) pe_int) (fun _ _ => rfl)) pa_nil)))) (pss_cons (ps_if (pt_cmpR (op_neD hr.units) (pe_listG (E := E0) (pgen_call (E := E0) (ok_words_of T) (hr.mono (by decide)) rfl T.m_words_of T.F_words_of.kp T.b_words_of .nil (pa_cons (pv 1) (pa_cons (pv 2) pa_nil))) passE0 noStopE0 (hr.mono (by decide)) rfl T.n_list (by decide +kernel)) (pe_call (ok__law_wd_of T) (hr.mono (by decide)) rfl T.m__law_wd_of T.F__law_wd_of.kp T.b__law_wd_of .nil pass0 (pa_cons (pv 1) (pa_cons (pv 2) pa_nil))) (nomark _)) (pss_one (ps_ret pe_bl)) pss_nil) (pss_cons (ps_set (i := 3) sc__law_lists_right.nd rfl (Or.inl rfl) (pe_call (ok__law_wd_to T) (hr.mono (by decide)) rfl T.m__law_wd_to T.F__law_wd_to.kp T.b__law_wd_to .nil pass0 (pa_cons (pv 1) (pa_cons (pv 2) pa_nil)))) (pss_cons (ps_if (pt_cmpR (op_neD hr.units) (pe_listG (E := E0) (pgen_call (E := E0) (ok_words_to T) (hr.mono (by decide)) rfl T.m_words_to T.F_words_to.kp T.b_words_to .nil (pa_cons (pv 1) (pa_cons (pv 2) pa_nil))) passE0 noStopE0 (hr.mono (by decide)) rfl T.n_list (by decide +kernel)) (pv 3) (nomark _)) (pss_one (ps_ret pe_bl)) pss_nil) (pss_cons (ps_set (i := 4) sc__law_lists_right.nd rfl (Or.inl rfl) (pe_call (ok__law_grab T) (hr.mono (by decide)) rfl T.m__law_grab T.F__law_grab.kp T.b__law_grab .nil pass0 (pa_cons (pv 0) (pa_cons (pe_callB call_len_seq rfl T.n_len (by decide +kernel) (pa_cons (pv 3) pa_nil)) pa_nil)))) (pss_one (ps_ret (pe_and (pe_cmpR op_eq (pe_call (ok_word_place T) (hr.mono (by decide)) rfl T.m_word_place T.F_word_place.kp T.b_word_place .nil pass0 (pa_cons (pv 1) (pa_cons (pv 2) (pa_cons (pe_ix ix_list (pv 3) (pv 4) (fun _ _ => rfl)) pa_nil)))) (pv 4) (nomark _)) (pe_one (pe_cmpR (op_eqD hr.units) (pe_call (ok_word_at T) (hr.mono (by decide)) rfl T.m_word_at T.F_word_at.kp T.b_word_at .nil pass0 (pa_cons (pv 1) (pa_cons (pv 2) (pa_cons (pv 4) pa_nil)))) (pe_ix ix_list (pv 3) (pv 4) (fun _ _ => rfl)) (nomark _))))))))))), ?_⟩
    obtain ⟨lim, hlim, hl9, hcomb⟩ : ∃ lim : Int, ([9, 9, 6, 5] : List Int)[(k - 1).toNat]? = some lim ∧ 1 ≤ lim ∧ ∀ r : Int, 0 ≤ r → r < lim → lim ≤ 9 ∧ (k, r.toNat) ∈ combos := by
      have hk : k = 1 ∨ k = 2 ∨ k = 3 ∨ k = 4 := by omega
      rcases hk with rfl | rfl | rfl | rfl
      · refine ⟨9, rfl, by decide, fun r r0 r1 => ⟨by decide, ?_⟩⟩
        have h : ∀ n : Nat, n < 9 → ((1 : Int), n) ∈ combos := by decide +kernel
        exact h _ (by omega)
      · refine ⟨9, rfl, by decide, fun r r0 r1 => ⟨by decide, ?_⟩⟩
        have h : ∀ n : Nat, n < 9 → ((2 : Int), n) ∈ combos := by decide +kernel
        exact h _ (by omega)
      · refine ⟨6, rfl, by decide, fun r r0 r1 => ⟨by decide, ?_⟩⟩
        have h : ∀ n : Nat, n < 6 → ((3 : Int), n) ∈ combos := by decide +kernel
        exact h _ (by omega)
      · refine ⟨5, rfl, by decide, fun r r0 r1 => ⟨by decide, ?_⟩⟩
        have h : ∀ n : Nat, n < 5 → ((4 : Int), n) ∈ combos := by decide +kernel
        exact h _ (by omega)
    have hlim9 : lim ≤ 9 := (hcomb 0 (by omega) (by omega)).1
    refine ⟨_, rfl, by show 4 ≤ sizeLine; decide, fun H1 p1 s1 hp0 hp1 => ?_⟩
    refine ⟨_, rfl, _, _, rfl, rfl, p1, _, _, .int lim, rfl, rfl, SqL.of hp1, ?_, ?_⟩
    · exact at_int (k := [9, 9, 6, 5]) (by omega) hlim
    refine ⟨b, lim, rfl, hb.same s1, by omega, by omega, fun H2 r k2 r0 r1 => ?_⟩
    have k02 := (Kp.of hb s1).trans k2
    obtain ⟨n, rfl⟩ := Int.eq_ofNat_of_zero_le r0
    have hc : (k, n) ∈ combos := by
      have := (hcomb n r0 r1).2
      rwa [Int.toNat_natCast] at this
    -- the words of the length
    refine ⟨_, rfl, _, rfl, k, n, rfl, hc, fun H3 ys s3 hys p hp0 => ?_⟩
    refine ⟨_, rfl, _, rfl, k, n, rfl, hc, fun H4 p4 ys4 s4 hp40 hp4 hys4 => ?_⟩
    have s34 := Same.trans (same_upd hp0 _) s4
    refine ⟨_, _, .lst (SqL.of (s4 _ _ upd_same)) (words_dp (hys.same s34)), .lst (SqL.of hp4) (words_dp hys4), words_shaped _, words_shaped _, _, rfl, ifF ?_ ?_⟩
    · rw [words_eqv]
      rfl
    have k24 := k02.more (Same.trans s3 s34)
    -- the words up to the length
    refine ⟨_, rfl, _, rfl, k, n, rfl, hc, fun H5 p5 ys5 s5 hp50 hp5 hys5 => ?_⟩
    have k05 := k24.more s5
    have n5 := ne_bag k24.1 hp50
    refine ⟨_, rfl, _, rfl, k, n, rfl, hc, fun H6 ys6 s6 hys6 p6 hp60 => ?_⟩
    have s56 := Same.trans s6 (same_upd hp60 (.lst ys6))
    refine ⟨_, rfl, _, _, .lst (SqL.of upd_same) (words_dp (hys6.same (same_upd hp60 _))), .lst (SqL.of (s56 _ _ hp5)) (words_dp (hys5.same s56)), words_shaped _, words_shaped _, _, rfl, ifF ?_ ?_⟩
    · rw [words_eqv]
      rfl
    have ok := to_ok hc
    have k06 := k05.more s56
    have hp56 := s56 _ _ hp5
    have hl := hys5.length
    have hl0 := (List.getElem?_eq_some_iff.mp ok.first).1
    have hl1 := ok.len
    refine ⟨_, rfl, _, rfl, _, _, rfl, .inl (SqL.of hp56), b, _, rfl, k06.1, by omega, by omega, fun H7 r k7 r0 r1 => ?_⟩
    obtain ⟨at_, rfl⟩ := Int.eq_ofNat_of_zero_le r0
    have hat : at_ < ys5.length := by omega
    have hp57 := k7.2 _ _ n5 hp56
    have hys7 := IsWs.stay (Kp.stay k06.1 k7) (hys5.same s56)
    obtain ⟨v, ev⟩ : ∃ v, ys5[at_]? = some v := ⟨_, List.getElem?_eq_getElem hat⟩
    obtain ⟨ws, ew, hws⟩ := hys7.at ev
    have hat2 : (at_ : Int).toNat = at_ := Int.toNat_natCast _
    obtain ⟨o1, o2⟩ := ok.okw ws (List.mem_of_getElem? ew)
    have hpl := ok.place at_ ws ew
    have hn8 := (combos_bd hc).2.2
    have wok : okW k ws := okW_of (by omega) o2
    refine ⟨_, rfl, _, rfl, _, rfl, _, rfl, p5, _, _, v, rfl, rfl, SqL.of hp57, at_v (by omega) (by rw [hat2]; exact ev), k, n, v, ws, rfl, k1, k4, by omega, hws, wok, o1, fun H8 s8 => ?_⟩
    refine ⟨_, rfl, rfl, _, rfl, ifT (decide_eq_true (by rw [hpl])) ?_⟩
    have hb2 := plc_bd k1 ws.reverse n (by rw [List.length_reverse]; exact o1) (letters_rev o2)
    rw [hpl] at hb2
    refine ⟨_, rfl, _, rfl, _, rfl, k, n, _, rfl, k1, k4, by omega, by omega, hb2.2, fun H9 v9 s9 hv9 => ?_⟩
    have ew9 : (wat k n (at_ : Int)).reverse = ws := by
      rw [← hpl, wat_plc k1 ws.reverse n (by rw [List.length_reverse]; exact o1) (letters_rev o2), List.reverse_reverse]
    rw [ew9] at hv9
    have s79 := Same.trans s8 s9
    refine ⟨_, rfl, _, rfl, p5, _, _, v, rfl, rfl, SqL.of (s79 _ _ hp57), at_v (by omega) (by rw [hat2]; exact ev), _, _, hv9.dp, (hws.same s79).dp, shaped_tup _, shaped_tup _, ?_⟩
    rw [eqv_tup, decide_eq_true rfl]
    exact q H9 ((k06.trans k7).more s79)
end
end K00
/-! K00n -/
set_option Elab.async false
set_option linter.all false
set_option maxRecDepth 100000
set_option maxHeartbeats 2000000
namespace K00
open PySem PySem.Spec PyProof.Rows L2 PpSet RL
def sp_placesR (K : PySem.W.Frag) : Sp := fun vs H Q _ => ∃ (b : Addr) (k : Int) (v u : V) (x y : List Int), vs = [.ref b, .int k, v, u] ∧ Bag b H ∧ 1 ≤ k ∧ k ≤ 4 ∧ IsW K H v x ∧ IsW K H u y ∧ x.length ≤ 24 ∧ y.length ≤ 24 ∧ okR k x ∧ okR k y ∧ ∀ H', Kp b H H' → Q (.bl true) H'
section
variable {P : Program} {w : World} {K : PySem.W.Frag} {mg : Str → Option Value} {base : Heap}
theorem ok__law_places_right (T : Txt K mg) : FnOk P w K mg base CX0 5 T.a__law_places_right T.d__law_places_right ["bag", "letters", "one", "other"] (sp_placesR K) := by
  refine T.F__law_places_right.ok sc__law_places_right (fun vs H Q E h => ?_) (fun cdv A outer s H vs Q E hr h => ?_)
  · obtain ⟨b, k, v, u, x, y, rfl, _⟩ := h
    rfl
  · obtain ⟨b, k, v, u, x, y, rfl, hb, k1, k4, ⟨a1, rfl, hx⟩, ⟨a2, rfl, hy⟩, zx, zy, ox, oy, q⟩ := h
    refine ⟨_, (pss_cons (ps_set (i := 4) sc__law_places_right.nd rfl (Or.inl rfl) (pe_op op_add (pe_callB (call_max2 rfl) rfl T.n_max (by decide +kernel) (pa_cons (pe_callB call_len_seq rfl T.n_len (by decide +kernel) (pa_cons (pv 2) pa_nil)) (pa_cons (pe_callB call_len_seq rfl T.n_len (by decide +kernel) (pa_cons (pv 3) pa_nil)) pa_nil))) (pe_call (ok__law_grab T) (hr.mono (by decide)) rfl T.m__law_grab T.F__law_grab.kp T.b__law_grab .nil pass0 (pa_cons (pv 0) (pa_cons pe_int pa_nil))))) (pss_cons (ps_par (i := 5) (j := 6) rfl sc__law_places_right.nd rfl rfl (by decide) rfl rfl (pa_cons (pe_call (ok_word_place T) (hr.mono (by decide)) rfl T.m_word_place T.F_word_place.kp T.b_word_place .nil pass0 (pa_cons (pv 1) (pa_cons (pv 4) (pa_cons (pv 2) pa_nil)))) (pa_cons (pe_call (ok_word_place T) (hr.mono (by decide)) rfl T.m_word_place T.F_word_place.kp T.b_word_place .nil pass0 (pa_cons (pv 1) (pa_cons (pv 4) (pa_cons (pv 3) pa_nil)))) pa_nil)) rfl) (pss_cons (ps_if (PW.pt (pw_or (pt_cmpR (op_neD hr.units) (pe_call (ok_word_at T) (hr.mono (by decide)) rfl T.m_word_at T.F_word_at.kp T.b_word_at .nil pass0 (pa_cons (pv 1) (pa_cons (pv 4) (pa_cons (pv 5) pa_nil)))) (pv 2) (nomark _)) (pw_or1 (pt_cmpR op_ne (pe_cmpR op_lt (pv 5) (pv 6) (nomark _)) (pe_cmpR op_lt (pe_call (ok__law_wd_compared T) (hr.mono (by decide)) rfl T.m__law_wd_compared T.F__law_wd_compared.kp T.b__law_wd_compared .nil pass0 (pa_cons (pv 2) (pa_cons (pv 3) pa_nil))) pe_int (nomark _)) (nomark _))))) (pss_one (ps_ret pe_bl)) pss_nil) (pss_cons (ps_if (PW.pt (pw_and (pt_cmpR op_lt (pe_callB call_len_seq rfl T.n_len (by decide +kernel) (pa_cons (pv 2) pa_nil)) (pv 4) (nomark _)) (pw_and1 (pt_cmpR op_ne (pe_call (ok_word_place T) (hr.mono (by decide)) rfl T.m_word_place T.F_word_place.kp T.b_word_place .nil pass0 (pa_cons (pv 1) (pa_cons (pv 4) (pa_cons (pe_op (op_catK (K := K) rfl) (pe_tupK (K := K) rfl (pa_cons pe_int pa_nil)) (pv 2)) pa_nil)))) (pe_op op_add (pv 5) pe_int) (nomark _))))) (pss_one (ps_ret pe_bl)) pss_nil) (pss_cons (ps_set (i := 7) sc__law_places_right.nd rfl (Or.inl rfl) (pe_callB (cr_sum rfl) rfl T.n_sum (by decide +kernel) (pa_cons (pe_lc (own := [("length", 10)]) rfl sc__law_places_right.nd (pi_range1 rfl T.n_range (pa_cons (pe_op op_add (pv 4) pe_int) pa_nil)) (blkOk_by (own := [("length", 10)]) (N := ["bag", "letters", "one", "other", "most", "left", "right", "total", "number", "word", "length"]) (sc := defScope s__law_places_right) (by decide +kernel)) (fun _ _ _ _ _ => (pg_name (i := 10) sc__law_places_right.nd rfl (Or.inl rfl))) (fun _ _ _ _ _ => pts_nil) (fun _ _ _ _ _ => (pe_call (ok__law_power T) (hr.mono (by decide)) rfl T.m__law_power T.F__law_power.kp T.b__law_power .nil pass0 (pa_cons (pv 1) (pa_cons (pv 10) pa_nil))))) pa_nil))) (pss_cons (ps_set (i := 8) sc__law_places_right.nd rfl (Or.inl rfl) (pe_call (ok__law_grab T) (hr.mono (by decide)) rfl T.m__law_grab T.F__law_grab.kp T.b__law_grab .nil pass0 (pa_cons (pv 0) (pa_cons (pv 7) pa_nil)))) (pss_cons (ps_set (i := 9) sc__law_places_right.nd rfl (Or.inl rfl) (pe_call (ok_word_at T) (hr.mono (by decide)) rfl T.m_word_at T.F_word_at.kp T.b_word_at .nil pass0 (pa_cons (pv 1) (pa_cons (pv 4) (pa_cons (pv 8) pa_nil))))) (pss_one (ps_ret (pe_and (pe_call (ok__law_is_word_due T) (hr.mono (by decide)) rfl T.m__law_is_word_due T.F__law_is_word_due.kp T.b__law_is_word_due .nil pass0 (pa_cons (pv 1) (pa_cons (pv 9) pa_nil))) (pe_and (pe_cmpR op_le (pe_callB call_len_seq rfl T.n_len (by decide +kernel) (pa_cons (pv 9) pa_nil)) (pv 4) (nomark _)) (pe_one (pe_cmpR op_eq (pe_call (ok_word_place T) (hr.mono (by decide)) rfl T.m_word_place T.F_word_place.kp T.b_word_place .nil pass0 (pa_cons (pv 1) (pa_cons (pv 4) (pa_cons (pv 9) pa_nil)))) (pv 8) (nomark _)))))))))))))), ?_⟩
    refine ⟨_, rfl, _, _, rfl, .inr hx, _, rfl, _, _, rfl, .inr hy, _, _, rfl, ?_⟩
    refine ⟨_, rfl, b, 4, rfl, hb, by decide, by decide, fun H1 r h1 r0 r1 => ⟨_, _, rfl, rfl, ?_⟩⟩
    rw [List.length_map, List.length_map]
    obtain ⟨g, rfl⟩ := Int.eq_ofNat_of_zero_le r0
    obtain ⟨n, en⟩ : ∃ n : Nat, (if (y.length : Int) > (x.length : Int) then (y.length : Int) else (x.length : Int)) + (g : Int) = (n : Int) := ⟨max x.length y.length + g, by split <;> omega⟩
    have nx : x.length ≤ n ∧ y.length ≤ n ∧ n ≤ 27 := by
      split at en <;> omega
    obtain ⟨nx, ny, n27⟩ := nx
    show gName 4 (V.int ((if (y.length : Int) > (x.length : Int) then (y.length : Int) else (x.length : Int)) + (g : Int))) _ _ _
    rw [en]
    have st1 := Kp.stay hb h1
    have hx1 := st1.sqt hx
    have hy1 := st1.sqt hy
    have wx : okW k x := okW_of (by omega) ox
    have wy : okW k y := okW_of (by omega) oy
    refine ⟨_, rfl, _, rfl, _, rfl, k, n, _, x, rfl, k1, k4, by omega, ⟨a1, rfl, hx1⟩, wx, nx, fun H2 s2 => ?_⟩
    refine ⟨_, rfl, _, rfl, _, rfl, k, n, _, y, rfl, k1, k4, by omega, ⟨a2, rfl, Same.sqt s2 hy1⟩, wy, ny, fun H3 s3 => ⟨_, _, rfl, ?_⟩⟩
    have px := plc_bd k1 x.reverse n (by rw [List.length_reverse]; exact nx) (letters_rev ox)
    have s13 := Same.trans s2 s3
    refine ⟨_, rfl, _, rfl, _, rfl, k, n, _, rfl, k1, k4, by omega, px.1, px.2, fun H4 v4 s4 hv4 => ?_⟩
    rw [wat_plc k1 x.reverse n (by rw [List.length_reverse]; exact nx) (letters_rev ox), List.reverse_reverse] at hv4
    have s14 := Same.trans s13 s4
    have hx4 : IsW K H4 (.ref a1) x := ⟨a1, rfl, Same.sqt s14 hx1⟩
    have hy4 : IsW K H4 (.ref a2) y := ⟨a2, rfl, Same.sqt s14 hy1⟩
    refine ⟨_, rfl, _, _, hv4.dp, hx4.dp, shaped_tup _, shaped_tup _, _, rfl, ifF ?_ ?_⟩
    · rw [eqv_tup, decide_eq_true rfl]; rfl
    refine ⟨_, rfl, _, rfl, _, _, rfl, rfl, ?_⟩
    refine ⟨_, rfl, _, rfl, _, _, x, y, rfl, hx4, hy4, by omega, by omega, fun H5 s5 => ?_⟩
    refine ⟨_, _, rfl, rfl, rfl, _, rfl, ifF (neF ?_) ?_⟩
    · exact congrArg V.bl (decide_eq_decide.mpr (ordW_plc k1 nx ny ox oy))
    have s15 := Same.trans s14 s5
    have hx5 := Same.sqt s15 hx1
    dsimp only [tNext]
    refine seq_mid (t2 := tIfS (tAnd _ _) _ _) (fun σ H' => Same H5 H' ∧ σ = [some (.ref b), some (.int k), some (.ref a1), some (.ref a2), some (.int (n : Int)), some (.int (plc k n x.reverse)), some (.int (plc k n y.reverse)), none, none, none, none]) ?_ fun nx hnx => ?_
    · rintro σ H6 ⟨s6, rfl⟩
      have k6 := (h1.more s15).more s6
      refine ⟨_, rfl, _, _, rfl, rfl, (n : Int) + 1, rfl, by omega, by omega, ?_⟩
      refine lc_rngF (i := 10) (fun j => V.int (k ^ j)) (by rw [sizeLine_eq]; omega) (fun j hj H7 Q7 s7 q7 => ?_) fun H7 c s7 hc0 hc => ?_
      · exact ⟨_, rfl, _, rfl, k, j, by rw [Int.zero_add]; rfl, by omega, k4, by omega, q7 H7 (Same.refl H7)⟩
      have en1 : ((n : Int) + 1).toNat = n + 1 := by omega
      rw [en1] at hc
      have s57 := Same.trans s6 s7
      have k7 := k6.more s7
      have ht := sz_pos k1 n
      have ht2 := sz_28 k1 k4 (n := n) (by omega)
      refine ⟨c, (List.range (n + 1)).map fun i => k ^ i, rfl, SqL.of (by rw [List.map_map]; exact hc), ?_⟩
      rw [sum_pow]
      refine ⟨_, rfl, _, rfl, b, sz k n, rfl, k7.1, by omega, ht2, fun H8 m k8 m0 m1 => ?_⟩
      obtain ⟨w1, w2, w3⟩ := wat_ok k1 n m m0 m1
      have wl : (wat k n m).reverse.length ≤ n := by rw [List.length_reverse]; exact w1
      have wo : okR k (wat k n m).reverse := letters_rev w2
      refine ⟨_, rfl, _, rfl, _, rfl, k, n, m, rfl, k1, k4, by omega, m0, m1, fun H9 v9 s9 hv9 => ?_⟩
      obtain ⟨a9, rfl, h9⟩ := hv9
      generalize hw9 : (wat k n m).reverse = w9 at h9 wl wo
      have k9 := (k7.trans k8).more s9
      refine ⟨_, rfl, _, rfl, k, _, rfl, .inr ⟨a9, _, rfl, h9, by rw [List.length_map]; omega, fun z hz => ?_, fun H10 s10 => ?_⟩⟩
      · obtain ⟨i, _, rfl⟩ := List.mem_map.mp hz
        exact .inl ⟨i, rfl⟩
      have h10 := Same.sqt s10 h9
      rw [spelled_ok (okW_of (by omega) wo) (by decide)]
      refine ⟨_, rfl, iteT ⟨_, rfl, _, _, rfl, .inr h10, _, rfl, _, _, rfl, rfl, ?_⟩⟩
      rw [List.length_map]
      refine ⟨_, rfl, ifT (decide_eq_true (by omega)) ⟨_, rfl, _, rfl, _, rfl, k, n, _, w9, rfl, k1, k4, by omega, ⟨a9, rfl, h10⟩, okW_of (by omega) wo, wl, fun H11 s11 => ?_⟩⟩
      refine ⟨_, rfl, rfl, ?_⟩
      have e : plc k n w9.reverse = m := by rw [← hw9, List.reverse_reverse]; exact w3
      rw [e, decide_eq_true rfl]
      exact q H11 (k9.more (Same.trans s10 s11))
    · refine ⟨_, rfl, _, _, rfl, .inr hx5, _, rfl, _, _, rfl, rfl, _, rfl, ?_⟩
      rw [List.length_map]
      by_cases c : x.length < n
      · refine ifT (decide_eq_true (by omega)) ?_
        refine ⟨_, rfl, _, rfl, by show 1 ≤ sizeLine; decide, fun H6 p6 s6 hp6 => ⟨_, rfl, p6, a1, _, _, rfl, rfl, hp6, Same.sqt s6 hx5, szc (a := [0]) (by decide) (by omega), fun H7 p7 s7 hp7 => ?_⟩⟩
        have i7 : IsW K H7 (.ref p7) (0 :: x) := ⟨p7, rfl, hp7⟩
        have o7 : okR k (0 :: x) := fun z hz => (List.mem_cons.mp hz).elim (fun e => by omega) (ox z)
        refine ⟨k, n, _, 0 :: x, rfl, k1, k4, by omega, i7, okW_of (by rw [List.length_cons]; omega) o7, by rw [List.length_cons]; omega, fun H8 s8 => ?_⟩
        refine ⟨_, rfl, _, _, rfl, rfl, rfl, _, rfl, ifF (neF ?_) (hnx _ _ ⟨Same.trans s6 (Same.trans s7 s8), rfl⟩)⟩
        show V.int (plc k n (0 :: x).reverse) = V.int (plc k n x.reverse + 1)
        rw [List.reverse_cons, plc_zero _ _ (by rw [List.length_reverse]; exact c)]
      · exact ifF (decide_eq_false (by omega)) (hnx _ _ ⟨Same.refl _, rfl⟩)
end
end K00
/-! K00o -/
set_option Elab.async false
set_option linter.all false
set_option maxRecDepth 100000
set_option maxHeartbeats 4000000
namespace K00
open PySem PySem.Spec PyProof.Rows L2 PpSet RL
def sp_right : Sp := fun vs H Q _ => ∃ (b : Addr), vs = [.ref b] ∧ Bag b H ∧ ∀ H', Kp b H H' → Q (.bl true) H'
theorem IsWs.mem {K : PySem.W.Frag} {H : Hp} {v : V} : ∀ {vs ks}, IsWs K H vs ks → v ∈ vs → ∃ ws ∈ ks, IsW K H v ws
  | _, _, .nil, h => by cases h
  | _, _, .cons g t, h => by
    rcases List.mem_cons.mp h with e | e
    · exact ⟨_, List.mem_cons_self, e ▸ g⟩
    · obtain ⟨ws, h1, h2⟩ := IsWs.mem t e
      exact ⟨ws, List.mem_cons_of_mem _ h1, h2⟩
theorem sorted_uniq {l m : List (List Int)} (hl : (l.map List.reverse).Pairwise (· < ·)) (hm : (m.map List.reverse).Pairwise (· < ·)) (h : ∀ x, x ∈ l ↔ x ∈ m) : l = m := by
  have e : l.map List.reverse = m.map List.reverse := by
    refine rise_uniq (· < ·) lt_ir (fun _ _ _ => lt_tr) hl hm fun x => ?_
    rw [List.mem_map, List.mem_map]
    exact ⟨fun ⟨z, hz, e⟩ => ⟨z, (h z).mp hz, e⟩, fun ⟨z, hz, e⟩ => ⟨z, (h z).mpr hz, e⟩⟩
  have e2 := congrArg (List.map List.reverse) e
  rw [List.map_map, List.map_map] at e2
  have e3 : (List.reverse ∘ List.reverse : List Int → List Int) = id := by
    funext x
    exact List.reverse_reverse x
  rw [e3, List.map_id, List.map_id] at e2
  exact e2
/-- what the answers of the two readings are asked about -/
def NearV (K : PySem.W.Frag) (H : Hp) (v : V) : Prop := (∃ t, TyX K H v t ∧ PySem.W.kitOne K t (.type "tuple") = some false) ∨ ∃ a xs, v = .ref a ∧ SqT K H a xs ∧ xs.length ≤ 1000 ∧ ∀ x ∈ xs, ItemV K H x
theorem tyx_same {K : PySem.W.Frag} {H H' : Hp} {v : V} {t : Value} (s : Same H H') (h : TyX K H v t) : TyX K H' v t := by
  cases h with
  | base h =>
    cases h with
    | non => exact .base .non
    | bl x => exact .base (.bl x)
    | int i => exact .base (.int i)
    | str x => exact .base (.str x)
    | flt x => exact .base (.flt x)
    | lst e => exact .base (.lst (s _ _ e))
    | frz e => exact .base (.frz (s _ _ e))
    | tup e => exact .base (.tup (s _ _ e))
    | dK e => exact .base (.dK (s _ _ e))
    | dT e => exact .base (.dT (s _ _ e))
    | ins e cl ha hn htk hm => exact .base (.ins (s _ _ e) cl ha hn htk hm)
  | byt b => exact .byt b
  | set e => exact .set (s _ _ e)
  | kList e c => exact .kList e c
  | kTuple e c => exact .kTuple e c
  | kDict e c => exact .kDict e c
  | fTuple e => exact .fTuple (s _ _ e)
  | fDict e => exact .fDict (s _ _ e)
theorem NearV.same {K : PySem.W.Frag} {H H' : Hp} {v : V} (h : NearV K H v) (s : Same H H') : NearV K H' v := by
  rcases h with ⟨t, h1, h2⟩ | ⟨a, xs, e, h1, h2, h3⟩
  · exact .inl ⟨t, tyx_same s h1, h2⟩
  · exact .inr ⟨a, xs, e, Same.sqt s h1, h2, fun x hx => (h3 x hx).same s⟩
theorem near_word {K : PySem.W.Frag} {H : Hp} {v : V} {ws : List Int} (h : IsW K H v ws) (hz : ws.length ≤ 1000) : NearV K H v := by
  obtain ⟨a, rfl, h⟩ := h
  refine .inr ⟨a, _, rfl, h, by rw [List.length_map]; exact hz, fun x hx => ?_⟩
  obtain ⟨i, _, rfl⟩ := List.mem_map.mp hx
  exact .inl ⟨i, rfl⟩
section
variable {P : Program} {w : World} {K : PySem.W.Frag} {mg : Str → Option Value} {base : Heap}
theorem ok__law_right (T : Txt K mg) : FnOk P w K mg base CX0 9 T.a__law_right T.d__law_right ["bag"] sp_right := by
  refine T.F__law_right.ok sc__law_right (fun vs H Q E h => ?_) (fun cdv A outer s H vs Q E hr h => ?_)
  · obtain ⟨b, rfl, _⟩ := h
    rfl
  · obtain ⟨b, rfl, hb, q⟩ := h
    refine ⟨_, (pss_cons (ps_set (i := 1) sc__law_right.nd rfl (Or.inr rfl) (pe_call (ok__law_one_of T) (hr.mono (by decide)) rfl T.m__law_one_of T.F__law_one_of.kp T.b__law_one_of .nil pass0 (pa_cons (pv 0) (pa_cons (pe_lstS (pa_cons pe_int (pa_cons pe_int (pa_cons pe_int (pa_cons pe_int pa_nil))))) pa_nil)))) (pss_cons (ps_set (i := 2) sc__law_right.nd rfl (Or.inr rfl) (pe_call (ok__law_some_words T) (hr.mono (by decide)) rfl T.m__law_some_words T.F__law_some_words.kp T.b__law_some_words .nil pass0 (pa_cons (pv 0) (pa_cons (pv 1) pa_nil)))) (pss_cons (ps_for PassesOwn.never rfl (pi_range1 rfl T.n_range (pa_cons pe_int pa_nil)) (pg_name (i := 3) sc__law_right.nd rfl (Or.inl rfl)) (pss_one (ps_if (pt_not (pt_val (pe_call (ok__law_pair_right T) (hr.mono (by decide)) rfl T.m__law_pair_right T.F__law_pair_right.kp T.b__law_pair_right .nil pass0 (pa_cons (pv 1) (pa_cons (pe_call (ok__law_one_of T) (hr.mono (by decide)) rfl T.m__law_one_of T.F__law_one_of.kp T.b__law_one_of .nil pass0 (pa_cons (pv 0) (pa_cons (pv 2) pa_nil))) (pa_cons (pe_call (ok__law_one_of T) (hr.mono (by decide)) rfl T.m__law_one_of T.F__law_one_of.kp T.b__law_one_of .nil pass0 (pa_cons (pv 0) (pa_cons (pv 2) pa_nil))) (pa_cons (pe_call (ok__law_word_drawn T) (hr.mono (by decide)) rfl T.m__law_word_drawn T.F__law_word_drawn.kp T.b__law_word_drawn .nil pass0 (pa_cons (pv 0) (pa_cons (pv 1) (pa_cons pe_int pa_nil)))) pa_nil))))))) (pss_one (ps_ret pe_bl)) pss_nil))) (pss_cons (ps_setLc (i := 4) (own := [("lap", 3)]) rfl sc__law_right.nd rfl rfl (sw_true rfl rfl rfl (by decide +kernel)) (pi_range1 rfl T.n_range (pa_cons pe_int pa_nil)) (blkOk_by (own := [("lap", 3)]) (N := ["bag", "letters", "words", "lap", "some", "one", "other", "near", "value"]) (sc := defScope s__law_right) (by decide +kernel)) (fun _ _ _ _ _ => (pg_name (i := 3) sc__law_right.nd rfl (Or.inl rfl))) (fun _ _ _ _ _ => pts_nil) (fun _ _ _ _ _ => (pe_call (ok__law_one_of T) (hr.mono (by decide)) rfl T.m__law_one_of T.F__law_one_of.kp T.b__law_one_of .nil pass0 (pa_cons (pv 0) (pa_cons (pv 2) pa_nil))))) (pss_cons (ps_if (pt_cmpR (op_neD hr.units) (pe_call (ok_sorted_words T) (hr.mono (by decide)) rfl T.m_sorted_words T.F_sorted_words.kp T.b_sorted_words .nil pass0 (pa_cons (pv 1) (pa_cons (pe_callTy call_tupS rfl T.n_tuple (by decide +kernel) (pa_cons (pv 4) pa_nil)) pa_nil))) (pe_callTy call_tupS rfl T.n_tuple (by decide +kernel) (pa_cons (pe_call (ok__law_wd_sorted T) (hr.mono (by decide)) rfl T.m__law_wd_sorted T.F__law_wd_sorted.kp T.b__law_wd_sorted .nil pass0 (pa_cons (pv 4) pa_nil)) pa_nil)) (nomark _)) (pss_one (ps_ret pe_bl)) pss_nil) (pss_cons (ps_par (i := 5) (j := 6) rfl sc__law_right.nd rfl rfl (by decide) rfl rfl (pa_cons (pe_call (ok__law_word_drawn T) (hr.mono (by decide)) rfl T.m__law_word_drawn T.F__law_word_drawn.kp T.b__law_word_drawn .nil pass0 (pa_cons (pv 0) (pa_cons (pv 1) (pa_cons pe_int pa_nil)))) (pa_cons (pe_call (ok__law_word_drawn T) (hr.mono (by decide)) rfl T.m__law_word_drawn T.F__law_word_drawn.kp T.b__law_word_drawn .nil pass0 (pa_cons (pv 0) (pa_cons (pv 1) (pa_cons pe_int pa_nil)))) pa_nil)) rfl) (pss_cons (ps_if (PW.pt (pw_or (pt_not (pt_val (pe_call (ok__law_lists_right T) (hr.mono (by decide)) rfl T.m__law_lists_right T.F__law_lists_right.kp T.b__law_lists_right .nil pass0 (pa_cons (pv 0) (pa_cons (pv 1) pa_nil))))) (pw_or1 (pt_not (pt_val (pe_call (ok__law_places_right T) (hr.mono (by decide)) rfl T.m__law_places_right T.F__law_places_right.kp T.b__law_places_right .nil pass0 (pa_cons (pv 0) (pa_cons (pv 1) (pa_cons (pv 5) (pa_cons (pv 6) pa_nil)))))))))) (pss_one (ps_ret pe_bl)) pss_nil) (pss_cons (ps_set (i := 7) sc__law_right.nd rfl (Or.inl rfl) (pe_op op_catL (pe_slice sl_lstU (pv 2) po_none (po_some pe_int)) (pe_lstS (pa_cons pe_non (pa_cons (pe_tupK (K := K) rfl (pa_cons (pv 1) pa_nil)) (pa_cons (pe_tupK (K := K) rfl (pa_cons (pe_un un_neg pe_int) pa_nil)) (pa_cons (pe_tupK (K := K) rfl (pa_cons pe_bl pa_nil)) (pa_cons (pe_lstS (pa_cons pe_int pa_nil)) (pa_cons (pe_op op_repS (pe_tupK (K := K) rfl (pa_cons pe_int pa_nil)) pe_int) (pa_cons (pe_op op_repS (pe_tupK (K := K) rfl (pa_cons pe_int pa_nil)) pe_int) (pa_cons pe_str (pa_cons (pe_tupK (K := K) rfl (pa_cons (pe_tupK (K := K) rfl (pa_cons pe_int pa_nil)) pa_nil)) (pa_cons (pe_tupK (K := K) rfl (pa_cons pe_int (pa_cons pe_non pa_nil))) (pa_cons pe_int (pa_cons pe_dnewK (pa_cons (pe_tupK (K := K) rfl (pa_cons (pe_op op_pow pe_int pe_int) pa_nil)) pa_nil)))))))))))))))) (pss_one (ps_ret (pe_cmpR (op_eqD hr.units) (pe_lc (own := [("value", 8)]) rfl sc__law_right.nd (pi_list (pv 7)) (blkOk_by (own := [("value", 8)]) (N := ["bag", "letters", "words", "lap", "some", "one", "other", "near", "value"]) (sc := defScope s__law_right) (by decide +kernel)) (fun _ _ _ _ _ => (pg_name (i := 8) sc__law_right.nd rfl (Or.inl rfl))) (fun _ _ _ _ _ => (pts_one (pt_cmpR op_ne (pe_callB call_repr_bl rfl T.n_repr (by decide +kernel) (pa_cons (pe_call (ok_is_word T) (hr.mono (by decide)) rfl T.m_is_word T.F_is_word.kp T.b_is_word .nil pass0 (pa_cons (pv 1) (pa_cons (pv 8) pa_nil))) pa_nil)) (pe_callB call_repr_bl rfl T.n_repr (by decide +kernel) (pa_cons (pe_call (ok__law_is_word_due T) (hr.mono (by decide)) rfl T.m__law_is_word_due T.F__law_is_word_due.kp T.b__law_is_word_due .nil pass0 (pa_cons (pv 1) (pa_cons (pv 8) pa_nil))) pa_nil)) (nomark _)))) (fun _ _ _ _ _ => (pv 8))) (pe_lstS pa_nil) (nomark _)))))))))))), ?_⟩
    refine ⟨_, rfl, by show 4 ≤ sizeLine; decide, fun H1 l1 s1 hl0 hl1 => ?_⟩
    refine ⟨b, l1, _, rfl, hb.same s1, ne_bag hb hl0, hl1, by decide, by decide, fun H2 v k2 hv => ?_⟩
    obtain ⟨k, rfl, k1, k4⟩ : ∃ k : Int, v = .int k ∧ 1 ≤ k ∧ k ≤ 4 := by
      simp only [List.mem_cons, List.not_mem_nil, or_false] at hv
      rcases hv with rfl | rfl | rfl | rfl
      · exact ⟨2, rfl, by decide, by decide⟩
      · exact ⟨3, rfl, by decide, by decide⟩
      · exact ⟨1, rfl, by decide, by decide⟩
      · exact ⟨4, rfl, by decide, by decide⟩
    have k02 := (Kp.of hb s1).trans k2
    refine ⟨_, rfl, _, rfl, b, k, rfl, k2.1, k1, k4, fun H3 p ys wss k3 np hp hys hlen hok => ?_⟩
    have k03 := k02.trans k3
    have hyl := hys.length
    -- pairs of words
    refine ⟨12, rfl, by omega, by omega, for_range (fun i σ H4 => Kp b H3 H4 ∧ ∃ u, σ = [some (.ref b), some (.int k), some (.ref p), u, none, none, none, none, none]) ⟨Kp.refl k3.1, _, rfl⟩ ?_ ?_⟩
    · rintro i σ H4 hi ⟨k34, u, rfl⟩
      refine ⟨_, rfl, _, rfl, _, rfl, b, p, ys, rfl, k34.1, np, k34.2 _ _ np hp, by omega, by omega, fun H5 v1 k45 hv1 => ?_⟩
      have k35 := k34.trans k45
      refine ⟨_, rfl, _, rfl, b, p, ys, rfl, k45.1, np, k35.2 _ _ np hp, by omega, by omega, fun H6 v2 k56 hv2 => ?_⟩
      have k36 := k35.trans k56
      refine ⟨_, rfl, _, rfl, b, k, 4, rfl, k56.1, k1, k4, by omega, by omega, fun H7 v3 w3 k67 i3 l3 o3 => ?_⟩
      have k37 := k36.trans k67
      have hys7 := IsWs.stay (Kp.stay k3.1 k37) hys
      obtain ⟨w1, m1, i1⟩ := hys7.mem hv1
      obtain ⟨w2, m2, i2⟩ := hys7.mem hv2
      refine ⟨k, v1, v2, v3, w1, w2, w3, rfl, k1, k4, i1, i2, i3, (hok w1 m1).1, (hok w2 m2).1, by omega, (hok w1 m1).2, (hok w2 m2).2, o3, fun H8 s8 => ?_⟩
      exact ⟨_, rfl, iteF ⟨k37.more s8, _, rfl⟩⟩
    rintro σ H4 ⟨k34, u, rfl⟩
    -- some of them, sorted
    refine ⟨9, rfl, by omega, by omega, ?_⟩
    refine lc_rngB (i := 3) (fun H y => ∃ ws, IsW K H y ws ∧ ws ∈ wss) (fun H H' y e ⟨ws, z, r⟩ => ⟨ws, z.stay e, r⟩) k34.1 (by rw [sizeLine_eq]; decide) (fun j hj H5 Q5 k45 q5 => ?_) fun H5 c zs k45 hc0 hc hl hy => ?_
    · have k35 := k34.trans k45
      refine ⟨_, rfl, _, rfl, b, p, ys, rfl, k45.1, np, k35.2 _ _ np hp, by omega, by omega, fun H6 v1 k56 hv1 => ?_⟩
      obtain ⟨w1, m1, i1⟩ := (IsWs.stay (Kp.stay k3.1 (k35.trans k56)) hys).mem hv1
      exact q5 H6 v1 k56 ⟨w1, i1, m1⟩
    obtain ⟨zss, hzss, hzl, hzm⟩ := words_at hy
    have k35 := k34.trans k45
    have nc := ne_bag k34.1 hc0
    have hl9 : zs.length = 9 := hl
    have hsub : ∀ x ∈ zss, x.length ≤ 100 ∧ okR k x := fun x hx => hok x (hzm x hx)
    refine ⟨_, rfl, _, rfl, c, zs, rfl, .inl (SqL.of hc), fun H6 t s6 ht => ?_⟩
    refine ⟨k, t, zs, zss, rfl, k1, k4, ht, hzss.same s6, by omega, fun x hx => okW_of (by have := (hsub x hx).1; omega) (hsub x hx).2, fun H7 p7 ys7 out7 s7 hp7 hys7 hr7 hm7 => ?_⟩
    have s67 := Same.trans s6 s7
    refine ⟨_, rfl, c, zs, zss, rfl, s67 _ _ hc, hzss.same s67, by omega, fun x hx => by have := (hsub x hx).1; omega, fun H8 p8 ys8 out8 s8 hp8 hys8 hr8 hm8 => ?_⟩
    refine ⟨p8, ys8, rfl, .inl (SqL.of hp8), fun H9 p9 s9 hp9 => ?_⟩
    have eo : out7 = out8 := sorted_uniq hr7 hr8 fun x => by rw [hm7, hm8]
    subst eo
    have s79 := Same.trans s8 s9
    refine ⟨_, _, .tup (Same.sqt s79 hp7) (words_dp (hys7.same s79)), .tup hp9 (words_dp (hys8.same s9)), words_shapedT _, words_shapedT _, _, rfl, ifF ?_ ?_⟩
    · rw [words_eqvT]
      rfl
    have k39 := k35.more (Same.trans s67 s79)
    -- two more words
    refine ⟨_, rfl, _, rfl, b, k, 24, rfl, k39.1, k1, k4, by omega, by omega, fun H10 v10 w10 k10 i10 l10 o10 => ?_⟩
    refine ⟨_, rfl, _, rfl, b, k, 24, rfl, k10.1, k1, k4, by omega, by omega, fun H11 v11 w11 k11 i11 l11 o11 => ⟨_, _, rfl, ?_⟩⟩
    have i10' := i10.stay (Kp.stay k10.1 k11)
    refine ⟨_, rfl, _, rfl, b, k, rfl, k11.1, k1, k4, fun H12 k12 => ⟨_, rfl, iteF ?_⟩⟩
    have st12 := Kp.stay k11.1 k12
    refine ⟨_, rfl, _, rfl, _, rfl, _, rfl, b, k, _, _, w10, w11, rfl, k12.1, k1, k4, i10'.stay st12, i11.stay st12, by omega, by omega, o10, o11, fun H13 k13 => ⟨_, rfl, iteF ?_⟩⟩
    have k3d := ((k39.trans k10).trans k11).trans (k12.trans k13)
    have hpd := k3d.2 _ _ np hp
    have hysd := IsWs.stay (Kp.stay k3.1 k3d) hys
    -- what is asked about
    refine ⟨_, rfl, _, rfl, p, ys, rfl, SqL.of hpd, fun H14 p14 s14 _ hp14 => ?_⟩
    have e4 : cutV ys none (some 4) = ys.take 4 := cutV_to (i := 4) ys (by omega)
    rw [e4] at hp14
    refine ⟨_, rfl, by show 1 ≤ sizeLine; decide, fun Ha pa sa ha => ?_⟩
    refine ⟨_, rfl, by show 1 ≤ sizeLine; decide, fun Hb pb sb hb' => ?_⟩
    refine ⟨by show 1 ≤ sizeLine; decide, fun Hc pc sc hc' => ?_⟩
    refine ⟨by show 1 ≤ sizeLine; decide, fun Hd pd sd _ hd => ?_⟩
    refine ⟨by show 1 ≤ sizeLine; decide, fun He pe se he => ⟨pe, 200, _, rfl, rfl, he, by decide, by decide, by show 1 ≤ 1000; decide, fun Hf pf sf hf => ?_⟩⟩
    refine ⟨by show 1 ≤ sizeLine; decide, fun Hg pg sg hg => ⟨pg, 201, _, rfl, rfl, hg, by decide, by decide, by show 1 ≤ 1000; decide, fun Hh ph sh hh => ?_⟩⟩
    refine ⟨by show 1 ≤ sizeLine; decide, fun Hi pi' si hi => ⟨by show 1 ≤ sizeLine; decide, fun Hj pj sj hj => ?_⟩⟩
    refine ⟨by show 2 ≤ sizeLine; decide, fun Hk pk sk hk => ?_⟩
    refine fun D hD => ?_
    have sD := same_upd hD (.dK [])
    refine ⟨_, _, rfl, rfl, ⟨by decide, by decide, by decide⟩, by show 1 ≤ sizeLine; decide, fun Hl pl sl hl' => ?_⟩
    refine ⟨by show 13 ≤ sizeLine; decide, fun Hm pm sm _ hm => ?_⟩
    have eD := Same.trans sl sm
    have ek := Same.trans sD eD
    have ej := Same.trans sk ek
    have ei := Same.trans sj ej
    have eh := Same.trans si ei
    have eg := Same.trans sh eh
    have ef := Same.trans sg eg
    have ee := Same.trans sf ef
    have ed := Same.trans se ee
    have ec := Same.trans sd ed
    have eb := Same.trans sc ec
    have ea := Same.trans sb eb
    have e14 := Same.trans sa ea
    refine ⟨p14, pm, _, _, rfl, rfl, e14 _ _ hp14, hm, ?_, fun Hn pn sn _ hn => ?_⟩
    · rw [sizeLine_eq, List.length_take]
      simp only [List.length_cons, List.length_nil]
      omega
    have one : ∀ {x y : V}, x ∈ [y] → x = y := fun h => List.mem_singleton.mp h
    have zero : ∀ {n : Nat} {x : V}, x ∈ (List.replicate n [V.int 0]).flatten → x = .int 0 := fun h => by
      obtain ⟨l, h1, h2⟩ := List.mem_flatten.mp h
      rw [(List.mem_replicate.mp h1).2] at h2
      exact List.mem_singleton.mp h2
    have near : ∀ x ∈ ys.take 4 ++ [V.non, .ref pa, .ref pb, .ref pc, .ref pd, .ref pf, .ref ph, .str "0", .ref pj, .ref pk, .int 0, .ref D, .ref pl], NearV K Hm x := fun x hx => by
      rcases List.mem_append.mp hx with hx | hx
      · obtain ⟨ws, m, i⟩ := hysd.mem (List.mem_of_mem_take hx)
        exact near_word (i.same (Same.trans s14 e14)) (by have := (hok ws m).1; omega)
      · simp only [List.mem_cons, List.not_mem_nil, or_false] at hx
        rcases hx with rfl | rfl | rfl | rfl | rfl | rfl | rfl | rfl | rfl | rfl | rfl | rfl | rfl
        · exact .inl ⟨_, .base .non, kit_ty (by decide +kernel)⟩
        · exact .inr ⟨pa, _, rfl, Same.sqt ea ha, by simp, fun x hx => .inl ⟨_, one hx⟩⟩
        · exact .inr ⟨pb, _, rfl, Same.sqt eb hb', by simp, fun x hx => .inl ⟨_, one hx⟩⟩
        · exact .inr ⟨pc, _, rfl, Same.sqt ec hc', by simp, fun x hx => .inr (.inl ⟨_, one hx⟩)⟩
        · exact .inl ⟨_, .base (.lst (ed _ _ hd)), kit_ty (by decide +kernel)⟩
        · exact .inr ⟨pf, _, rfl, Same.sqt ef hf, by simp, fun x hx => .inl ⟨_, zero hx⟩⟩
        · exact .inr ⟨ph, _, rfl, Same.sqt eh hh, by simp, fun x hx => .inl ⟨_, zero hx⟩⟩
        · exact .inl ⟨_, .base (.str _), kit_ty (by decide +kernel)⟩
        · refine .inr ⟨pj, _, rfl, Same.sqt ej hj, by simp, fun x hx => .inr (.inr (.inr ⟨[0], pi', one hx, Same.sqt ei hi⟩))⟩
        · refine .inr ⟨pk, _, rfl, Same.sqt ek hk, by simp, fun x hx => ?_⟩
          simp only [List.mem_cons, List.not_mem_nil, or_false] at hx
          rcases hx with rfl | rfl
          · exact .inl ⟨_, rfl⟩
          · exact .inr (.inr (.inl rfl))
        · exact .inl ⟨_, .base (.int _), kit_ty (by decide +kernel)⟩
        · exact .inl ⟨_, .base (.dK (eD _ _ upd_same)), kit_ty (by decide +kernel)⟩
        · exact .inr ⟨pl, _, rfl, Same.sqt sm hl', by simp, fun x hx => .inl ⟨_, one hx⟩⟩
    generalize ys.take 4 ++ [V.non, .ref pa, .ref pb, .ref pc, .ref pd, .ref pf, .ref ph, .str "0", .ref pj, .ref pk, .int 0, .ref D, .ref pl] = L at hn near
    have near := fun x hx => (near x hx).same sn
    refine ⟨_, rfl, pn, rfl, ⟨_, SqL.of hn⟩, fun F hF => ?_⟩
    refine lc_list (xs := L) (fun j H2 => Same Hn H2 ∧ H2 F = some (.lst [])) ⟨same_upd hF _, upd_same⟩ (fun j H2 _ z => SqL.of (z.1 _ _ hn)) (fun j x H2 hj z => ?_) fun H2 z => ?_
    · obtain ⟨s2, hF2⟩ := z
      refine ⟨rfl, ?_⟩
      rcases (near x (List.mem_of_getElem? hj)).same s2 with ⟨t, ht, hk⟩ | ⟨a, xs, rfl, hx, hxl, hxi⟩
      · refine ⟨_, rfl, _, rfl, k, x, rfl, k1, k4, .inl ⟨⟨t, ht, hk⟩, ?_⟩⟩
        refine ⟨_, rfl, _, rfl, _, rfl, k, x, rfl, .inl ⟨⟨t, ht, hk⟩, fun H3 s3 => ?_⟩⟩
        exact ⟨_, rfl, rfl, _, rfl, ifF (neF rfl) ⟨Same.trans s2 s3, s3 _ _ hF2⟩⟩
      · refine ⟨_, rfl, _, rfl, k, _, rfl, k1, k4, .inr ⟨a, xs, rfl, hx, by rw [sizeLine_eq]; omega, fun y hy H' s' => ((hxi y hy).same s').num, fun H3 s3 => ?_⟩⟩
        refine ⟨_, rfl, _, rfl, _, rfl, k, _, rfl, .inr ⟨a, xs, rfl, Same.sqt s3 hx, hxl, fun y hy => (hxi y hy).same s3, fun H4 s4 => ?_⟩⟩
        exact ⟨_, rfl, rfl, _, rfl, ifF (neF rfl) ⟨Same.trans s2 (Same.trans s3 s4), s4 _ _ (s3 _ _ hF2)⟩⟩
    · obtain ⟨s2, hF2⟩ := z
      refine ⟨by show 0 ≤ sizeLine; decide, fun H3 e s3 _ he => ?_⟩
      refine ⟨_, _, .lst (SqL.of (s3 _ _ hF2)) .nil, .lst (SqL.of he) .nil, by decide, by decide, ?_⟩
      rw [eqv_nil]
      exact q H3 ((k3d.more (Same.trans s14 (Same.trans e14 (Same.trans sn (Same.trans s2 s3))))) |> k03.trans)
end
end K00
/-! K00p -/
set_option Elab.async false
set_option linter.all false
set_option maxRecDepth 100000
set_option maxHeartbeats 4000000
namespace K00
open PySem PySem.Spec PyProof.Rows L2 PpSet RL
def sp_law (K : PySem.W.Frag) : Sp := fun vs H Q _ => ∃ (a : Addr) (xs : List Int), vs = [.ref a] ∧ (∀ H', Same H H' → SqL K H' a (xs.map V.int)) ∧ xs.length ≤ 100 ∧ ∀ H', Q (.bl true) H'
abbrev long : List Int := List.replicate 199 1
theorem long_1 : ordW long (1 :: long) = -1 := by decide +kernel
theorem long_2 : ordW (0 :: long) long = 1 := by decide +kernel
theorem long_3 : cpl long.reverse (0 :: long).reverse = 199 := by decide +kernel
theorem most_1 : plc 4 60 (List.replicate 60 3).reverse = sz 4 60 - 1 := by decide +kernel
theorem most_2 : (wat 4 60 60).reverse = List.replicate 60 0 := by decide +kernel
theorem most_3 : plc 1 60 (List.replicate 60 0).reverse = 60 := by decide +kernel
theorem most_4 : (wdOf 4 3).length = 64 := by decide +kernel
theorem rep_one (n : Nat) (i : Int) : (List.replicate n [V.int i]).flatten = (List.replicate n i).map V.int := by
  induction n with
  | zero => rfl
  | succ n ih => rw [List.replicate_succ, List.replicate_succ, List.flatten_cons, ih]; rfl
section
variable {P : Program} {w : World} {K : PySem.W.Frag} {mg : Str → Option Value} {base : Heap}
theorem ok_law (T : Txt K mg) : FnOk P w K mg base CX0 10 T.a_law T.d_law ["script"] (sp_law K) := by
  refine T.F_law.ok sc_law (fun vs H Q E h => ?_) (fun cdv A outer s H vs Q E hr h => ?_)
  · obtain ⟨a, xs, rfl, _⟩ := h
    rfl
  · obtain ⟨a, xs, rfl, hx, hz, q⟩ := h
    refine ⟨_, (pss_cons (ps_for PassesOwn.never rfl (pi_range1 rfl T.n_range (pa_cons (pe_callB (call_max2 rfl) rfl T.n_max (by decide +kernel) (pa_cons pe_int (pa_cons (pe_callB (call_min2 rfl) rfl T.n_min (by decide +kernel) (pa_cons pe_int (pa_cons (pe_callB call_len_seq rfl T.n_len (by decide +kernel) (pa_cons (pv 0) pa_nil)) pa_nil))) pa_nil))) pa_nil)) (pg_name (i := 1) sc_law.nd rfl (Or.inl rfl)) (pss_one (ps_if (pt_not (pt_val (pe_call (ok__law_right T) (hr.mono (by decide)) rfl T.m__law_right T.F__law_right.kp T.b__law_right .nil pass0 (pa_cons (pe_call (ok__law_bag T) (hr.mono (by decide)) rfl T.m__law_bag T.F__law_bag.kp T.b__law_bag .nil pass0 (pa_cons (pv 0) (pa_cons (pv 1) pa_nil))) pa_nil)))) (pss_one (ps_ret pe_bl)) pss_nil))) (pss_cons (ps_set (i := 2) sc_law.nd rfl (Or.inl rfl) (pe_op op_repS (pe_tupK (K := K) rfl (pa_cons pe_int pa_nil)) pe_int)) (pss_cons (ps_set (i := 3) sc_law.nd rfl (Or.inl rfl) (pe_lstS (pa_cons (pe_call (ok_compare_words T) (hr.mono (by decide)) rfl T.m_compare_words T.F_compare_words.kp T.b_compare_words .nil pass0 (pa_cons pe_int (pa_cons (pv 2) (pa_cons (pe_op (op_catK (K := K) rfl) (pe_tupK (K := K) rfl (pa_cons pe_int pa_nil)) (pv 2)) pa_nil)))) (pa_cons (pe_call (ok_compare_words T) (hr.mono (by decide)) rfl T.m_compare_words T.F_compare_words.kp T.b_compare_words .nil pass0 (pa_cons pe_int (pa_cons (pe_op (op_catK (K := K) rfl) (pe_tupK (K := K) rfl (pa_cons pe_int pa_nil)) (pv 2)) (pa_cons (pv 2) pa_nil)))) (pa_cons (pe_call (ok_is_end T) (hr.mono (by decide)) rfl T.m_is_end T.F_is_end.kp T.b_is_end .nil pass0 (pa_cons pe_int (pa_cons (pv 2) (pa_cons (pe_op (op_catK (K := K) rfl) (pe_tupK (K := K) rfl (pa_cons pe_int pa_nil)) (pv 2)) pa_nil)))) (pa_cons (pe_call (ok_common_end T) (hr.mono (by decide)) rfl T.m_common_end T.F_common_end.kp T.b_common_end .nil pass0 (pa_cons pe_int (pa_cons (pv 2) (pa_cons (pe_op (op_catK (K := K) rfl) (pe_tupK (K := K) rfl (pa_cons pe_int pa_nil)) (pv 2)) pa_nil)))) pa_nil)))))) (pss_cons (ps_if (PW.pt (pw_or (pt_cmpR (op_neD hr.units) (pv 3) (pe_lstS (pa_cons (pe_un un_neg pe_int) (pa_cons pe_int (pa_cons pe_bl (pa_cons pe_int pa_nil))))) (nomark _)) (pw_or1 (pt_cmpR op_ne (pe_call (ok_word_place T) (hr.mono (by decide)) rfl T.m_word_place T.F_word_place.kp T.b_word_place .nil pass0 (pa_cons pe_int (pa_cons pe_int (pa_cons (pe_op op_repS (pe_tupK (K := K) rfl (pa_cons pe_int pa_nil)) pe_int) pa_nil)))) (pe_op op_sub (pe_callB (cr_sum rfl) rfl T.n_sum (by decide +kernel) (pa_cons (pe_lc (own := [("length", 4)]) rfl sc_law.nd (pi_range1 rfl T.n_range (pa_cons pe_int pa_nil)) (blkOk_by (own := [("length", 4)]) (N := ["script", "spot", "long", "told", "length"]) (sc := defScope s_law) (by decide +kernel)) (fun _ _ _ _ _ => (pg_name (i := 4) sc_law.nd rfl (Or.inl rfl))) (fun _ _ _ _ _ => pts_nil) (fun _ _ _ _ _ => (pe_call (ok__law_power T) (hr.mono (by decide)) rfl T.m__law_power T.F__law_power.kp T.b__law_power .nil pass0 (pa_cons pe_int (pa_cons (pv 4) pa_nil))))) pa_nil)) pe_int) (nomark _))))) (pss_one (ps_ret pe_bl)) pss_nil) (pss_cons (ps_if (PW.pt (pw_or (pt_cmpR (op_neD hr.units) (pe_call (ok_word_at T) (hr.mono (by decide)) rfl T.m_word_at T.F_word_at.kp T.b_word_at .nil pass0 (pa_cons pe_int (pa_cons pe_int (pa_cons pe_int pa_nil)))) (pe_op op_repS (pe_tupK (K := K) rfl (pa_cons pe_int pa_nil)) pe_int) (nomark _)) (pw_or (pt_cmpR op_ne (pe_call (ok_word_place T) (hr.mono (by decide)) rfl T.m_word_place T.F_word_place.kp T.b_word_place .nil pass0 (pa_cons pe_int (pa_cons pe_int (pa_cons (pe_op op_repS (pe_tupK (K := K) rfl (pa_cons pe_int pa_nil)) pe_int) pa_nil)))) pe_int (nomark _)) (pw_or1 (pt_cmpR op_ne (pe_callB call_len_seq rfl T.n_len (by decide +kernel) (pa_cons (pe_listG (E := E0) (pgen_call (E := E0) (ok_words_of T) (hr.mono (by decide)) rfl T.m_words_of T.F_words_of.kp T.b_words_of .nil (pa_cons pe_int (pa_cons pe_int pa_nil))) passE0 noStopE0 (hr.mono (by decide)) rfl T.n_list (by decide +kernel)) pa_nil)) pe_int (nomark _)))))) (pss_one (ps_ret pe_bl)) pss_nil) (pss_one (ps_ret (pe_and (pe_cmpR (op_eqD hr.units) (pe_call (ok_sorted_words T) (hr.mono (by decide)) rfl T.m_sorted_words T.F_sorted_words.kp T.b_sorted_words .nil pass0 (pa_cons pe_int (pa_cons (pe_tupK (K := K) rfl (pa_cons (pe_tupK (K := K) rfl (pa_cons pe_int pa_nil)) (pa_cons (pe_tupK (K := K) rfl (pa_cons pe_int (pa_cons pe_int pa_nil))) (pa_cons (pe_tupK (K := K) rfl (pa_cons pe_int pa_nil)) (pa_cons (pe_tupK (K := K) rfl (pa_cons pe_int (pa_cons pe_int pa_nil))) (pa_cons (pe_tupK (K := K) rfl (pa_cons pe_int (pa_cons pe_int pa_nil))) (pa_cons (pe_tupK (K := K) rfl (pa_cons pe_int pa_nil)) pa_nil))))))) pa_nil))) (pe_tupK (K := K) rfl (pa_cons (pe_tupK (K := K) rfl (pa_cons pe_int pa_nil)) (pa_cons (pe_tupK (K := K) rfl (pa_cons pe_int (pa_cons pe_int pa_nil))) (pa_cons (pe_tupK (K := K) rfl (pa_cons pe_int (pa_cons pe_int pa_nil))) (pa_cons (pe_tupK (K := K) rfl (pa_cons pe_int pa_nil)) (pa_cons (pe_tupK (K := K) rfl (pa_cons pe_int (pa_cons pe_int pa_nil))) pa_nil)))))) (nomark _)) (pe_one (pe_cmpR (op_eqD hr.units) (pe_call (ok_sorted_words T) (hr.mono (by decide)) rfl T.m_sorted_words T.F_sorted_words.kp T.b_sorted_words .nil pass0 (pa_cons pe_int (pa_cons (pe_tupK (K := K) rfl pa_nil) pa_nil))) (pe_tupK (K := K) rfl pa_nil) (nomark _))))))))))), ?_⟩
    refine ⟨_, rfl, _, _, rfl, .inl (hx H (Same.refl H)), _, _, rfl, _, _, rfl, ?_⟩
    rw [List.length_map]
    refine ⟨_, rfl, by split <;> (try split) <;> omega, by split <;> (try split) <;> omega, for_range (fun i σ H2 => Same H H2 ∧ ∃ u, σ = [some (.ref a), u, none, none, none]) ⟨Same.refl H, _, rfl⟩ ?_ ?_⟩
    · rintro i σ H2 hi ⟨s2, u, rfl⟩
      have hi3 : i < 1000 := by
        refine Nat.lt_of_lt_of_le hi ?_
        split <;> (try split) <;> omega
      refine ⟨_, rfl, _, rfl, a, xs, i, by rw [Int.zero_add]; rfl, hx H2 s2, hi3, fun H3 b s3 hb hb0 => ?_⟩
      refine ⟨b, rfl, hb, fun H4 k4 => ⟨_, rfl, iteF ⟨fun c o e => k4.2 c o (fun z => ?_) (Same.trans s2 s3 c o e), _, rfl⟩⟩⟩
      subst z
      rw [s2 _ _ e] at hb0
      cases hb0
    rintro σ H2 ⟨s2, u, rfl⟩
    refine ⟨by show 1 ≤ sizeLine; decide, fun H3 l0 s3 hl0 => ⟨l0, 199, _, rfl, rfl, hl0, by decide, by decide, by show 1 ≤ 1000; decide, fun H4 l s4 hl => ?_⟩⟩
    have e199 : (199 : Int).toNat = 199 := rfl
    rw [e199, rep_one] at hl
    have wl : IsW K H4 (.ref l) long := ⟨l, rfl, hl⟩
    have o1 : ∀ x ∈ long, (0 : Int) ≤ x ∧ x < 2 := fun x hx => by
      rw [List.eq_of_mem_replicate hx]; decide
    have wlong : okW 2 long := ⟨by decide +kernel, o1⟩
    have w1long : okW 2 (1 :: long) := ⟨by decide +kernel, fun x hx => (List.mem_cons.mp hx).elim (fun e => by rw [e]; decide) (o1 x)⟩
    have w0long : okW 2 (0 :: long) := ⟨by decide +kernel, fun x hx => (List.mem_cons.mp hx).elim (fun e => by rw [e]; decide) (o1 x)⟩
    have szl : ∀ i : Int, (([i] : List Int).map V.int).length + (long.map V.int).length ≤ sizeLine := fun i => szc (by show 1 ≤ 1000; decide) (by decide +kernel)
    -- told
    refine ⟨_, rfl, by show 1 ≤ sizeLine; decide, fun H5 a5 s5 h5 => ⟨_, rfl, a5, l, _, _, rfl, rfl, h5, Same.sqt s5 hl, szl 1, fun H6 a6 s6 h6 => ?_⟩⟩
    have s46 := Same.trans s5 s6
    refine ⟨2, _, _, long, 1 :: long, rfl, by decide, by decide, wl.same s46, ⟨a6, rfl, h6⟩, wlong, w1long, fun H7 s7 => ?_⟩
    have s47 := Same.trans s46 s7
    refine ⟨by show 1 ≤ sizeLine; decide, fun H8 a8 s8 h8 => ⟨_, rfl, a8, l, _, _, rfl, rfl, h8, Same.sqt s8 (Same.sqt s47 hl), szl 0, fun H9 a9 s9 h9 => ?_⟩⟩
    have s49 := Same.trans s47 (Same.trans s8 s9)
    refine ⟨_, rfl, 2, _, _, 0 :: long, long, rfl, by decide, by decide, ⟨a9, rfl, h9⟩, wl.same s49, w0long, wlong, fun H10 s10 => ?_⟩
    have s4a := Same.trans s49 s10
    refine ⟨_, rfl, by show 1 ≤ sizeLine; decide, fun H11 a11 s11 h11 => ⟨_, rfl, a11, l, _, _, rfl, rfl, h11, Same.sqt s11 (Same.sqt s4a hl), szl 0, fun H12 a12 s12 h12 => ?_⟩⟩
    have s4c := Same.trans s4a (Same.trans s11 s12)
    refine ⟨2, _, _, long, 0 :: long, rfl, by decide, by decide, wl.same s4c, ⟨a12, rfl, h12⟩, wlong, w0long, fun H13 s13 => ?_⟩
    have s4d := Same.trans s4c s13
    refine ⟨_, rfl, by show 1 ≤ sizeLine; decide, fun H14 a14 s14 h14 => ⟨_, rfl, a14, l, _, _, rfl, rfl, h14, Same.sqt s14 (Same.sqt s4d hl), szl 0, fun H15 a15 s15 h15 => ?_⟩⟩
    have s4f := Same.trans s4d (Same.trans s14 s15)
    refine ⟨2, _, _, long, 0 :: long, rfl, by decide, by decide, wl.same s4f, ⟨a15, rfl, h15⟩, wlong, w0long, fun H16 s16 => ?_⟩
    refine ⟨by show 4 ≤ sizeLine; decide, fun H17 t s17 _ ht => ?_⟩
    have et : [V.int (ordW long (1 :: long)), V.int (ordW (0 :: long) long), V.bl (decide (cpl long.reverse (0 :: long).reverse = long.length)), V.int ((cpl long.reverse (0 :: long).reverse : Nat) : Int)] = [V.int (-1), .int 1, .bl true, .int 199] := by
      rw [long_1, long_2, long_3]
      rfl
    have ht : H17 t = some (.lst [V.int (-1), .int 1, .bl true, .int 199]) := ht.trans (congrArg (fun l => some (HO.lst l)) et)
    refine ⟨_, rfl, _, rfl, by show 4 ≤ sizeLine; decide, fun H18 t2 s18 _ ht2 => ?_⟩
    have dt : ∀ {H : Hp} {t : Addr}, H t = some (.lst [V.int (-1), .int 1, .bl true, .int 199]) → Dp K H (.ref t) (.list [.int (-1), .int 1, .bool true, .int 199]) := fun h => .lst (SqL.of h) (.cons (.int _) (.cons (.int _) (.cons (.bl _) (.cons (.int _) .nil))))
    refine ⟨_, _, dt (s18 _ _ ht), dt ht2, by decide +kernel, by decide +kernel, _, rfl, ifF (by decide +kernel) ?_⟩
    -- the greatest place
    have r3 : ∀ (c : Int) (k : Int), 0 ≤ c → c < k → okW k (List.replicate 60 c) := fun c k h0 h1 => ⟨by rw [List.length_replicate]; decide, fun x hx => by rw [List.eq_of_mem_replicate hx]; exact ⟨h0, h1⟩⟩
    have l60 : ∀ c : Int, (List.replicate 60 c).length ≤ 60 := fun c => by rw [List.length_replicate]; exact Nat.le_refl _
    have e60 : (60 : Int).toNat = 60 := rfl
    refine ⟨by show 1 ≤ sizeLine; decide, fun H19 b1 s19 hb1 => ⟨b1, 60, _, rfl, rfl, hb1, by decide, by decide, by show 1 ≤ 1000; decide, fun H20 b2 s20 hb2 => ?_⟩⟩
    rw [e60, rep_one] at hb2
    refine ⟨4, 60, _, List.replicate 60 3, rfl, by decide, by decide, by decide, ⟨b2, rfl, hb2⟩, r3 3 4 (by decide) (by decide), l60 3, fun H21 s21 => ?_⟩
    refine ⟨61, rfl, by decide, by decide, ?_⟩
    refine lc_rngF (i := 4) (fun j => V.int (4 ^ j)) (by rw [sizeLine_eq]; decide) (fun j hj H7 Q7 s7 q7 => ?_) fun H22 c s22 hc0 hc => ?_
    · exact ⟨_, rfl, 4, j, by rw [Int.zero_add]; rfl, by decide, by decide, by have : j < 61 := hj; omega, q7 H7 (Same.refl H7)⟩
    refine ⟨c, (List.range (60 + 1)).map fun i => (4 : Int) ^ i, rfl, SqL.of (by rw [List.map_map]; exact hc), ?_⟩
    rw [sum_pow]
    refine ⟨_, _, rfl, rfl, rfl, _, rfl, ifF (neF (congrArg V.int most_1)) ?_⟩
    refine ⟨4, 60, 60, rfl, by decide, by decide, by decide, by decide, by decide +kernel, fun H23 v s23 hv => ?_⟩
    rw [most_2] at hv
    refine ⟨by show 1 ≤ sizeLine; decide, fun H24 b3 s24 hb3 => ⟨b3, 60, _, rfl, rfl, hb3, by decide, by decide, by show 1 ≤ 1000; decide, fun H25 b4 s25 hb4 => ?_⟩⟩
    rw [e60, rep_one] at hb4
    refine ⟨_, _, (hv.same (Same.trans s24 s25)).dp, IsW.dp ⟨b4, rfl, hb4⟩, shaped_tup _, shaped_tup _, _, rfl, ifF ?_ ?_⟩
    · rw [eqv_tup, decide_eq_true rfl]; rfl
    refine ⟨by show 1 ≤ sizeLine; decide, fun H26 b5 s26 hb5 => ⟨b5, 60, _, rfl, rfl, hb5, by decide, by decide, by show 1 ≤ 1000; decide, fun H27 b6 s27 hb6 => ?_⟩⟩
    rw [e60, rep_one] at hb6
    refine ⟨1, 60, _, List.replicate 60 0, rfl, by decide, by decide, by decide, ⟨b6, rfl, hb6⟩, r3 0 1 (by decide) (by decide), l60 0, fun H28 s28 => ?_⟩
    refine ⟨rfl, _, rfl, ifF (neF (congrArg V.int most_3)) ?_⟩
    refine ⟨4, 3, rfl, by decide +kernel, fun H29 ys s29 hys p hp0 => ?_⟩
    refine ⟨_, _, rfl, .inl (SqL.of upd_same), rfl, _, rfl, ifF (neF ?_) ?_⟩
    · rw [hys.length, most_4]
      rfl
    -- words in order
    refine ⟨by show 1 ≤ sizeLine; decide, fun G1 c1 g1 e1 => ⟨by show 2 ≤ sizeLine; decide, fun G2 c2 g2 e2 => ⟨by show 1 ≤ sizeLine; decide, fun G3 c3 g3 e3 => ⟨by show 2 ≤ sizeLine; decide, fun G4 c4 g4 e4 => ⟨by show 2 ≤ sizeLine; decide, fun G5 c5 g5 e5 => ⟨by show 1 ≤ sizeLine; decide, fun G6 c6 g6 e6 => ⟨by show 6 ≤ sizeLine; decide, fun G7 c7 g7 e7 => ?_⟩⟩⟩⟩⟩⟩⟩
    have f6 := g7
    have f5 := Same.trans g6 f6
    have f4 := Same.trans g5 f5
    have f3 := Same.trans g4 f4
    have f2 := Same.trans g3 f3
    have f1 := Same.trans g2 f2
    have six : IsWs K G7 [.ref c1, .ref c2, .ref c3, .ref c4, .ref c5, .ref c6] [[1], [0, 1], [0], [1, 0], [0, 0], [1]] :=
      .cons ⟨_, rfl, Same.sqt f1 e1⟩ (.cons ⟨_, rfl, Same.sqt f2 e2⟩ (.cons ⟨_, rfl, Same.sqt f3 e3⟩ (.cons ⟨_, rfl, Same.sqt f4 e4⟩ (.cons ⟨_, rfl, Same.sqt f5 e5⟩ (.cons ⟨_, rfl, Same.sqt f6 e6⟩ .nil)))))
    refine ⟨2, c7, _, _, rfl, by decide, by decide, e7, six, by decide, ?_, fun G8 p8 ys8 out8 g8 hp8 hys8 hr8 hm8 => ?_⟩
    · intro ws hws
      simp only [List.mem_cons, List.not_mem_nil, or_false] at hws
      rcases hws with rfl | rfl | rfl | rfl | rfl | rfl <;> exact ⟨by decide, by decide⟩
    refine ⟨by show 1 ≤ sizeLine; decide, fun I1 d1 i1 j1 => ⟨by show 2 ≤ sizeLine; decide, fun I2 d2 i2 j2 => ⟨by show 2 ≤ sizeLine; decide, fun I3 d3 i3 j3 => ⟨by show 1 ≤ sizeLine; decide, fun I4 d4 i4 j4 => ⟨by show 2 ≤ sizeLine; decide, fun I5 d5 i5 j5 => ⟨by show 5 ≤ sizeLine; decide, fun I6 d6 i6 j6 => ?_⟩⟩⟩⟩⟩⟩
    have m5 := i6
    have m4 := Same.trans i5 m5
    have m3 := Same.trans i4 m4
    have m2 := Same.trans i3 m3
    have m1 := Same.trans i2 m2
    have m0 := Same.trans i1 m1
    have five : IsWs K I6 [.ref d1, .ref d2, .ref d3, .ref d4, .ref d5] [[0], [0, 0], [1, 0], [1], [0, 1]] :=
      .cons ⟨_, rfl, Same.sqt m1 j1⟩ (.cons ⟨_, rfl, Same.sqt m2 j2⟩ (.cons ⟨_, rfl, Same.sqt m3 j3⟩ (.cons ⟨_, rfl, Same.sqt m4 j4⟩ (.cons ⟨_, rfl, Same.sqt m5 j5⟩ .nil))))
    have eo : out8 = [[0], [0, 0], [1, 0], [1], [0, 1]] := sorted_uniq hr8 (by decide) fun x => by
      rw [hm8]
      simp only [List.mem_cons, List.not_mem_nil, or_false]
      constructor
      · rintro (h | h | h | h | h | h) <;> simp [h]
      · rintro (h | h | h | h | h) <;> simp [h]
    subst eo
    refine ⟨_, _, .tup (Same.sqt m0 hp8) (words_dp (hys8.same m0)), .tup j6 (words_dp five), words_shapedT _, words_shapedT _, _, rfl, ifT (words_eqvT _) ?_⟩
    -- no words
    refine ⟨by show 0 ≤ sizeLine; decide, fun N1 n1 u1 v1 => ?_⟩
    refine ⟨3, n1, [], [], rfl, by decide, by decide, v1, .nil, by decide, (fun ws h => by cases h), fun N2 n2 ys2 out2 u2 hp2 hys2 hr2 hm2 => ?_⟩
    refine ⟨by show 0 ≤ sizeLine; decide, fun N3 n3 u3 v3 => ?_⟩
    have eo : out2 = [] := List.eq_nil_iff_forall_not_mem.mpr fun x hx => by
      have := (hm2 x).mp hx
      cases this
    subst eo
    refine ⟨_, _, .tup (Same.sqt u3 hp2) (words_dp (hys2.same u3)), .tup v3 .nil, words_shapedT _, by decide, ?_⟩
    exact q N3
end
end K00
/-! K00q -/
set_option Elab.async false
set_option linter.all false
set_option maxRecDepth 100000
set_option maxHeartbeats 4000000
namespace K00
open PySem PySem.Spec PyProof.Rows L2 PpSet RL
def txt_mk {K : PySem.W.Frag} {h : Heap} {mg : Str → Option Value} (X : K.In h) (G : h.Ns mainGlobals mg)
    {f0 : Addr} {od0 an0 : Option Addr} {sl0 : Array (Option Value)} {oc0 kV0 dc0 pm0 cd0 ct0 : Value}
    {f1 : Addr} {od1 an1 : Option Addr} {sl1 : Array (Option Value)} {oc1 kV1 dc1 pm1 cd1 ct1 : Value}
    {f2 : Addr} {od2 an2 : Option Addr} {sl2 : Array (Option Value)} {oc2 kV2 dc2 pm2 cd2 ct2 : Value}
    {f3 : Addr} {od3 an3 : Option Addr} {sl3 : Array (Option Value)} {oc3 kV3 dc3 pm3 cd3 ct3 : Value}
    {f4 : Addr} {od4 an4 : Option Addr} {sl4 : Array (Option Value)} {oc4 kV4 dc4 pm4 cd4 ct4 : Value}
    {f5 : Addr} {od5 an5 : Option Addr} {sl5 : Array (Option Value)} {oc5 kV5 dc5 pm5 cd5 ct5 : Value}
    {f6 : Addr} {od6 an6 : Option Addr} {sl6 : Array (Option Value)} {oc6 kV6 dc6 pm6 cd6 ct6 : Value}
    {f7 : Addr} {od7 an7 : Option Addr} {sl7 : Array (Option Value)} {oc7 kV7 dc7 pm7 cd7 ct7 : Value}
    {f8 : Addr} {od8 an8 : Option Addr} {sl8 : Array (Option Value)} {oc8 kV8 dc8 pm8 cd8 ct8 : Value}
    {f9 : Addr} {od9 an9 : Option Addr} {sl9 : Array (Option Value)} {oc9 kV9 dc9 pm9 cd9 ct9 : Value}
    {f10 : Addr} {od10 an10 : Option Addr} {sl10 : Array (Option Value)} {oc10 kV10 dc10 pm10 cd10 ct10 : Value}
    {f11 : Addr} {od11 an11 : Option Addr} {sl11 : Array (Option Value)} {oc11 kV11 dc11 pm11 cd11 ct11 : Value}
    {f12 : Addr} {od12 an12 : Option Addr} {sl12 : Array (Option Value)} {oc12 kV12 dc12 pm12 cd12 ct12 : Value}
    {f13 : Addr} {od13 an13 : Option Addr} {sl13 : Array (Option Value)} {oc13 kV13 dc13 pm13 cd13 ct13 : Value}
    {f14 : Addr} {od14 an14 : Option Addr} {sl14 : Array (Option Value)} {oc14 kV14 dc14 pm14 cd14 ct14 : Value}
    {f15 : Addr} {od15 an15 : Option Addr} {sl15 : Array (Option Value)} {oc15 kV15 dc15 pm15 cd15 ct15 : Value}
    {f16 : Addr} {od16 an16 : Option Addr} {sl16 : Array (Option Value)} {oc16 kV16 dc16 pm16 cd16 ct16 : Value}
    {f17 : Addr} {od17 an17 : Option Addr} {sl17 : Array (Option Value)} {oc17 kV17 dc17 pm17 cd17 ct17 : Value}
    {f18 : Addr} {od18 an18 : Option Addr} {sl18 : Array (Option Value)} {oc18 kV18 dc18 pm18 cd18 ct18 : Value}
    {f19 : Addr} {od19 an19 : Option Addr} {sl19 : Array (Option Value)} {oc19 kV19 dc19 pm19 cd19 ct19 : Value}
    {f20 : Addr} {od20 an20 : Option Addr} {sl20 : Array (Option Value)} {oc20 kV20 dc20 pm20 cd20 ct20 : Value}
    {f21 : Addr} {od21 an21 : Option Addr} {sl21 : Array (Option Value)} {oc21 kV21 dc21 pm21 cd21 ct21 : Value}
    {f22 : Addr} {od22 an22 : Option Addr} {sl22 : Array (Option Value)} {oc22 kV22 dc22 pm22 cd22 ct22 : Value}
    {f23 : Addr} {od23 an23 : Option Addr} {sl23 : Array (Option Value)} {oc23 kV23 dc23 pm23 cd23 ct23 : Value}
    {f24 : Addr} {od24 an24 : Option Addr} {sl24 : Array (Option Value)} {oc24 kV24 dc24 pm24 cd24 ct24 : Value}
    {f25 : Addr} {od25 an25 : Option Addr} {sl25 : Array (Option Value)} {oc25 kV25 dc25 pm25 cd25 ct25 : Value}
    {f26 : Addr} {od26 an26 : Option Addr} {sl26 : Array (Option Value)} {oc26 kV26 dc26 pm26 cd26 ct26 : Value}
    {f27 : Addr} {od27 an27 : Option Addr} {sl27 : Array (Option Value)} {oc27 kV27 dc27 pm27 cd27 ct27 : Value}
    {f28 : Addr} {od28 an28 : Option Addr} {sl28 : Array (Option Value)} {oc28 kV28 dc28 pm28 cd28 ct28 : Value}
    {f29 : Addr} {od29 an29 : Option Addr} {sl29 : Array (Option Value)} {oc29 kV29 dc29 pm29 cd29 ct29 : Value}
    {f30 : Addr} {od30 an30 : Option Addr} {sl30 : Array (Option Value)} {oc30 kV30 dc30 pm30 cd30 ct30 : Value}
    {f31 : Addr} {od31 an31 : Option Addr} {sl31 : Array (Option Value)} {oc31 kV31 dc31 pm31 cd31 ct31 : Value}
    {f32 : Addr} {od32 an32 : Option Addr} {sl32 : Array (Option Value)} {oc32 kV32 dc32 pm32 cd32 ct32 : Value}
    {f33 : Addr} {od33 an33 : Option Addr} {sl33 : Array (Option Value)} {oc33 kV33 dc33 pm33 cd33 ct33 : Value}
    {f34 : Addr} {od34 an34 : Option Addr} {sl34 : Array (Option Value)} {oc34 kV34 dc34 pm34 cd34 ct34 : Value}
    {f35 : Addr} {od35 an35 : Option Addr} {sl35 : Array (Option Value)} {oc35 kV35 dc35 pm35 cd35 ct35 : Value}
    {f36 : Addr} {od36 an36 : Option Addr} {sl36 : Array (Option Value)} {oc36 kV36 dc36 pm36 cd36 ct36 : Value}
    {f37 : Addr} {od37 an37 : Option Addr} {sl37 : Array (Option Value)} {oc37 kV37 dc37 pm37 cd37 ct37 : Value}
    {f38 : Addr} {od38 an38 : Option Addr} {sl38 : Array (Option Value)} {oc38 kV38 dc38 pm38 cd38 ct38 : Value}
    {f39 : Addr} {od39 an39 : Option Addr} {sl39 : Array (Option Value)} {oc39 kV39 dc39 pm39 cd39 ct39 : Value}
    {f40 : Addr} {od40 an40 : Option Addr} {sl40 : Array (Option Value)} {oc40 kV40 dc40 pm40 cd40 ct40 : Value}
    {tk_MAX_LETTERS : Tok}
    {tk_MAX_WORD : Tok}
    {tk_MOST_SORTED : Tok}
    {tk_MOST_LISTED : Tok}
    {tk_MOST_PLACED : Tok}
    (a0 : PySem.W.nsIn K mainGlobals "is_number" = some (some (.ref f0))) (l0 : K.lookup f0 = some ⟨oc0, od0, .func (PySem.W.fnOf "is_number" "is_number" (defArgs s_is_number) (defBody s_is_number) (defScope s_is_number) .none kV0 dc0 pm0 an0 cd0 ct0), sl0⟩) (c0 : PySem.W.codeIn K cd0 "is_number" = true) (k0 : PySem.W.keepIn K (.ref f0) = true)
    (a1 : PySem.W.nsIn K mainGlobals "check_number" = some (some (.ref f1))) (l1 : K.lookup f1 = some ⟨oc1, od1, .func (PySem.W.fnOf "check_number" "check_number" (defArgs s_check_number) (defBody s_check_number) (defScope s_check_number) .none kV1 dc1 pm1 an1 cd1 ct1), sl1⟩) (c1 : PySem.W.codeIn K cd1 "check_number" = true) (k1 : PySem.W.keepIn K (.ref f1) = true)
    (a2 : PySem.W.nsIn K mainGlobals "check_count" = some (some (.ref f2))) (l2 : K.lookup f2 = some ⟨oc2, od2, .func (PySem.W.fnOf "check_count" "check_count" (defArgs s_check_count) (defBody s_check_count) (defScope s_check_count) .none kV2 dc2 pm2 an2 cd2 ct2), sl2⟩) (c2 : PySem.W.codeIn K cd2 "check_count" = true) (k2 : PySem.W.keepIn K (.ref f2) = true)
    (a3 : PySem.W.nsIn K mainGlobals "check_letters" = some (some (.ref f3))) (l3 : K.lookup f3 = some ⟨oc3, od3, .func (PySem.W.fnOf "check_letters" "check_letters" (defArgs s_check_letters) (defBody s_check_letters) (defScope s_check_letters) .none kV3 dc3 pm3 an3 cd3 ct3), sl3⟩) (c3 : PySem.W.codeIn K cd3 "check_letters" = true) (k3 : PySem.W.keepIn K (.ref f3) = true)
    (a4 : PySem.W.nsIn K mainGlobals "is_spelled" = some (some (.ref f4))) (l4 : K.lookup f4 = some ⟨oc4, od4, .func (PySem.W.fnOf "is_spelled" "is_spelled" (defArgs s_is_spelled) (defBody s_is_spelled) (defScope s_is_spelled) .none kV4 dc4 pm4 an4 cd4 ct4), sl4⟩) (c4 : PySem.W.codeIn K cd4 "is_spelled" = true) (k4 : PySem.W.keepIn K (.ref f4) = true)
    (a5 : PySem.W.nsIn K mainGlobals "check_word" = some (some (.ref f5))) (l5 : K.lookup f5 = some ⟨oc5, od5, .func (PySem.W.fnOf "check_word" "check_word" (defArgs s_check_word) (defBody s_check_word) (defScope s_check_word) .none kV5 dc5 pm5 an5 cd5 ct5), sl5⟩) (c5 : PySem.W.codeIn K cd5 "check_word" = true) (k5 : PySem.W.keepIn K (.ref f5) = true)
    (a6 : PySem.W.nsIn K mainGlobals "check_both" = some (some (.ref f6))) (l6 : K.lookup f6 = some ⟨oc6, od6, .func (PySem.W.fnOf "check_both" "check_both" (defArgs s_check_both) (defBody s_check_both) (defScope s_check_both) .none kV6 dc6 pm6 an6 cd6 ct6), sl6⟩) (c6 : PySem.W.codeIn K cd6 "check_both" = true) (k6 : PySem.W.keepIn K (.ref f6) = true)
    (a7 : PySem.W.nsIn K mainGlobals "order_words" = some (some (.ref f7))) (l7 : K.lookup f7 = some ⟨oc7, od7, .func (PySem.W.fnOf "order_words" "order_words" (defArgs s_order_words) (defBody s_order_words) (defScope s_order_words) .none kV7 dc7 pm7 an7 cd7 ct7), sl7⟩) (c7 : PySem.W.codeIn K cd7 "order_words" = true) (k7 : PySem.W.keepIn K (.ref f7) = true)
    (a8 : PySem.W.nsIn K mainGlobals "count_common" = some (some (.ref f8))) (l8 : K.lookup f8 = some ⟨oc8, od8, .func (PySem.W.fnOf "count_common" "count_common" (defArgs s_count_common) (defBody s_count_common) (defScope s_count_common) .none kV8 dc8 pm8 an8 cd8 ct8), sl8⟩) (c8 : PySem.W.codeIn K cd8 "count_common" = true) (k8 : PySem.W.keepIn K (.ref f8) = true)
    (a9 : PySem.W.nsIn K mainGlobals "is_word" = some (some (.ref f9))) (l9 : K.lookup f9 = some ⟨oc9, od9, .func (PySem.W.fnOf "is_word" "is_word" (defArgs s_is_word) (defBody s_is_word) (defScope s_is_word) .none kV9 dc9 pm9 an9 cd9 ct9), sl9⟩) (c9 : PySem.W.codeIn K cd9 "is_word" = true) (k9 : PySem.W.keepIn K (.ref f9) = true)
    (a10 : PySem.W.nsIn K mainGlobals "compare_words" = some (some (.ref f10))) (l10 : K.lookup f10 = some ⟨oc10, od10, .func (PySem.W.fnOf "compare_words" "compare_words" (defArgs s_compare_words) (defBody s_compare_words) (defScope s_compare_words) .none kV10 dc10 pm10 an10 cd10 ct10), sl10⟩) (c10 : PySem.W.codeIn K cd10 "compare_words" = true) (k10 : PySem.W.keepIn K (.ref f10) = true)
    (a11 : PySem.W.nsIn K mainGlobals "common_end" = some (some (.ref f11))) (l11 : K.lookup f11 = some ⟨oc11, od11, .func (PySem.W.fnOf "common_end" "common_end" (defArgs s_common_end) (defBody s_common_end) (defScope s_common_end) .none kV11 dc11 pm11 an11 cd11 ct11), sl11⟩) (c11 : PySem.W.codeIn K cd11 "common_end" = true) (k11 : PySem.W.keepIn K (.ref f11) = true)
    (a12 : PySem.W.nsIn K mainGlobals "is_end" = some (some (.ref f12))) (l12 : K.lookup f12 = some ⟨oc12, od12, .func (PySem.W.fnOf "is_end" "is_end" (defArgs s_is_end) (defBody s_is_end) (defScope s_is_end) .none kV12 dc12 pm12 an12 cd12 ct12), sl12⟩) (c12 : PySem.W.codeIn K cd12 "is_end" = true) (k12 : PySem.W.keepIn K (.ref f12) = true)
    (a13 : PySem.W.nsIn K mainGlobals "in_order" = some (some (.ref f13))) (l13 : K.lookup f13 = some ⟨oc13, od13, .func (PySem.W.fnOf "in_order" "in_order" (defArgs s_in_order) (defBody s_in_order) (defScope s_in_order) .none kV13 dc13 pm13 an13 cd13 ct13), sl13⟩) (c13 : PySem.W.codeIn K cd13 "in_order" = true) (k13 : PySem.W.keepIn K (.ref f13) = true)
    (a14 : PySem.W.nsIn K mainGlobals "sorted_words" = some (some (.ref f14))) (l14 : K.lookup f14 = some ⟨oc14, od14, .func (PySem.W.fnOf "sorted_words" "sorted_words" (defArgs s_sorted_words) (defBody s_sorted_words) (defScope s_sorted_words) .none kV14 dc14 pm14 an14 cd14 ct14), sl14⟩) (c14 : PySem.W.codeIn K cd14 "sorted_words" = true) (k14 : PySem.W.keepIn K (.ref f14) = true)
    (a15 : PySem.W.nsIn K mainGlobals "_raised" = some (some (.ref f15))) (l15 : K.lookup f15 = some ⟨oc15, od15, .func (PySem.W.fnOf "_raised" "_raised" (defArgs s__raised) (defBody s__raised) (defScope s__raised) .none kV15 dc15 pm15 an15 cd15 ct15), sl15⟩) (c15 : PySem.W.codeIn K cd15 "_raised" = true) (k15 : PySem.W.keepIn K (.ref f15) = true)
    (a16 : PySem.W.nsIn K mainGlobals "words_of" = some (some (.ref f16))) (l16 : K.lookup f16 = some ⟨oc16, od16, .func (PySem.W.fnOf "words_of" "words_of" (defArgs s_words_of) (defBody s_words_of) (defScope s_words_of) .none kV16 dc16 pm16 an16 cd16 ct16), sl16⟩) (c16 : PySem.W.codeIn K cd16 "words_of" = true) (k16 : PySem.W.keepIn K (.ref f16) = true)
    (a17 : PySem.W.nsIn K mainGlobals "words_to" = some (some (.ref f17))) (l17 : K.lookup f17 = some ⟨oc17, od17, .func (PySem.W.fnOf "words_to" "words_to" (defArgs s_words_to) (defBody s_words_to) (defScope s_words_to) .none kV17 dc17 pm17 an17 cd17 ct17), sl17⟩) (c17 : PySem.W.codeIn K cd17 "words_to" = true) (k17 : PySem.W.keepIn K (.ref f17) = true)
    (a18 : PySem.W.nsIn K mainGlobals "_sizes" = some (some (.ref f18))) (l18 : K.lookup f18 = some ⟨oc18, od18, .func (PySem.W.fnOf "_sizes" "_sizes" (defArgs s__sizes) (defBody s__sizes) (defScope s__sizes) .none kV18 dc18 pm18 an18 cd18 ct18), sl18⟩) (c18 : PySem.W.codeIn K cd18 "_sizes" = true) (k18 : PySem.W.keepIn K (.ref f18) = true)
    (a19 : PySem.W.nsIn K mainGlobals "word_place" = some (some (.ref f19))) (l19 : K.lookup f19 = some ⟨oc19, od19, .func (PySem.W.fnOf "word_place" "word_place" (defArgs s_word_place) (defBody s_word_place) (defScope s_word_place) .none kV19 dc19 pm19 an19 cd19 ct19), sl19⟩) (c19 : PySem.W.codeIn K cd19 "word_place" = true) (k19 : PySem.W.keepIn K (.ref f19) = true)
    (a20 : PySem.W.nsIn K mainGlobals "word_at" = some (some (.ref f20))) (l20 : K.lookup f20 = some ⟨oc20, od20, .func (PySem.W.fnOf "word_at" "word_at" (defArgs s_word_at) (defBody s_word_at) (defScope s_word_at) .none kV20 dc20 pm20 an20 cd20 ct20), sl20⟩) (c20 : PySem.W.codeIn K cd20 "word_at" = true) (k20 : PySem.W.keepIn K (.ref f20) = true)
    (a21 : PySem.W.nsIn K mainGlobals "_law_bag" = some (some (.ref f21))) (l21 : K.lookup f21 = some ⟨oc21, od21, .func (PySem.W.fnOf "_law_bag" "_law_bag" (defArgs s__law_bag) (defBody s__law_bag) (defScope s__law_bag) .none kV21 dc21 pm21 an21 cd21 ct21), sl21⟩) (c21 : PySem.W.codeIn K cd21 "_law_bag" = true) (k21 : PySem.W.keepIn K (.ref f21) = true)
    (a22 : PySem.W.nsIn K mainGlobals "_law_grab" = some (some (.ref f22))) (l22 : K.lookup f22 = some ⟨oc22, od22, .func (PySem.W.fnOf "_law_grab" "_law_grab" (defArgs s__law_grab) (defBody s__law_grab) (defScope s__law_grab) .none kV22 dc22 pm22 an22 cd22 ct22), sl22⟩) (c22 : PySem.W.codeIn K cd22 "_law_grab" = true) (k22 : PySem.W.keepIn K (.ref f22) = true)
    (a23 : PySem.W.nsIn K mainGlobals "_law_one_of" = some (some (.ref f23))) (l23 : K.lookup f23 = some ⟨oc23, od23, .func (PySem.W.fnOf "_law_one_of" "_law_one_of" (defArgs s__law_one_of) (defBody s__law_one_of) (defScope s__law_one_of) .none kV23 dc23 pm23 an23 cd23 ct23), sl23⟩) (c23 : PySem.W.codeIn K cd23 "_law_one_of" = true) (k23 : PySem.W.keepIn K (.ref f23) = true)
    (a24 : PySem.W.nsIn K mainGlobals "_law_word_drawn" = some (some (.ref f24))) (l24 : K.lookup f24 = some ⟨oc24, od24, .func (PySem.W.fnOf "_law_word_drawn" "_law_word_drawn" (defArgs s__law_word_drawn) (defBody s__law_word_drawn) (defScope s__law_word_drawn) .none kV24 dc24 pm24 an24 cd24 ct24), sl24⟩) (c24 : PySem.W.codeIn K cd24 "_law_word_drawn" = true) (k24 : PySem.W.keepIn K (.ref f24) = true)
    (a25 : PySem.W.nsIn K mainGlobals "_law_wd_compared" = some (some (.ref f25))) (l25 : K.lookup f25 = some ⟨oc25, od25, .func (PySem.W.fnOf "_law_wd_compared" "_law_wd_compared" (defArgs s__law_wd_compared) (defBody s__law_wd_compared) (defScope s__law_wd_compared) .none kV25 dc25 pm25 an25 cd25 ct25), sl25⟩) (c25 : PySem.W.codeIn K cd25 "_law_wd_compared" = true) (k25 : PySem.W.keepIn K (.ref f25) = true)
    (a26 : PySem.W.nsIn K mainGlobals "_law_wd_is_end" = some (some (.ref f26))) (l26 : K.lookup f26 = some ⟨oc26, od26, .func (PySem.W.fnOf "_law_wd_is_end" "_law_wd_is_end" (defArgs s__law_wd_is_end) (defBody s__law_wd_is_end) (defScope s__law_wd_is_end) .none kV26 dc26 pm26 an26 cd26 ct26), sl26⟩) (c26 : PySem.W.codeIn K cd26 "_law_wd_is_end" = true) (k26 : PySem.W.keepIn K (.ref f26) = true)
    (a27 : PySem.W.nsIn K mainGlobals "_law_wd_common" = some (some (.ref f27))) (l27 : K.lookup f27 = some ⟨oc27, od27, .func (PySem.W.fnOf "_law_wd_common" "_law_wd_common" (defArgs s__law_wd_common) (defBody s__law_wd_common) (defScope s__law_wd_common) .none kV27 dc27 pm27 an27 cd27 ct27), sl27⟩) (c27 : PySem.W.codeIn K cd27 "_law_wd_common" = true) (k27 : PySem.W.keepIn K (.ref f27) = true)
    (a28 : PySem.W.nsIn K mainGlobals "_law_wd_put_in" = some (some (.ref f28))) (l28 : K.lookup f28 = some ⟨oc28, od28, .func (PySem.W.fnOf "_law_wd_put_in" "_law_wd_put_in" (defArgs s__law_wd_put_in) (defBody s__law_wd_put_in) (defScope s__law_wd_put_in) .none kV28 dc28 pm28 an28 cd28 ct28), sl28⟩) (c28 : PySem.W.codeIn K cd28 "_law_wd_put_in" = true) (k28 : PySem.W.keepIn K (.ref f28) = true)
    (a29 : PySem.W.nsIn K mainGlobals "_law_wd_sorted" = some (some (.ref f29))) (l29 : K.lookup f29 = some ⟨oc29, od29, .func (PySem.W.fnOf "_law_wd_sorted" "_law_wd_sorted" (defArgs s__law_wd_sorted) (defBody s__law_wd_sorted) (defScope s__law_wd_sorted) .none kV29 dc29 pm29 an29 cd29 ct29), sl29⟩) (c29 : PySem.W.codeIn K cd29 "_law_wd_sorted" = true) (k29 : PySem.W.keepIn K (.ref f29) = true)
    (a30 : PySem.W.nsIn K mainGlobals "_law_wd_of" = some (some (.ref f30))) (l30 : K.lookup f30 = some ⟨oc30, od30, .func (PySem.W.fnOf "_law_wd_of" "_law_wd_of" (defArgs s__law_wd_of) (defBody s__law_wd_of) (defScope s__law_wd_of) .none kV30 dc30 pm30 an30 cd30 ct30), sl30⟩) (c30 : PySem.W.codeIn K cd30 "_law_wd_of" = true) (k30 : PySem.W.keepIn K (.ref f30) = true)
    (a31 : PySem.W.nsIn K mainGlobals "_law_wd_settled" = some (some (.ref f31))) (l31 : K.lookup f31 = some ⟨oc31, od31, .func (PySem.W.fnOf "_law_wd_settled" "_law_wd_settled" (defArgs s__law_wd_settled) (defBody s__law_wd_settled) (defScope s__law_wd_settled) .none kV31 dc31 pm31 an31 cd31 ct31), sl31⟩) (c31 : PySem.W.codeIn K cd31 "_law_wd_settled" = true) (k31 : PySem.W.keepIn K (.ref f31) = true)
    (a32 : PySem.W.nsIn K mainGlobals "_law_wd_to" = some (some (.ref f32))) (l32 : K.lookup f32 = some ⟨oc32, od32, .func (PySem.W.fnOf "_law_wd_to" "_law_wd_to" (defArgs s__law_wd_to) (defBody s__law_wd_to) (defScope s__law_wd_to) .none kV32 dc32 pm32 an32 cd32 ct32), sl32⟩) (c32 : PySem.W.codeIn K cd32 "_law_wd_to" = true) (k32 : PySem.W.keepIn K (.ref f32) = true)
    (a33 : PySem.W.nsIn K mainGlobals "_law_is_word_due" = some (some (.ref f33))) (l33 : K.lookup f33 = some ⟨oc33, od33, .func (PySem.W.fnOf "_law_is_word_due" "_law_is_word_due" (defArgs s__law_is_word_due) (defBody s__law_is_word_due) (defScope s__law_is_word_due) .none kV33 dc33 pm33 an33 cd33 ct33), sl33⟩) (c33 : PySem.W.codeIn K cd33 "_law_is_word_due" = true) (k33 : PySem.W.keepIn K (.ref f33) = true)
    (a34 : PySem.W.nsIn K mainGlobals "_law_some_words" = some (some (.ref f34))) (l34 : K.lookup f34 = some ⟨oc34, od34, .func (PySem.W.fnOf "_law_some_words" "_law_some_words" (defArgs s__law_some_words) (defBody s__law_some_words) (defScope s__law_some_words) .none kV34 dc34 pm34 an34 cd34 ct34), sl34⟩) (c34 : PySem.W.codeIn K cd34 "_law_some_words" = true) (k34 : PySem.W.keepIn K (.ref f34) = true)
    (a35 : PySem.W.nsIn K mainGlobals "_law_pair_right" = some (some (.ref f35))) (l35 : K.lookup f35 = some ⟨oc35, od35, .func (PySem.W.fnOf "_law_pair_right" "_law_pair_right" (defArgs s__law_pair_right) (defBody s__law_pair_right) (defScope s__law_pair_right) .none kV35 dc35 pm35 an35 cd35 ct35), sl35⟩) (c35 : PySem.W.codeIn K cd35 "_law_pair_right" = true) (k35 : PySem.W.keepIn K (.ref f35) = true)
    (a36 : PySem.W.nsIn K mainGlobals "_law_lists_right" = some (some (.ref f36))) (l36 : K.lookup f36 = some ⟨oc36, od36, .func (PySem.W.fnOf "_law_lists_right" "_law_lists_right" (defArgs s__law_lists_right) (defBody s__law_lists_right) (defScope s__law_lists_right) .none kV36 dc36 pm36 an36 cd36 ct36), sl36⟩) (c36 : PySem.W.codeIn K cd36 "_law_lists_right" = true) (k36 : PySem.W.keepIn K (.ref f36) = true)
    (a37 : PySem.W.nsIn K mainGlobals "_law_power" = some (some (.ref f37))) (l37 : K.lookup f37 = some ⟨oc37, od37, .func (PySem.W.fnOf "_law_power" "_law_power" (defArgs s__law_power) (defBody s__law_power) (defScope s__law_power) .none kV37 dc37 pm37 an37 cd37 ct37), sl37⟩) (c37 : PySem.W.codeIn K cd37 "_law_power" = true) (k37 : PySem.W.keepIn K (.ref f37) = true)
    (a38 : PySem.W.nsIn K mainGlobals "_law_places_right" = some (some (.ref f38))) (l38 : K.lookup f38 = some ⟨oc38, od38, .func (PySem.W.fnOf "_law_places_right" "_law_places_right" (defArgs s__law_places_right) (defBody s__law_places_right) (defScope s__law_places_right) .none kV38 dc38 pm38 an38 cd38 ct38), sl38⟩) (c38 : PySem.W.codeIn K cd38 "_law_places_right" = true) (k38 : PySem.W.keepIn K (.ref f38) = true)
    (a39 : PySem.W.nsIn K mainGlobals "_law_right" = some (some (.ref f39))) (l39 : K.lookup f39 = some ⟨oc39, od39, .func (PySem.W.fnOf "_law_right" "_law_right" (defArgs s__law_right) (defBody s__law_right) (defScope s__law_right) .none kV39 dc39 pm39 an39 cd39 ct39), sl39⟩) (c39 : PySem.W.codeIn K cd39 "_law_right" = true) (k39 : PySem.W.keepIn K (.ref f39) = true)
    (a40 : PySem.W.nsIn K mainGlobals "law" = some (some (.ref f40))) (l40 : K.lookup f40 = some ⟨oc40, od40, .func (PySem.W.fnOf "law" "law" (defArgs s_law) (defBody s_law) (defScope s_law) .none kV40 dc40 pm40 an40 cd40 ct40), sl40⟩) (c40 : PySem.W.codeIn K cd40 "law" = true) (k40 : PySem.W.keepIn K (.ref f40) = true)
    (g_MAX_LETTERS : PySem.W.nsIn K mainGlobals "MAX_LETTERS" = some (some (.int 4 tk_MAX_LETTERS)))
    (g_MAX_WORD : PySem.W.nsIn K mainGlobals "MAX_WORD" = some (some (.int 200 tk_MAX_WORD)))
    (g_MOST_SORTED : PySem.W.nsIn K mainGlobals "MOST_SORTED" = some (some (.int 200 tk_MOST_SORTED)))
    (g_MOST_LISTED : PySem.W.nsIn K mainGlobals "MOST_LISTED" = some (some (.int 8 tk_MOST_LISTED)))
    (g_MOST_PLACED : PySem.W.nsIn K mainGlobals "MOST_PLACED" = some (some (.int 60 tk_MOST_PLACED)))
    (z_len : PySem.W.nsIn K mainGlobals "len" = some none)
    (z_min : PySem.W.nsIn K mainGlobals "min" = some none)
    (z_max : PySem.W.nsIn K mainGlobals "max" = some none)
    (z_abs : PySem.W.nsIn K mainGlobals "abs" = some none)
    (z_int : PySem.W.nsIn K mainGlobals "int" = some none)
    (z_isinstance : PySem.W.nsIn K mainGlobals "isinstance" = some none)
    (z_tuple : PySem.W.nsIn K mainGlobals "tuple" = some none)
    (z_list : PySem.W.nsIn K mainGlobals "list" = some none)
    (z_bool : PySem.W.nsIn K mainGlobals "bool" = some none)
    (z_all : PySem.W.nsIn K mainGlobals "all" = some none)
    (z_sum : PySem.W.nsIn K mainGlobals "sum" = some none)
    (z_range : PySem.W.nsIn K mainGlobals "range" = some none)
    (z_enumerate : PySem.W.nsIn K mainGlobals "enumerate" = some none)
    (z_sorted : PySem.W.nsIn K mainGlobals "sorted" = some none)
    (z_repr : PySem.W.nsIn K mainGlobals "repr" = some none)
    (z_divmod : PySem.W.nsIn K mainGlobals "divmod" = some none) : Txt K mg :=
  have F0 := fun_mk (st := s_is_number) l0 c0 k0
  have b0 := F0.binds (ps := ["value", "least", "most"]) fun _ _ _ _ _ _ us hl => match us, hl with | [_, _, _], _ => rfl
  have F1 := fun_mk (st := s_check_number) l1 c1 k1
  have b1 := F1.binds (ps := ["value", "least", "most"]) fun _ _ _ _ _ _ us hl => match us, hl with | [_, _, _], _ => rfl
  have F2 := fun_mk (st := s_check_count) l2 c2 k2
  have b2 := F2.binds (ps := ["value"]) fun _ _ _ _ _ _ us hl => match us, hl with | [_], _ => rfl
  have F3 := fun_mk (st := s_check_letters) l3 c3 k3
  have b3 := F3.binds (ps := ["letters"]) fun _ _ _ _ _ _ us hl => match us, hl with | [_], _ => rfl
  have F4 := fun_mk (st := s_is_spelled) l4 c4 k4
  have b4 := F4.binds (ps := ["letters", "value", "most"]) fun _ _ _ _ _ _ us hl => match us, hl with | [_, _, _], _ => rfl
  have F5 := fun_mk (st := s_check_word) l5 c5 k5
  have b5 := F5.binds (ps := ["letters", "word"]) fun _ _ _ _ _ _ us hl => match us, hl with | [_, _], _ => rfl
  have F6 := fun_mk (st := s_check_both) l6 c6 k6
  have b6 := F6.binds (ps := ["letters", "one", "other"]) fun _ _ _ _ _ _ us hl => match us, hl with | [_, _, _], _ => rfl
  have F7 := fun_mk (st := s_order_words) l7 c7 k7
  have b7 := F7.binds (ps := ["one", "other"]) fun _ _ _ _ _ _ us hl => match us, hl with | [_, _], _ => rfl
  have F8 := fun_mk (st := s_count_common) l8 c8 k8
  have b8 := F8.binds (ps := ["one", "other"]) fun _ _ _ _ _ _ us hl => match us, hl with | [_, _], _ => rfl
  have F9 := fun_mk (st := s_is_word) l9 c9 k9
  have b9 := F9.binds (ps := ["letters", "value"]) fun _ _ _ _ _ _ us hl => match us, hl with | [_, _], _ => rfl
  have F10 := fun_mk (st := s_compare_words) l10 c10 k10
  have b10 := F10.binds (ps := ["letters", "one", "other"]) fun _ _ _ _ _ _ us hl => match us, hl with | [_, _, _], _ => rfl
  have F11 := fun_mk (st := s_common_end) l11 c11 k11
  have b11 := F11.binds (ps := ["letters", "one", "other"]) fun _ _ _ _ _ _ us hl => match us, hl with | [_, _, _], _ => rfl
  have F12 := fun_mk (st := s_is_end) l12 c12 k12
  have b12 := F12.binds (ps := ["letters", "one", "other"]) fun _ _ _ _ _ _ us hl => match us, hl with | [_, _, _], _ => rfl
  have F13 := fun_mk (st := s_in_order) l13 c13 k13
  have b13 := F13.binds (ps := ["words"]) fun _ _ _ _ _ _ us hl => match us, hl with | [_], _ => rfl
  have F14 := fun_mk (st := s_sorted_words) l14 c14 k14
  have b14 := F14.binds (ps := ["letters", "words"]) fun _ _ _ _ _ _ us hl => match us, hl with | [_, _], _ => rfl
  have F15 := fun_mk (st := s__raised) l15 c15 k15
  have b15 := F15.binds (ps := ["letters", "word"]) fun _ _ _ _ _ _ us hl => match us, hl with | [_, _], _ => rfl
  have F16 := fun_mk (st := s_words_of) l16 c16 k16
  have b16 := F16.binds (ps := ["letters", "length"]) fun _ _ _ _ _ _ us hl => match us, hl with | [_, _], _ => rfl
  have F17 := fun_mk (st := s_words_to) l17 c17 k17
  have b17 := F17.binds (ps := ["letters", "length"]) fun _ _ _ _ _ _ us hl => match us, hl with | [_, _], _ => rfl
  have F18 := fun_mk (st := s__sizes) l18 c18 k18
  have b18 := F18.binds (ps := ["letters", "length"]) fun _ _ _ _ _ _ us hl => match us, hl with | [_, _], _ => rfl
  have F19 := fun_mk (st := s_word_place) l19 c19 k19
  have b19 := F19.binds (ps := ["letters", "length", "word"]) fun _ _ _ _ _ _ us hl => match us, hl with | [_, _, _], _ => rfl
  have F20 := fun_mk (st := s_word_at) l20 c20 k20
  have b20 := F20.binds (ps := ["letters", "length", "number"]) fun _ _ _ _ _ _ us hl => match us, hl with | [_, _, _], _ => rfl
  have F21 := fun_mk (st := s__law_bag) l21 c21 k21
  have b21 := F21.binds (ps := ["script", "spot"]) fun _ _ _ _ _ _ us hl => match us, hl with | [_, _], _ => rfl
  have F22 := fun_mk (st := s__law_grab) l22 c22 k22
  have b22 := F22.binds (ps := ["bag", "total"]) fun _ _ _ _ _ _ us hl => match us, hl with | [_, _], _ => rfl
  have F23 := fun_mk (st := s__law_one_of) l23 c23 k23
  have b23 := F23.binds (ps := ["bag", "items"]) fun _ _ _ _ _ _ us hl => match us, hl with | [_, _], _ => rfl
  have F24 := fun_mk (st := s__law_word_drawn) l24 c24 k24
  have b24 := F24.binds (ps := ["bag", "letters", "most"]) fun _ _ _ _ _ _ us hl => match us, hl with | [_, _, _], _ => rfl
  have F25 := fun_mk (st := s__law_wd_compared) l25 c25 k25
  have b25 := F25.binds (ps := ["one", "other"]) fun _ _ _ _ _ _ us hl => match us, hl with | [_, _], _ => rfl
  have F26 := fun_mk (st := s__law_wd_is_end) l26 c26 k26
  have b26 := F26.binds (ps := ["end", "word"]) fun _ _ _ _ _ _ us hl => match us, hl with | [_, _], _ => rfl
  have F27 := fun_mk (st := s__law_wd_common) l27 c27 k27
  have b27 := F27.binds (ps := ["one", "other"]) fun _ _ _ _ _ _ us hl => match us, hl with | [_, _], _ => rfl
  have F28 := fun_mk (st := s__law_wd_put_in) l28 c28 k28
  have b28 := F28.binds (ps := ["words", "word"]) fun _ _ _ _ _ _ us hl => match us, hl with | [_, _], _ => rfl
  have F29 := fun_mk (st := s__law_wd_sorted) l29 c29 k29
  have b29 := F29.binds (ps := ["words"]) fun _ _ _ _ _ _ us hl => match us, hl with | [_], _ => rfl
  have F30 := fun_mk (st := s__law_wd_of) l30 c30 k30
  have b30 := F30.binds (ps := ["letters", "length"]) fun _ _ _ _ _ _ us hl => match us, hl with | [_, _], _ => rfl
  have F31 := fun_mk (st := s__law_wd_settled) l31 c31 k31
  have b31 := F31.binds (ps := ["letters", "most", "words"]) fun _ _ _ _ _ _ us hl => match us, hl with | [_, _, _], _ => rfl
  have F32 := fun_mk (st := s__law_wd_to) l32 c32 k32
  have b32 := F32.binds (ps := ["letters", "most"]) fun _ _ _ _ _ _ us hl => match us, hl with | [_, _], _ => rfl
  have F33 := fun_mk (st := s__law_is_word_due) l33 c33 k33
  have b33 := F33.binds (ps := ["letters", "value"]) fun _ _ _ _ _ _ us hl => match us, hl with | [_, _], _ => rfl
  have F34 := fun_mk (st := s__law_some_words) l34 c34 k34
  have b34 := F34.binds (ps := ["bag", "letters"]) fun _ _ _ _ _ _ us hl => match us, hl with | [_, _], _ => rfl
  have F35 := fun_mk (st := s__law_pair_right) l35 c35 k35
  have b35 := F35.binds (ps := ["letters", "one", "other", "behind"]) fun _ _ _ _ _ _ us hl => match us, hl with | [_, _, _, _], _ => rfl
  have F36 := fun_mk (st := s__law_lists_right) l36 c36 k36
  have b36 := F36.binds (ps := ["bag", "letters"]) fun _ _ _ _ _ _ us hl => match us, hl with | [_, _], _ => rfl
  have F37 := fun_mk (st := s__law_power) l37 c37 k37
  have b37 := F37.binds (ps := ["number", "many"]) fun _ _ _ _ _ _ us hl => match us, hl with | [_, _], _ => rfl
  have F38 := fun_mk (st := s__law_places_right) l38 c38 k38
  have b38 := F38.binds (ps := ["bag", "letters", "one", "other"]) fun _ _ _ _ _ _ us hl => match us, hl with | [_, _, _, _], _ => rfl
  have F39 := fun_mk (st := s__law_right) l39 c39 k39
  have b39 := F39.binds (ps := ["bag"]) fun _ _ _ _ _ _ us hl => match us, hl with | [_], _ => rfl
  have F40 := fun_mk (st := s_law) l40 c40 k40
  have b40 := F40.binds (ps := ["script"]) fun _ _ _ _ _ _ us hl => match us, hl with | [_], _ => rfl
  { a_is_number := f0, d_is_number := _, F_is_number := F0, m_is_number := PySem.W.mg_of X G a0, b_is_number := b0,
    a_check_number := f1, d_check_number := _, F_check_number := F1, m_check_number := PySem.W.mg_of X G a1, b_check_number := b1,
    a_check_count := f2, d_check_count := _, F_check_count := F2, m_check_count := PySem.W.mg_of X G a2, b_check_count := b2,
    a_check_letters := f3, d_check_letters := _, F_check_letters := F3, m_check_letters := PySem.W.mg_of X G a3, b_check_letters := b3,
    a_is_spelled := f4, d_is_spelled := _, F_is_spelled := F4, m_is_spelled := PySem.W.mg_of X G a4, b_is_spelled := b4,
    a_check_word := f5, d_check_word := _, F_check_word := F5, m_check_word := PySem.W.mg_of X G a5, b_check_word := b5,
    a_check_both := f6, d_check_both := _, F_check_both := F6, m_check_both := PySem.W.mg_of X G a6, b_check_both := b6,
    a_order_words := f7, d_order_words := _, F_order_words := F7, m_order_words := PySem.W.mg_of X G a7, b_order_words := b7,
    a_count_common := f8, d_count_common := _, F_count_common := F8, m_count_common := PySem.W.mg_of X G a8, b_count_common := b8,
    a_is_word := f9, d_is_word := _, F_is_word := F9, m_is_word := PySem.W.mg_of X G a9, b_is_word := b9,
    a_compare_words := f10, d_compare_words := _, F_compare_words := F10, m_compare_words := PySem.W.mg_of X G a10, b_compare_words := b10,
    a_common_end := f11, d_common_end := _, F_common_end := F11, m_common_end := PySem.W.mg_of X G a11, b_common_end := b11,
    a_is_end := f12, d_is_end := _, F_is_end := F12, m_is_end := PySem.W.mg_of X G a12, b_is_end := b12,
    a_in_order := f13, d_in_order := _, F_in_order := F13, m_in_order := PySem.W.mg_of X G a13, b_in_order := b13,
    a_sorted_words := f14, d_sorted_words := _, F_sorted_words := F14, m_sorted_words := PySem.W.mg_of X G a14, b_sorted_words := b14,
    a__raised := f15, d__raised := _, F__raised := F15, m__raised := PySem.W.mg_of X G a15, b__raised := b15,
    a_words_of := f16, d_words_of := _, F_words_of := F16, m_words_of := PySem.W.mg_of X G a16, b_words_of := b16,
    a_words_to := f17, d_words_to := _, F_words_to := F17, m_words_to := PySem.W.mg_of X G a17, b_words_to := b17,
    a__sizes := f18, d__sizes := _, F__sizes := F18, m__sizes := PySem.W.mg_of X G a18, b__sizes := b18,
    a_word_place := f19, d_word_place := _, F_word_place := F19, m_word_place := PySem.W.mg_of X G a19, b_word_place := b19,
    a_word_at := f20, d_word_at := _, F_word_at := F20, m_word_at := PySem.W.mg_of X G a20, b_word_at := b20,
    a__law_bag := f21, d__law_bag := _, F__law_bag := F21, m__law_bag := PySem.W.mg_of X G a21, b__law_bag := b21,
    a__law_grab := f22, d__law_grab := _, F__law_grab := F22, m__law_grab := PySem.W.mg_of X G a22, b__law_grab := b22,
    a__law_one_of := f23, d__law_one_of := _, F__law_one_of := F23, m__law_one_of := PySem.W.mg_of X G a23, b__law_one_of := b23,
    a__law_word_drawn := f24, d__law_word_drawn := _, F__law_word_drawn := F24, m__law_word_drawn := PySem.W.mg_of X G a24, b__law_word_drawn := b24,
    a__law_wd_compared := f25, d__law_wd_compared := _, F__law_wd_compared := F25, m__law_wd_compared := PySem.W.mg_of X G a25, b__law_wd_compared := b25,
    a__law_wd_is_end := f26, d__law_wd_is_end := _, F__law_wd_is_end := F26, m__law_wd_is_end := PySem.W.mg_of X G a26, b__law_wd_is_end := b26,
    a__law_wd_common := f27, d__law_wd_common := _, F__law_wd_common := F27, m__law_wd_common := PySem.W.mg_of X G a27, b__law_wd_common := b27,
    a__law_wd_put_in := f28, d__law_wd_put_in := _, F__law_wd_put_in := F28, m__law_wd_put_in := PySem.W.mg_of X G a28, b__law_wd_put_in := b28,
    a__law_wd_sorted := f29, d__law_wd_sorted := _, F__law_wd_sorted := F29, m__law_wd_sorted := PySem.W.mg_of X G a29, b__law_wd_sorted := b29,
    a__law_wd_of := f30, d__law_wd_of := _, F__law_wd_of := F30, m__law_wd_of := PySem.W.mg_of X G a30, b__law_wd_of := b30,
    a__law_wd_settled := f31, d__law_wd_settled := _, F__law_wd_settled := F31, m__law_wd_settled := PySem.W.mg_of X G a31, b__law_wd_settled := b31,
    a__law_wd_to := f32, d__law_wd_to := _, F__law_wd_to := F32, m__law_wd_to := PySem.W.mg_of X G a32, b__law_wd_to := b32,
    a__law_is_word_due := f33, d__law_is_word_due := _, F__law_is_word_due := F33, m__law_is_word_due := PySem.W.mg_of X G a33, b__law_is_word_due := b33,
    a__law_some_words := f34, d__law_some_words := _, F__law_some_words := F34, m__law_some_words := PySem.W.mg_of X G a34, b__law_some_words := b34,
    a__law_pair_right := f35, d__law_pair_right := _, F__law_pair_right := F35, m__law_pair_right := PySem.W.mg_of X G a35, b__law_pair_right := b35,
    a__law_lists_right := f36, d__law_lists_right := _, F__law_lists_right := F36, m__law_lists_right := PySem.W.mg_of X G a36, b__law_lists_right := b36,
    a__law_power := f37, d__law_power := _, F__law_power := F37, m__law_power := PySem.W.mg_of X G a37, b__law_power := b37,
    a__law_places_right := f38, d__law_places_right := _, F__law_places_right := F38, m__law_places_right := PySem.W.mg_of X G a38, b__law_places_right := b38,
    a__law_right := f39, d__law_right := _, F__law_right := F39, m__law_right := PySem.W.mg_of X G a39, b__law_right := b39,
    a_law := f40, d_law := _, F_law := F40, m_law := PySem.W.mg_of X G a40, b_law := b40,
    t_MAX_LETTERS := tk_MAX_LETTERS, g_MAX_LETTERS := PySem.W.mg_of X G g_MAX_LETTERS,
    t_MAX_WORD := tk_MAX_WORD, g_MAX_WORD := PySem.W.mg_of X G g_MAX_WORD,
    t_MOST_SORTED := tk_MOST_SORTED, g_MOST_SORTED := PySem.W.mg_of X G g_MOST_SORTED,
    t_MOST_LISTED := tk_MOST_LISTED, g_MOST_LISTED := PySem.W.mg_of X G g_MOST_LISTED,
    t_MOST_PLACED := tk_MOST_PLACED, g_MOST_PLACED := PySem.W.mg_of X G g_MOST_PLACED,
    n_len := PySem.W.mg_none_of X G z_len,
    n_min := PySem.W.mg_none_of X G z_min,
    n_max := PySem.W.mg_none_of X G z_max,
    n_abs := PySem.W.mg_none_of X G z_abs,
    n_int := PySem.W.mg_none_of X G z_int,
    n_isinstance := PySem.W.mg_none_of X G z_isinstance,
    n_tuple := PySem.W.mg_none_of X G z_tuple,
    n_list := PySem.W.mg_none_of X G z_list,
    n_bool := PySem.W.mg_none_of X G z_bool,
    n_all := PySem.W.mg_none_of X G z_all,
    n_sum := PySem.W.mg_none_of X G z_sum,
    n_range := PySem.W.mg_none_of X G z_range,
    n_enumerate := PySem.W.mg_none_of X G z_enumerate,
    n_sorted := PySem.W.mg_none_of X G z_sorted,
    n_repr := PySem.W.mg_none_of X G z_repr,
    n_divmod := PySem.W.mg_none_of X G z_divmod }
theorem all_mk {l : PySem.W.OpenLaw} {w : World} {K : PySem.W.Frag} {mg : Str → Option Value} {fa : Addr} (hfa : mg "law" = some (.ref fa)) (T : Txt K mg) (hb : ∀ (s : Shared) (v : Value), BindsTo s T.d_law ⟨[v], []⟩ [("script", v)]) :
    ∃ fd : FuncData, (∀ (s : Shared) (v : Value), BindsTo s fd ⟨[v], []⟩ [("script", v)]) ∧ ∀ base : Heap, K.In base → base.Ns mainGlobals mg → FnOk l.prog w K mg base CX0 10 fa fd ["script"] (sp_law K) := by
  have e := hfa.symm.trans T.m_law
  cases e
  exact ⟨T.d_law, hb, fun base _ _ => ok_law T⟩
end K00
open PySem PySem.W PyProof.Rows
set_option maxHeartbeats 0 in
theorem PySem.Challenge.cw_roomlines_k00_whole_words_in_order_holds : PySem.Challenge.rw_roomlines_k00_whole_words_in_order.Holds := by
  w_on; o_law; k_head; (case hw => w_witness2)
  k_fill
  refine L2.walk_of (l := PySem.Challenge.rw_roomlines_k00_whole_words_in_order) (n := 63) (k := 10) (x := "script") (CX := fun _ => L2.CX0) (sp := fun w => K00.sp_law _) rfl (by decide) rfl ⟨rfl, by decide, by decide⟩ (fun w h Y => PySem.W.kIn_of Y) ?F (fun _ _ a ns hl _ hS => ⟨a, ns, rfl, fun H' s => s.seq hS, by omega, fun _ => rfl⟩) (fun _ _ _ _ _ h => h)
  case F =>
    intro w mg fa h KX G hmg
    refine' K00.all_mk hmg (K00.txt_mk KX G ?a0 ?l0 ?c0 ?k0 ?a1 ?l1 ?c1 ?k1 ?a2 ?l2 ?c2 ?k2 ?a3 ?l3 ?c3 ?k3 ?a4 ?l4 ?c4 ?k4 ?a5 ?l5 ?c5 ?k5 ?a6 ?l6 ?c6 ?k6 ?a7 ?l7 ?c7 ?k7 ?a8 ?l8 ?c8 ?k8 ?a9 ?l9 ?c9 ?k9 ?a10 ?l10 ?c10 ?k10 ?a11 ?l11 ?c11 ?k11 ?a12 ?l12 ?c12 ?k12 ?a13 ?l13 ?c13 ?k13 ?a14 ?l14 ?c14 ?k14 ?a15 ?l15 ?c15 ?k15 ?a16 ?l16 ?c16 ?k16 ?a17 ?l17 ?c17 ?k17 ?a18 ?l18 ?c18 ?k18 ?a19 ?l19 ?c19 ?k19 ?a20 ?l20 ?c20 ?k20 ?a21 ?l21 ?c21 ?k21 ?a22 ?l22 ?c22 ?k22 ?a23 ?l23 ?c23 ?k23 ?a24 ?l24 ?c24 ?k24 ?a25 ?l25 ?c25 ?k25 ?a26 ?l26 ?c26 ?k26 ?a27 ?l27 ?c27 ?k27 ?a28 ?l28 ?c28 ?k28 ?a29 ?l29 ?c29 ?k29 ?a30 ?l30 ?c30 ?k30 ?a31 ?l31 ?c31 ?k31 ?a32 ?l32 ?c32 ?k32 ?a33 ?l33 ?c33 ?k33 ?a34 ?l34 ?c34 ?k34 ?a35 ?l35 ?c35 ?k35 ?a36 ?l36 ?c36 ?k36 ?a37 ?l37 ?c37 ?k37 ?a38 ?l38 ?c38 ?k38 ?a39 ?l39 ?c39 ?k39 ?a40 ?l40 ?c40 ?k40 ?g_MAX_LETTERS ?g_MAX_WORD ?g_MOST_SORTED ?g_MOST_LISTED ?g_MOST_PLACED ?z_len ?z_min ?z_max ?z_abs ?z_int ?z_isinstance ?z_tuple ?z_list ?z_bool ?z_all ?z_sum ?z_range ?z_enumerate ?z_sorted ?z_repr ?z_divmod) ?hb
    (case a0 => k_is)
    (case l0 => k_is)
    (case c0 => k_is)
    (case k0 => k_is)
    (case a1 => k_is)
    (case l1 => k_is)
    (case c1 => k_is)
    (case k1 => k_is)
    (case a2 => k_is)
    (case l2 => k_is)
    (case c2 => k_is)
    (case k2 => k_is)
    (case a3 => k_is)
    (case l3 => k_is)
    (case c3 => k_is)
    (case k3 => k_is)
    (case a4 => k_is)
    (case l4 => k_is)
    (case c4 => k_is)
    (case k4 => k_is)
    (case a5 => k_is)
    (case l5 => k_is)
    (case c5 => k_is)
    (case k5 => k_is)
    (case a6 => k_is)
    (case l6 => k_is)
    (case c6 => k_is)
    (case k6 => k_is)
    (case a7 => k_is)
    (case l7 => k_is)
    (case c7 => k_is)
    (case k7 => k_is)
    (case a8 => k_is)
    (case l8 => k_is)
    (case c8 => k_is)
    (case k8 => k_is)
    (case a9 => k_is)
    (case l9 => k_is)
    (case c9 => k_is)
    (case k9 => k_is)
    (case a10 => k_is)
    (case l10 => k_is)
    (case c10 => k_is)
    (case k10 => k_is)
    (case a11 => k_is)
    (case l11 => k_is)
    (case c11 => k_is)
    (case k11 => k_is)
    (case a12 => k_is)
    (case l12 => k_is)
    (case c12 => k_is)
    (case k12 => k_is)
    (case a13 => k_is)
    (case l13 => k_is)
    (case c13 => k_is)
    (case k13 => k_is)
    (case a14 => k_is)
    (case l14 => k_is)
    (case c14 => k_is)
    (case k14 => k_is)
    (case a15 => k_is)
    (case l15 => k_is)
    (case c15 => k_is)
    (case k15 => k_is)
    (case a16 => k_is)
    (case l16 => k_is)
    (case c16 => k_is)
    (case k16 => k_is)
    (case a17 => k_is)
    (case l17 => k_is)
    (case c17 => k_is)
    (case k17 => k_is)
    (case a18 => k_is)
    (case l18 => k_is)
    (case c18 => k_is)
    (case k18 => k_is)
    (case a19 => k_is)
    (case l19 => k_is)
    (case c19 => k_is)
    (case k19 => k_is)
    (case a20 => k_is)
    (case l20 => k_is)
    (case c20 => k_is)
    (case k20 => k_is)
    (case a21 => k_is)
    (case l21 => k_is)
    (case c21 => k_is)
    (case k21 => k_is)
    (case a22 => k_is)
    (case l22 => k_is)
    (case c22 => k_is)
    (case k22 => k_is)
    (case a23 => k_is)
    (case l23 => k_is)
    (case c23 => k_is)
    (case k23 => k_is)
    (case a24 => k_is)
    (case l24 => k_is)
    (case c24 => k_is)
    (case k24 => k_is)
    (case a25 => k_is)
    (case l25 => k_is)
    (case c25 => k_is)
    (case k25 => k_is)
    (case a26 => k_is)
    (case l26 => k_is)
    (case c26 => k_is)
    (case k26 => k_is)
    (case a27 => k_is)
    (case l27 => k_is)
    (case c27 => k_is)
    (case k27 => k_is)
    (case a28 => k_is)
    (case l28 => k_is)
    (case c28 => k_is)
    (case k28 => k_is)
    (case a29 => k_is)
    (case l29 => k_is)
    (case c29 => k_is)
    (case k29 => k_is)
    (case a30 => k_is)
    (case l30 => k_is)
    (case c30 => k_is)
    (case k30 => k_is)
    (case a31 => k_is)
    (case l31 => k_is)
    (case c31 => k_is)
    (case k31 => k_is)
    (case a32 => k_is)
    (case l32 => k_is)
    (case c32 => k_is)
    (case k32 => k_is)
    (case a33 => k_is)
    (case l33 => k_is)
    (case c33 => k_is)
    (case k33 => k_is)
    (case a34 => k_is)
    (case l34 => k_is)
    (case c34 => k_is)
    (case k34 => k_is)
    (case a35 => k_is)
    (case l35 => k_is)
    (case c35 => k_is)
    (case k35 => k_is)
    (case a36 => k_is)
    (case l36 => k_is)
    (case c36 => k_is)
    (case k36 => k_is)
    (case a37 => k_is)
    (case l37 => k_is)
    (case c37 => k_is)
    (case k37 => k_is)
    (case a38 => k_is)
    (case l38 => k_is)
    (case c38 => k_is)
    (case k38 => k_is)
    (case a39 => k_is)
    (case l39 => k_is)
    (case c39 => k_is)
    (case k39 => k_is)
    (case a40 => k_is)
    (case l40 => k_is)
    (case c40 => k_is)
    (case k40 => k_is)
    (case g_MAX_LETTERS => k_is)
    (case g_MAX_WORD => k_is)
    (case g_MOST_SORTED => k_is)
    (case g_MOST_LISTED => k_is)
    (case g_MOST_PLACED => k_is)
    (case z_len => k_is)
    (case z_min => k_is)
    (case z_max => k_is)
    (case z_abs => k_is)
    (case z_int => k_is)
    (case z_isinstance => k_is)
    (case z_tuple => k_is)
    (case z_list => k_is)
    (case z_bool => k_is)
    (case z_all => k_is)
    (case z_sum => k_is)
    (case z_range => k_is)
    (case z_enumerate => k_is)
    (case z_sorted => k_is)
    (case z_repr => k_is)
    (case z_divmod => k_is)
    (case hb => exact fun s v => .of_eq rfl)
