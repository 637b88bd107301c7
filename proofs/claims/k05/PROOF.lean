import PyProof.Rows.All
import Wide.All
import OpenK.AllK
import Wide.FinOn
import HandS.ForMost
import HandS.Style
import HandS.TupAny
import HandS.TupMul
import HandS.Zip
import HandS.Wide
import HandS.WideBits
import HandS.IsInst
import HandS.GenYield
import PyProof.Draws
import HandS.SetBool
import HandS.TupSets
import KE.SortData
import KE.LtSeq
import HandS.GenList
import HandS.NoneIn
import HandS.SlotsOwn
import HandS.More
import KE.KCallOwn
import KE.KOpsOwn
import OpenK.KOps
import PyProof.InstEq
import PyProof.TupleOps
import HandS.Property
import HandS.List
import HandS.FStr
import HandS.MakeKwOnly
import HandS.Text
import HandS.Defaults
import HandS.Walk
import PySem.Challenge.RW_roomlines_k05_whole_heights_in_order
/-! S1 -/
set_option Elab.async false
set_option linter.all false
set_option maxRecDepth 100000
set_option maxHeartbeats 2000000
namespace HT
open PySem PySem.Spec PyProof.Rows
section
variable {prog : Program} {w : World} {A : Around} {E : Value → Shared → Prop} {s : Shared}
theorem rev_pick (items : Array Value) : ((List.range items.size).filterMap fun (k : Nat) => items[(((items.size : Int) - 1) + (k : Int) * (-1)).toNat]?).toArray = items.toList.reverse.toArray := by
  have h := PySem.W.krv_pick items
  unfold slicePick at h
  rw [PySem.W.krv_bounds] at h
  rw [← h]
  show _ = ((sliceRange ((items.size : Int) - 1) (-1) (-1)).filterMap (items[·]?)).toArray
  rw [PySem.W.krv_sliceRange, List.filterMap_map]
  congr 1
  have e : ∀ l : List Nat, (∀ k ∈ l, k < items.size) → l.filterMap (fun (k : Nat) => items[(((items.size : Int) - 1) + (k : Int) * (-1)).toNat]?) = l.filterMap ((fun x => items[x]?) ∘ fun k => items.size - 1 - k) := by
    intro l
    induction l with
    | nil => intro _; rfl
    | cons a l ih =>
      intro hl
      have ha := hl a List.mem_cons_self
      have e1 : (((items.size : Int) - 1) + (a : Int) * (-1)).toNat = items.size - 1 - a := by omega
      have q := ih fun k hk => hl k (List.mem_cons_of_mem _ hk)
      rw [List.filterMap_cons, List.filterMap_cons, e1, q]
      rfl
  exact e _ fun k hk => List.mem_range.mp hk
theorem getItem_tuple_rev {t sl : Addr} {items : Array Value} {tk : Tok} {Q : Value → Shared → Prop} (ht : IsTup s.heap t items) (hs : s.heap.IsSliceOf sl .none .none (.int (-1) tk))
    (h : Q (.ref s.heap.objs.size) { s with heap := s.heap.push { cls := .type "tuple", data := .seq items.toList.reverse.toArray } })
    (hsz : items.size ≤ sizeLine) : wpAny (model prog w) A (getItem (.ref t) (.ref sl)) Q E s := by
  have htake : sizeOk (.seq items.toList.reverse.toArray) := by
    show items.toList.reverse.toArray.size ≤ sizeLine
    rw [List.size_toArray, List.length_reverse, Array.length_toList]
    exact hsz
  obtain ⟨os, hos, hcs, hds⟩ := id hs
  have hTs : s.TypeIs (.ref sl) "slice" := ⟨os, hos, hcs⟩
  unfold getItem
  try with_reducible refine wpAny_holding ?_
  first | refine wpAny_bind (wpAny_pure ?_) | skip
  refine wpAny_bind (wpAny_sequenceKey ht.typeIs (by decide) ?_)
  refine wpAny_bind (wpAny_callSpecial?_slot (name := Str.ofString "__getitem__") ht.typeIs PyProof.Rows.slot_tuple_getitem
    (wpAny_call_entry PyProof.Rows.slot_tuple_getitem ht.typeIs entry_tuple_getitem ?_ (args_tuple_getitem _ _)))
  show wpAny _ _ (Builtin.Tuple.tupleItemsOf (.ref t) >>= _) _ _ s
  refine wpAny_bind (tupleItemsOf_ ht ?_)
  refine wpAny_bind (wpAny_typeOf hTs ?_)
  rw [if_pos (by decide)]
  have sa : ∀ {A : Around} {E : Value → Shared → Prop} {Q : Int × Int × Nat → Shared → Prop}, Q (((items.size : Int) - 1), -1, items.size) s → wpAny (model prog w) A (Builtin.Slice.sliceApplied (.ref sl) (pure (items.size : Int))) Q E s := by
    intro A E Q h
    unfold Builtin.Slice.sliceApplied Builtin.Slice.sliceFields
    refine wpAny_bind (wpAny_bind (wpAny_field hos hds (x := .none) rfl (wpAny_bind (wpAny_field hos hds (x := .none) rfl (wpAny_bind (wpAny_field hos hds (x := .int (-1) tk) rfl (wpAny_pure ?_)))))))
    refine wpAny_bind (slicePart_int ?_)
    show wpAny _ _ (if ((-1 : Int) == 0) = true then _ else _) _ _ s
    rw [if_neg (by decide)]
    refine wpAny_bind (slicePart_none (wpAny_bind (slicePart_none (wpAny_bind (wpAny_pure ?_)))))
    show wpAny _ _ (pure (((items.size : Int) - 1), (-1 : Int), Builtin.Slice.slicePlaces ((items.size : Int) - 1) (-1) (-1))) _ _ s
    have e : Builtin.Slice.slicePlaces ((items.size : Int) - 1) (-1) (-1) = items.size := by
      unfold Builtin.Slice.slicePlaces
      have h1 : ¬ ((-1 : Int) > 0) := by decide
      simp only [h1, if_false]
      rw [show (- -1 : Int) = 1 by decide, Int.ediv_one]
      split <;> omega
    rw [e]
    exact wpAny_pure h
  refine wpAny_bind (sa ?_)
  have hno : ¬ ((((items.size : Int) - 1) == 0 && (-1 : Int) == 1 && items.size == items.size) = true) := by
    intro q
    rw [Bool.and_eq_true, Bool.and_eq_true] at q
    exact absurd (eq_of_beq q.1.2) (by decide)
  show wpAny _ _ (if (((items.size : Int) - 1) == 0 && (-1 : Int) == 1 && items.size == items.size) = true then _ else _) _ _ s
  rw [if_neg hno, rev_pick]
  first
    | exact wpAny_bind (m := Builtin.Tuple.tupleExact _) (wpAny_newObj_type (wpAny_pure ⟨_, rfl, wpAny_pure h⟩) htake)
    | exact wpAny_bind (m := Builtin.Tuple.tupleExact _) (wpAny_newObj_type (wpAny_bind (wpAny_pure (wpAny_pure ⟨_, rfl, wpAny_pure h⟩))) htake)
    | exact wpAny_bind (wpAny_bind (m := Builtin.Tuple.tupleExact _) (wpAny_newObj_type (wpAny_pure (wpAny_pure ⟨_, rfl, wpAny_pure h⟩)) htake))
    | exact wpAny_bind (wpAny_bind (m := Builtin.Tuple.tupleExact _) (wpAny_newObj_type (wpAny_pure ⟨_, rfl, wpAny_pure h⟩) htake))
end
end HT
namespace L2
open PySem PySem.Spec PyProof.Rows
section
variable {X : Cx}
/-- t[::-1] -/
def tRevT (K : PySem.W.Frag) (te : TE) : TE := fun σ H Q => te σ H fun x H1 => ∃ a xs, x = .ref a ∧ SqT K H1 a xs ∧ ∀ p, H1 p = none → Q (.ref p) (upd H1 p (.tup xs.reverse))
theorem pe_revT {e : Expr} {te : TE} {k : Nat} {p1 p2 p3 pos : Pos} (he : PE X e te) : PE X (.Subscript e (.Slice none none (some (.UnaryOp .USub (.Constant (.int 1) k p1) p2)) p3) pos) (tRevT X.K te) := by
  refine ⟨fun pins s σ H Q I h => ?_⟩
  refine Subscript_ (thn (he.run pins s σ H _ I h) fun v s1 ⟨x, H1, I1, r1, q1⟩ => ?_)
  obtain ⟨a, xs, ex, hx, q⟩ := q1
  subst ex
  cases r1
  have hst : PO X (some (.UnaryOp .USub (.Constant (.int 1) k p1) p2)) (tPart (tUn (rU fun i => .int (-i)) (tC (.int 1)))) := po_some (pe_un un_neg pe_int)
  refine wpAny_Slice (thn (po_none.run pins s1 σ H1 (fun o H2 => o = none ∧ H2 = H1) I1 ⟨rfl, rfl⟩) fun vl s2 ⟨l, H2, I2, pl, el, e2⟩ => ?_)
  subst el e2
  refine thn (po_none.run pins s2 σ H2 (fun o H3 => o = none ∧ H3 = H2) I2 ⟨rfl, rfl⟩) fun vu s3 ⟨u, H3, I3, pu, eu, e3⟩ => ?_
  subst eu e3
  refine thn (hst.run pins s3 σ H3 (fun o H4 => o = some (-1) ∧ H4 = H3) I3 ⟨1, rfl, -1, rfl, rfl, rfl⟩) fun vs s4 ⟨o, H4, I4, ps, eo, e4⟩ => ?_
  subst eo e4
  have I5 : Inv X pins σ H4 { s4 with heap := s4.heap.push { cls := .type "slice", data := .fields #[vl, vu, vs] } } := I4.kept (t' := s4.toks) fun b ob q => Heap.get?_push_of_some _ q
  obtain ⟨its, r, ht, hz⟩ := I5.tuple hx
  have hlen := r.length
  cases pl
  cases pu
  cases ps with
  | int _ tk =>
    show wpAny (model X.prog X.w) X.A (subscriptTail e (.Slice none none (some (.UnaryOp .USub (.Constant (.int 1) k p1) p2)) p3) (.ref a) (.ref s4.heap.objs.size)) (EP X pins σ Q) X.xe { s4 with heap := s4.heap.push { cls := .type "slice", data := .fields #[.none, .none, .int (-1) tk] } }
    refine tail_any (ops := [.ref a, .ref s4.heap.objs.size]) ht.typeIs (PyProof.Rows.slot_tuple_getitem.lookup) ?_ (by with_unfolding_all rfl)
    refine HT.getItem_tuple_rev ht (Heap.IsSliceOf.new _ .none .none (.int (-1) tk)) ?_ (by rw [List.size_toArray]; omega)
    refine ⟨.ref _, _, I5.laid (t' := s4.toks) (o := .tup xs.reverse) (fun b ob q => Heap.get?_push_of_some _ q) (Nat.le_refl _) ?_, rfl, q _ (I5.hok.fresh (Nat.le_refl _))⟩
    refine ⟨by rw [List.length_reverse]; exact hz, _, r.reverse, ?_⟩
    exact IsTup.new _ _
end
end L2
/-! S2 -/
set_option Elab.async false
set_option linter.all false
set_option maxRecDepth 100000
set_option maxHeartbeats 2000000
namespace HT
open PySem PySem.Spec PyProof.Rows
theorem meets_enumerate_newT (l : Addr) (items : Array Value) (n : Nat) (dct : Option Addr) (sl : Array (Option Value)) :
    Meets (Builtin.«enumerate.__new__» ⟨[.type "enumerate", .ref l], []⟩) (fun _ R s => s.heap.get? l = some { cls := .type "tuple", dict := dct, data := .seq items n, slots := sl } ∧
      R (.ok (.ret (.ref (s.heap.push { cls := .type "tuple_iterator", data := .fields #[.ref l, .int 0 0] }).objs.size)))
        { s with heap := (s.heap.push { cls := .type "tuple_iterator", data := .fields #[.ref l, .int 0 0] }).push { cls := .type "enumerate", data := .fields #[.none, .bool false, .ref s.heap.objs.size, rawInt 0, .none, .none] } }) :=
  .of_wp fun prog w A R s h => by
    obtain ⟨hp, g, d, tk, os⟩ := s; obtain ⟨hl, h⟩ := h
    have hsub := sub_enumerate
    have hL : Heap.IsTuple (Shared.heap ⟨hp, g, d, tk, os⟩) l items := ⟨_, hl, rfl, n, rfl⟩
    wp_walk using wpAny_loadPart' hl
    refine wpAny_stack_any fun st => wpAny_pure ?_
    split
    · rename_i c _ _ _ _ _
      cases (c == Value.type "enumerate")
      · wp_walk using wpAny_loadPart' hl, wpAny_pyIter_tuple hL
        exact ⟨_, rfl, h⟩
      · wp_walk using wpAny_loadPart' hl, wpAny_pyIter_tuple hL
        exact ⟨_, rfl, h⟩
    · wp_walk using wpAny_loadPart' hl, wpAny_pyIter_tuple hL
      exact ⟨_, rfl, h⟩
end HT
namespace HT
open PySem PySem.Spec PyProof.Rows
section
variable {prog : Program} {w : World} {A : Around} {E : Value → Shared → Prop} {s : Shared}
theorem call_enumerate_tup {l : Addr} {items : Array Value} {Q : Value → Shared → Prop} (hL : IsTup s.heap l items)
    (h : ∀ h', IsEnum h' (s.heap.objs.size + 1) s.heap.objs.size 0 .none → h'.IsTupleIter s.heap.objs.size l 0 → h'.objs.size = s.heap.objs.size + 2 →
      (∀ b o, s.heap.get? b = some o → h'.get? b = some o) → Q (.ref (s.heap.objs.size + 1)) { s with heap := h' }) :
    wpAny (model prog w) A (call (.type "enumerate") [.ref l]) Q E s := by
  obtain ⟨⟨c, dct, dt, sl⟩, hl, hc, n, hd⟩ := hL
  replace hc : c = .type "tuple" := hc
  replace hd : dt = .seq items n := hd
  subst hc hd
  refine callType_new F.called_enumerate (by decide) (F.typeCall_enumerate_1 _) (F.newCall_enumerate_1 _) (fun obj => F.args_object_init_2 obj _) F.entry_enumerate_new
    (meets_enumerate_newT l items n dct sl) ⟨hl, ?_⟩
  have hz : (s.heap.push { cls := .type "tuple_iterator", data := .fields #[.ref l, .int 0 0] }).objs.size = s.heap.objs.size + 1 := Heap.size_push ..
  show _ ∧ _
  rw [hz]
  have he : IsEnum ((s.heap.push { cls := .type "tuple_iterator", data := .fields #[.ref l, .int 0 0] }).push
      { cls := .type "enumerate", data := .fields #[.none, .bool false, .ref s.heap.objs.size, rawInt 0, .none, .none] }) (s.heap.objs.size + 1) s.heap.objs.size 0 .none := by
    have := Heap.get?_push_size (s.heap.push { cls := .type "tuple_iterator", data := .fields #[.ref l, .int 0 0] })
      (o := { cls := .type "enumerate", data := .fields #[.none, .bool false, .ref s.heap.objs.size, rawInt 0, .none, .none] }) rfl
    rw [hz] at this; exact this
  refine ⟨⟨_, he, rfl⟩, h _ he ⟨_, Heap.get?_push_of_some _ (Heap.get?_push_size _ rfl), rfl, rfl⟩ (by rw [Heap.size_push, hz]) fun b o x => Heap.get?_push_of_some _ (Heap.get?_push_of_some _ x)⟩
theorem nextOf_tup_item {it t : Addr} {i : Nat} {items : Array Value} {x : Value} {Q : Value → Shared → Prop} (hit : s.heap.IsTupleIter it t i) (ht : IsTup s.heap t items) (hx : items[i]? = some x)
    (hQ : ∀ h', h'.IsTupleIter it t (i + 1) → Heap.SameBut it s.heap h' → Q x { s with heap := h' }) :
    wpAny (model prog w) A (Builtin.SmallTypes.nextOf (.ref it)) Q E s := by
  obtain ⟨o, ho, hc, hd⟩ := id hit
  obtain ⟨ol, hol, _, nl, hdl⟩ := ht
  unfold Builtin.SmallTypes.nextOf
  refine wpAny_bind (wpAny_callSpecial?_slot (name := Str.ofString "__next__") hit.typeIs slot_tupleiter_next (wpAny_call_entry slot_tupleiter_next hit.typeIs entry_tupleiter_next ?_ (args_tupleiter_next _)))
  show wpAny _ _ (field (.ref it) 0 >>= _) _ _ s
  refine wpAny_bind (wpAny_field ho hd (x := .ref t) rfl ?_)
  show wpAny _ _ (if (Value.ref t == Value.none) = true then _ else _) _ _ s
  rw [if_neg (show ¬ ((Value.ref t == Value.none) = true) from Bool.false_ne_true)]
  show wpAny _ _ (field (.ref it) 1 >>= _) _ _ s
  refine wpAny_bind (wpAny_field ho hd (x := .int i 0) rfl ?_)
  show wpAny _ _ (seqItems? (.ref t) >>= _) _ _ s
  refine wpAny_bind (wpAny_seqItems hol hdl ?_)
  simp only [Int.toNat_natCast, hx]
  refine wpAny_bind (wpAny_setField ho hd (by simp) (wpAny_pure ⟨x, rfl, wpAny_pure (hQ _ ?_ (Heap.SameBut.update ..))⟩))
  exact ⟨_, Heap.get?_update_self _ ho (Obj.isFreed_of_fields (Obj.data_mapFields hd _)), (Obj.cls_mapFields ..).trans hc, by
    rw [Obj.data_mapFields hd]; simp [rawInt]⟩
theorem nextOf_tup_end {it t : Addr} {i : Nat} {items : Array Value} {Q : Value → Shared → Prop} (hh : A.handled = none) (hit : s.heap.IsTupleIter it t i) (ht : IsTup s.heap t items) (hx : items[i]? = none)
    (hE : ∀ h' e, Heap.ExtBut it s.heap h' → (∃ o, h'.get? e = some o ∧ o.cls = .type "StopIteration") → E (.ref e) { s with heap := h' }) :
    wpAny (model prog w) A (Builtin.SmallTypes.nextOf (.ref it)) Q E s := by
  obtain ⟨o, ho, hc, hd⟩ := id hit
  obtain ⟨ol, hol, _, nl, hdl⟩ := ht
  unfold Builtin.SmallTypes.nextOf
  refine wpAny_bind (wpAny_callSpecial?_slot (name := Str.ofString "__next__") hit.typeIs slot_tupleiter_next (wpAny_call_entry slot_tupleiter_next hit.typeIs entry_tupleiter_next ?_ (args_tupleiter_next _)))
  show wpAny _ _ (field (.ref it) 0 >>= _) _ _ s
  refine wpAny_bind (wpAny_field ho hd (x := .ref t) rfl ?_)
  show wpAny _ _ (if (Value.ref t == Value.none) = true then _ else _) _ _ s
  rw [if_neg (show ¬ ((Value.ref t == Value.none) = true) from Bool.false_ne_true)]
  show wpAny _ _ (field (.ref it) 1 >>= _) _ _ s
  refine wpAny_bind (wpAny_field ho hd (x := .int i 0) rfl ?_)
  show wpAny _ _ (seqItems? (.ref t) >>= _) _ _ s
  refine wpAny_bind (wpAny_seqItems hol hdl ?_)
  simp only [Int.toNat_natCast, hx]
  refine wpAny_bind (wpAny_rule (wpAny_bind (wpAny_setField ho hd (by simp) ?_)))
  show wpAny _ _ (newExc (.type "StopIteration") [] >>= _) _ _ _
  refine wpAny_bind ?_
  simp only [newExc, newTuple]
  refine wpAny_bind (wpAny_newObj_type ?_ (by size_fits))
  refine wpAny_bind (m := firstArgMember _ _) (wpAny_of_eq (a := Value.none) (by first | rfl | (simp only [firstArgMember]; rfl)) ?_)
  refine wpAny_newObj_type ?_ (by size_fits)
  simp only [raiseNew]
  refine wpAny_bind (wpAny_handled ?_)
  first | rw [show A.in1.handled = none from hh] | rw [hh]
  refine wpAny_bind (wpAny_pure (wpAny_throw ?_))
  exact hE _ _ (((Heap.SameBut.update ..).extBut.push _).push _) ⟨_, Heap.get?_push_size _ rfl, rfl⟩
end
theorem draws_tup {prog : Program} {w : World} {A : Around} (hh : A.handled = none) (it l : Addr) (hne : l ≠ it) (items : Array Value) :
    Draws prog w A it [it, l] items.size (fun i v => items[i]? = some v) (fun i h => h.IsTupleIter it l i ∧ IsTup h l items) where
  live := fun _ _ st => let ⟨o, ho, _⟩ := st.1; ⟨o, ho⟩
  frame := fun _ _ _ st hk => ⟨let ⟨o, ho, r⟩ := st.1; ⟨o, hk it (by simp) o ho, r⟩, let ⟨o, ho, r⟩ := st.2; ⟨o, hk l (by simp) o ho, r⟩⟩
  item := fun i s Q E hi st hQ => by
    refine nextOf_tup_item st.1 st.2 (x := items[i]) (by simp [hi]) fun h' hit' hs' => ?_
    exact hQ _ h' s.toks (by simp [hi]) ⟨hit', let ⟨o, ho, r⟩ := st.2; ⟨o, hs'.2 l hne ▸ ho, r⟩⟩ hs'
  done := fun s Q E st hE => nextOf_tup_end hh st.1 st.2 (by simp) hE
end HT
/-! S3 -/
set_option Elab.async false
set_option linter.all false
set_option maxRecDepth 100000
set_option maxHeartbeats 2000000
namespace L2
open PySem PySem.Spec PyProof.Rows
/-- the tuple at a as it stands at each turn, each item in a new pair -/
def IteT (K : PySem.W.Frag) (a : Addr) : It :=
  ⟨fun i H => ∃ (xs : List V) (x : V), SqT K H a xs ∧ xs[i]? = some x, fun i H v H' => ∃ T x, v = .ref T ∧ H T = none ∧ H' = upd H T (.tup [.int (i : Nat), x]) ∧ ∀ xs, SqT K H a xs → xs[i]? = some x, fun i H => ∃ xs : List V, SqT K H a xs ∧ xs.length ≤ i⟩
theorem turn_enumT {P : Program} {w : World} {K : PySem.W.Frag} {elts : List Expr} {kk : Nat} {tpos : Pos} (a e it : Addr) :
    Turn P w K (.Tuple elts kk tpos) (IteT K a) [e, it] e (fun i h => (∃ old, IsEnum h e it ((i : Nat) : Int) old) ∧ h.IsTupleIter it a i ∧ e ≠ it) where
  mem := by simp
  obj := fun i h st b hb => by
    obtain ⟨⟨old, he⟩, ⟨o, ho, hc, hd⟩, _⟩ := st
    have e' : b = e ∨ b = it := by simpa using hb
    rcases e' with z | z
    · rw [z]; exact ⟨_, he, fun v q => nomatch q⟩
    · rw [z]; exact ⟨o, ho, fun v q => by rw [hd] at q; cases q⟩
  keep := fun i h h' st k => let ⟨⟨old, he⟩, ⟨o, ho, r⟩, hne⟩ := st; ⟨⟨old, k e (by simp) _ he⟩, ⟨o, k it (by simp) o ho, r⟩, hne⟩
  item := by
    intro X hP hw hK hc i pins s σ H E I hf st hg
    subst hP hw hK
    obtain ⟨⟨old, he⟩, hit, hne⟩ := st
    obtain ⟨xs, x, hq, hx⟩ := hg
    obtain ⟨its, rv, p, hz⟩ := I.tuple hq
    obtain ⟨u, hu, ru⟩ := rv.get hx
    have hel : e < s.heap.objs.size := Heap.lt_size he
    have hil : it < s.heap.objs.size := by obtain ⟨_, q, _⟩ := hit; exact Heap.lt_size q
    have hae : a ≠ it := fun z => by
      obtain ⟨o, ho, c, _⟩ := hit
      obtain ⟨o', ho', c', _⟩ := p
      rw [z, ho] at ho'
      cases ho'
      rw [c] at c'
      exact absurd (Value.type.inj c') (by decide)
    have haE : e ∉ [it, a] := fun z => by
      have z' : e = it ∨ e = a := by simpa using z
      rcases z' with z | z
      · exact hne z
      · obtain ⟨o', ho', c', _⟩ := p
        have he' : s.heap.get? e = some _ := he
        rw [z, ho'] at he'
        have c2 := Option.some.inj he'
        rw [c2] at c'
        exact absurd (Value.type.inj c') (by decide)
    have hil2 : i < its.toArray.size := by
      rw [List.size_toArray]
      exact (List.getElem?_eq_some_iff.mp hu).1
    have D := HT.draws_tup (prog := X.prog) (w := X.w) (A := X.A.in1) (I.ok.hd hc) it a hae its.toArray
    refine wpAny_pyNext_enum_itemD D he ⟨hit, p⟩ hil2 hne haE fun y h' tk hy ho hit' hT hsz hk => ?_
    have ey : y = u := by
      have hy' : its.toArray[i]? = some y := hy
      rw [List.getElem?_toArray, hu] at hy'
      exact (Option.some.inj hy').symm
    subst ey
    have ho' : IsEnumOut h' e it ((i : Int) + 1) y s.heap.objs.size := ho
    refine ⟨_, rfl, wpAny_letOwnedTupleGo_enum (s := { s with heap := h', toks := tk + 1 }) ho' fun h'' he' sb => ?_⟩
    have hT2 : h''.get? s.heap.objs.size = some { cls := .type "tuple", data := .seq #[.int i tk, y] } := (sb.2 _ (Nat.ne_of_gt hel)).trans hT
    have new : ObjOk X.prog X.w (upd H s.heap.objs.size (.tup [.int (i : Nat), x])) h'' s.heap.objs.size (.tup [.int (i : Nat), x]) :=
      ⟨by show 2 ≤ sizeLine; decide, [.int i tk, y], .cons ⟨_, rfl⟩ (.cons ru .nil), ⟨_, hT2, rfl, _, rfl⟩⟩
    have I1 : Inv X pins σ (upd H s.heap.objs.size (.tup [.int (i : Nat), x])) { s with heap := h'', toks := tk + 1 } :=
      I.turnedNew (ch := [e, it]) (fun b ob hb q => (sb.2 b (fun z => hb (by simp [z]))).trans (hk b ob (fun z => hb (by simp [z])) (fun z => hb (by simp [z])) q)) hf (Nat.le_refl _) new
    refine ⟨.ref s.heap.objs.size, _, I1, rfl, ⟨_, x, rfl, I.hok.fresh (Nat.le_refl _), rfl, fun ys hy => by rw [I.tuple_inj hy hq]; exact hx⟩, ⟨⟨y, ?_⟩, ?_, hne⟩, fun b hb => ?_⟩
    · have e1 : ((i + 1 : Nat) : Int) = (i : Int) + 1 := by omega
      rw [e1]; exact he'
    · obtain ⟨o, ho2, r⟩ := hit'.1
      exact ⟨o, (sb.2 it (Ne.symm hne)).trans ho2, r⟩
    · have hb' : b < s.heap.objs.size := by
        have e' : b = e ∨ b = it := by simpa using hb
        rcases e' with z | z
        · rw [z]; exact hel
        · rw [z]; exact hil
      rw [upd_ne (Nat.ne_of_lt hb')]
      exact (hf b hb).1
  done := by
    intro X hP hw hK hc i pins s σ H E I hf st hg
    subst hP hw hK
    obtain ⟨⟨old, he⟩, hit, hne⟩ := st
    obtain ⟨xs, hq, hx⟩ := hg
    obtain ⟨its, rv, p, hz⟩ := I.tuple hq
    obtain ⟨f0, f1, f2, f3, f4, f5⟩ := hf it (by simp)
    have hl := rv.length
    have hT : s.TypeIs (.ref e) "enumerate" := ⟨_, he, rfl⟩
    unfold pyNext
    refine wpAny_bind (wpAny_attempt (wpAny_callSpecial?_slot (name := Str.ofString "__next__") hT F.slot_enumerate_next
      (wpAny_call_entry F.slot_enumerate_next hT F.entry_enumerate_next ?_ (F.args_enumerate_next_1 _))))
    show wpAny _ _ (field (.ref e) 2 >>= _) _ _ _
    refine wpAny_bind (wpAny_field he rfl (x := .ref it) rfl ?_)
    have hno : its.toArray[i]? = none := by rw [List.getElem?_toArray]; exact List.getElem?_eq_none (by omega)
    refine wpAny_bind (HT.nextOf_tup_end (I.ok.hd hc) hit p hno fun h' x he' hx' => ?_)
    obtain ⟨o, ho, hc⟩ := hx'
    refine wpAny_bind (wpAny_isInstance (T := "StopIteration") (b := true) ⟨o, ho, hc⟩ isSubtype_stop ?_)
    exact wpAny_pure ⟨rfl, I.turned (t' := s.toks) (fun b o hb q => he' b o hb q) f0 f1 f3 f4 f5⟩
  self := fun A i s Q E st h => let ⟨⟨_, he⟩, _⟩ := st; wpAny_pyIter_enum he h
def iEnumT (K : PySem.W.Frag) (ta : TA) : TI := fun σ H R => ta σ H fun vs H1 => ∃ a xs, vs = [.ref a] ∧ SqT K H1 a xs ∧ R (IteT K a) H1
theorem pi_enumT {X : Cx} {e : Expr} {ta : TA} {p pos tpos : Pos} {elts : List Expr} {kk : Nat} (hg : Gl X "enumerate") (hm : X.mg "enumerate" = none) (ha : PA X [e] ta) (hs : starEach [e] X.env = [(false, eval e X.env)] := by rfl) :
    PI X (.Tuple elts kk tpos) (.Call (.Name "enumerate" p) [e] [] pos) (iEnumT X.K ta) := by
  refine ⟨fun pins s σ H R I h => ?_⟩
  refine Call_ (ld_blt I hg hm boot_enumerate (PyProof.Rows.callWith_type1 (thn (ha.run pos pins s σ H _ I h) fun us s1 ⟨vs, H1, I1, r1, q1⟩ => ?_) hs rfl))
  obtain ⟨a, xs, ex, hq, q⟩ := q1
  subst ex
  cases r1 with
  | cons r rr =>
    cases rr
    cases r
    obtain ⟨its, rv, p', hz⟩ := I1.tuple hq
    refine HT.call_enumerate_tup p' fun h' he hit hsz hk => wpAny_pyIter_enum he ?_
    have I2 : Inv X pins σ H1 { s1 with heap := h' } := I1.kept (t' := s1.toks) hk
    refine ⟨s1.heap.objs.size + 1, [s1.heap.objs.size + 1, s1.heap.objs.size], _, _, H1, rfl, I2, turn_enumT a (s1.heap.objs.size + 1) s1.heap.objs.size, ⟨⟨.none, he⟩, hit, Nat.succ_ne_self _⟩, fun b hb => ?_, q⟩
    have e' : b = s1.heap.objs.size + 1 ∨ b = s1.heap.objs.size := by simpa using hb
    have hle : s1.heap.objs.size ≤ b := by
      rcases e' with z | z
      · rw [z]; exact Nat.le_add_right _ _
      · rw [z]; exact Nat.le_refl _
    exact I1.fpOk hle (I1.hok.fresh hle)
end L2
/-! S4 -/
set_option Elab.async false
set_option linter.all false
set_option maxRecDepth 100000
set_option maxHeartbeats 2000000
namespace RL
open PySem PySem.Spec PyProof.Rows L2
theorem same_upd {H : Hp} {p : Addr} (h : H p = none) (o : HO) : Same H (upd H p o) := fun b u q => by rw [upd_ne (ne_of_none q h)]; exact q
theorem Same.sqt {K : PySem.W.Frag} {H H' : Hp} {a : Addr} {xs : List V} (e : Same H H') (h : SqT K H a xs) : SqT K H' a xs := by
  rcases h with (h | ⟨o, h⟩) | h
  · exact .inl (.inl (e _ _ h))
  · exact .inl (.inr ⟨o, e _ _ h⟩)
  · exact .inr h
/-- a tuple of xs is handed on, all that was tracked stands -/
def NewT (K : PySem.W.Frag) (H : Hp) (Q : VK) (xs : List V) : Prop := ∀ H' p, Same H H' → SqT K H' p xs → Q (.ref p) H'
theorem NewT.al {K : PySem.W.Frag} {H : Hp} {Q : VK} {xs : List V} (h : NewT K H Q xs) : ∀ p, H p = none → Q (.ref p) (upd H p (.tup xs)) := fun p hp => h _ p (same_upd hp _) (SqT.of upd_same)
theorem NewT.here {K : PySem.W.Frag} {H : Hp} {Q : VK} {xs : List V} (h : NewT K H Q xs) {a : Addr} (ha : SqT K H a xs) : Q (.ref a) H := h H a (Same.refl H) ha
/-- a new list -/
def NewL (H : Hp) (Q : VK) (xs : List V) : Prop := ∀ H' p, Same H H' → H p = none → H' p = some (.lst xs) → Q (.ref p) H'
theorem NewL.al {H : Hp} {Q : VK} {xs : List V} (h : NewL H Q xs) : ∀ p, H p = none → Q (.ref p) (upd H p (.lst xs)) := fun p hp => h _ p (same_upd hp _) hp upd_same

section
variable {X : Cx}
theorem pe_weak {e : Expr} {t t' : TE} (h : PE X e t) (k : ∀ σ H Q, t' σ H Q → t σ H Q) : PE X e t' := ⟨fun pins s σ H Q I q => h.run pins s σ H Q I (k σ H Q q)⟩
theorem opr_weak {f : Value → Value → Sem Value} {r r' : R2} (h : OpR X f r) (k : ∀ x y H Q, r' x y H Q → r x y H Q) : OpR X f r' := fun pins s σ H x y v u Q I rx ry q => h pins s σ H x y v u Q I rx ry (k x y H Q q)
theorem callr_weak {f : Value} {r r' : List V → Hp → VK → Prop} (h : CallR X f r) (k : ∀ xs H Q, r' xs H Q → r xs H Q) : CallR X f r' := fun pins s σ H vs us Q I r q => h pins s σ H vs us Q I r (k _ _ _ q)
theorem slr_weak {r r' : V → Option Int → Option Int → Hp → VK → Prop} (h : SlR X r) (k : ∀ x lo hi H Q, r' x lo hi H Q → r x lo hi H Q) : SlR X r' := fun pins s σ H x v vl vu lo hi sl Q I rx hs pl pu q => h pins s σ H x v vl vu lo hi sl Q I rx hs pl pu (k _ _ _ _ _ q)
/-- a reading whose wish may be weakened -/
def upE (te : TE) : TE := fun σ H Q => ∃ Q0 : VK, te σ H Q0 ∧ ∀ x H1, Q0 x H1 → Q x H1
theorem pe_up {e : Expr} {te : TE} (he : PE X e te) : PE X e (upE te) := ⟨fun pins s σ H Q I q => by
    obtain ⟨Q0, h0, h1⟩ := q
    exact thn (he.run pins s σ H Q0 I h0) fun v s1 ⟨x, H1, I1, r1, q1⟩ => ⟨x, H1, I1, r1, h1 _ _ q1⟩⟩
def upA (t : TA) : TA := fun σ H Q => ∃ Q0 : List V → Hp → Prop, t σ H Q0 ∧ ∀ x H1, Q0 x H1 → Q x H1
theorem pa_up {es : List Expr} {t : TA} (h : PA X es t) : PA X es (upA t) := ⟨fun pos pins s σ H Q I q => by
    obtain ⟨Q0, h0, h1⟩ := q
    exact thn (h.run pos pins s σ H Q0 I h0) fun v s1 ⟨x, H1, I1, r1, q1⟩ => ⟨x, H1, I1, r1, h1 _ _ q1⟩⟩
/-- t + u -/
def rCatS (K : PySem.W.Frag) : R2 := fun x y H Q => ∃ a b xs ys, x = .ref a ∧ y = .ref b ∧ SqT K H a xs ∧ SqT K H b ys ∧ xs.length + ys.length ≤ sizeLine ∧ NewT K H Q (xs ++ ys)
theorem op_catS : OpR X (binaryOp .Add) (rCatS X.K) := opr_weak op_catA fun x y H Q h => by
  obtain ⟨a, b, xs, ys, ex, ey, hx, hy, hz, q⟩ := h
  refine ⟨a, b, xs, ys, ex, ey, hx, hy, hz, fun e => ?_, fun _ e => ?_, fun _ _ => q.al⟩
  · subst e
    exact q.here hy
  · subst e
    rw [List.append_nil] at q
    exact q.here hx
/-- t[i:j] -/
def rSlU (K : PySem.W.Frag) : V → Option Int → Option Int → Hp → VK → Prop := fun x lo hi H Q => ∃ a xs, x = .ref a ∧ SqT K H a xs ∧ NewT K H Q (cutV xs lo hi)
theorem cut_whole {xs : List V} {lo hi : Option Int} (h : HT.sIx xs.length 0 lo = 0 ∧ HT.sIx xs.length xs.length hi = xs.length) : cutV xs lo hi = xs := by
  unfold cutV
  rw [h.1, h.2]
  simp
theorem sl_tupU : SlR X (rSlU X.K) := slr_weak sl_tupA fun x lo hi H Q h => by
  obtain ⟨a, xs, ex, hx, q⟩ := h
  refine ⟨a, xs, ex, hx, fun e => ?_, fun _ => q.al⟩
  rw [cut_whole e] at q
  exact q.here hx
/-- t[::-1] -/
def tRevS (K : PySem.W.Frag) (te : TE) : TE := fun σ H Q => te σ H fun x H1 => ∃ a xs, x = .ref a ∧ SqT K H1 a xs ∧ NewT K H1 Q xs.reverse
theorem pe_revS {e : Expr} {te : TE} {k : Nat} {p1 p2 p3 pos : Pos} (he : PE X e te) : PE X (.Subscript e (.Slice none none (some (.UnaryOp .USub (.Constant (.int 1) k p1) p2)) p3) pos) (tRevS X.K te) :=
  pe_weak (pe_revT (pe_up he)) fun σ H Q q => ⟨_, q, fun x H1 ⟨a, xs, ex, hx, n⟩ => ⟨a, xs, ex, hx, n.al⟩⟩
/-- (a, b, ..), [a, b, ..] -/
def tTupS (K : PySem.W.Frag) (t : TA) : TE := fun σ H Q => t σ H fun xs H1 => xs.length ≤ sizeLine ∧ NewT K H1 Q xs
theorem pe_tupS {es : List Expr} {t : TA} {x1} {pos : Pos} (h : PA X es t) : PE X (.Tuple es x1 pos) (tTupS X.K t) :=
  pe_weak (pe_tup (pa_up h)) fun σ H Q q => ⟨_, q, fun x H1 ⟨z, n⟩ => ⟨z, n.al⟩⟩
def tLstS (t : TA) : TE := fun σ H Q => t σ H fun xs H1 => xs.length ≤ sizeLine ∧ NewL H1 Q xs
theorem pe_lstS {es : List Expr} {t : TA} {pos : Pos} (h : PA X es t) : PE X (.List es pos) (tLstS t) :=
  pe_weak (pe_lst (pa_up h)) fun σ H Q q => ⟨_, q, fun x H1 ⟨z, n⟩ => ⟨z, n.al⟩⟩
/-- xs + ys, xs * k of lists -/
def rCatL : R2 := fun x y H Q => ∃ l b xs zs, x = .ref l ∧ y = .ref b ∧ H l = some (.lst xs) ∧ H b = some (.lst zs) ∧ xs.length + zs.length ≤ sizeLine ∧ NewL H Q (xs ++ zs)
theorem op_catL : OpR X (binaryOp .Add) rCatL := opr_weak op_cat fun x y H Q ⟨l, b, xs, zs, h1, h2, h3, h4, h5, q⟩ => ⟨l, b, xs, zs, h1, h2, h3, h4, h5, q.al⟩
def rRepL : R2 := fun x y H Q => ∃ l k xs, x = .ref l ∧ y = .int k ∧ H l = some (.lst xs) ∧ -(2 ^ 63) ≤ k ∧ k < 2 ^ 63 ∧ xs.length * k.toNat ≤ sizeLine ∧ NewL H Q (List.replicate k.toNat xs).flatten
theorem op_repL : OpR X (binaryOp .Mult) rRepL := opr_weak op_rep fun x y H Q ⟨l, k, xs, h1, h2, h3, h4, h5, h6, q⟩ => ⟨l, k, xs, h1, h2, h3, h4, h5, h6, q.al⟩
/-- xs[i:j] of lists -/
def rSlV (K : PySem.W.Frag) : V → Option Int → Option Int → Hp → VK → Prop := fun x lo hi H Q => ∃ a xs, x = .ref a ∧ SqL K H a xs ∧ NewL H Q (cutV xs lo hi)
theorem sl_lstU : SlR X (rSlV X.K) := slr_weak sl_list fun x lo hi H Q ⟨a, xs, ex, hx, q⟩ => ⟨a, xs, ex, hx, q.al⟩
/-- tuple(xs), list(xs) -/
def rTupOf (K : PySem.W.Frag) : List V → Hp → VK → Prop := fun vs H Q => ∃ p ys, vs = [.ref p] ∧ (SqL K H p ys ∨ SqT K H p ys) ∧ NewT K H Q ys
theorem call_tupS : CallR X (.type "tuple") (rTupOf X.K) := callr_weak call_tuple_of fun vs H Q ⟨p, ys, e, h, q⟩ => ⟨p, ys, e, h.elim (fun h => .inl ⟨h, q.al⟩) (fun h => .inr ⟨h, q.here h⟩)⟩
def rLstOf (K : PySem.W.Frag) : List V → Hp → VK → Prop := fun vs H Q => ∃ p ys, vs = [.ref p] ∧ (SqL K H p ys ∨ SqT K H p ys) ∧ NewL H Q ys
theorem call_lstS : CallR X (.type "list") (rLstOf X.K) := callr_weak call_list_of fun vs H Q ⟨p, ys, e, h, q⟩ => ⟨p, ys, e, h, q.al⟩
def rDivmod (K : PySem.W.Frag) : List V → Hp → VK → Prop := fun vs H Q => ∃ i j, vs = [.int i, .int j] ∧ CDivP i j ∧ NewT K H Q [.int (i / j), .int (i % j)]
theorem call_divmodS : CallR X (.builtin "divmod") (rDivmod X.K) := callr_weak call_divmodW fun vs H Q ⟨i, j, e, c, q⟩ => ⟨i, j, e, c, q.al⟩
end
end RL
/-! S5 -/
set_option Elab.async false
set_option linter.all false
set_option maxRecDepth 100000
set_option maxHeartbeats 2000000
namespace RL
open PySem PySem.Spec PyProof.Rows L2
theorem tuple_mul0 (l : Addr) (items : Array Value) (n : Nat) (dd : Option Addr) (sl : Array (Option Value)) (x : Int) (u : Tok) (c0 : (decide (x < -(2 ^ 63)) || decide (x ≥ 2 ^ 63)) = false) (c1 : (items.isEmpty || x == 1) = false) (c2 : (decide (x ≤ 0) || items.isEmpty) = true) :
    Meets (Builtin.«tuple.__mul__» ⟨[.ref l, .int x u], []⟩) (fun _ R s => s.heap.get? l = some { cls := .type "tuple", dict := dd, data := .seq items n, slots := sl } ∧
      R (.ok (.ret (Value.ref s.heap.objs.size))) { s with heap := s.heap.push { cls := Value.type "tuple", data := Data.seq #[] }, toks := s.toks }) :=
  .of_wp fun prog w A R s h => by
    obtain ⟨hp, g, d, tk, os⟩ := s
    obtain ⟨hl, h⟩ := h
    have f1 := AutoSeq1.idx_int
    wp_walk using wpAny_loadPart' hl
    repeat (first
      | (refine wpAny_ite_false (decide_eq_false (by rw [c0]; exact Bool.false_ne_true)) ?_; wp_walk using wpAny_loadPart' hl)
      | (refine wpAny_ite_false (decide_eq_false (by rw [c1]; exact Bool.false_ne_true)) ?_; wp_walk using wpAny_loadPart' hl)
      | (refine wpAny_ite_true (decide_eq_true c2) ?_; wp_walk using wpAny_loadPart' hl))
    exact ⟨_, rfl, h⟩
theorem tuple_mul1 (l : Addr) (items : Array Value) (n : Nat) (dd : Option Addr) (sl : Array (Option Value)) (x : Int) (u : Tok) (c0 : (decide (x < -(2 ^ 63)) || decide (x ≥ 2 ^ 63)) = false) (c1 : (items.isEmpty || x == 1) = true) :
    Meets (Builtin.«tuple.__mul__» ⟨[.ref l, .int x u], []⟩) (fun _ R s => s.heap.get? l = some { cls := .type "tuple", dict := dd, data := .seq items n, slots := sl } ∧
      R (.ok (.ret (Value.ref l))) s) :=
  .of_wp fun prog w A R s h => by
    obtain ⟨hp, g, d, tk, os⟩ := s
    obtain ⟨hl, h⟩ := h
    have f1 := AutoSeq1.idx_int
    wp_walk using wpAny_loadPart' hl
    repeat (first
      | (refine wpAny_ite_false (decide_eq_false (by rw [c0]; exact Bool.false_ne_true)) ?_; wp_walk using wpAny_loadPart' hl)
      | (refine wpAny_ite_true (decide_eq_true c1) ?_; wp_walk using wpAny_loadPart' hl))
    exact ⟨_, rfl, h⟩
/-- t * k, k any number to 1000 -/
def rRepS (K : PySem.W.Frag) : R2 := fun x y H Q => ∃ l k xs, x = .ref l ∧ y = .int k ∧ SqT K H l xs ∧ -(2 ^ 62) ≤ k ∧ k ≤ 1000 ∧ xs.length ≤ 1000 ∧ NewT K H Q (List.replicate k.toNat xs).flatten
section
variable {X : Cx}
theorem op_repS : OpR X (binaryOp .Mult) (rRepS X.K) := by
  intro pins s σ H x y v u Q I rx ry h
  obtain ⟨l, k, xs, rfl, rfl, hT, h1, h2, hz, q⟩ := h
  by_cases hbig : xs ≠ [] ∧ 2 ≤ k
  · exact op_repT pins s σ H _ _ v u Q I rx ry ⟨l, k, xs, rfl, rfl, hT, hbig.1, hbig.2, h2, hz, q.al⟩
  cases rx
  obtain ⟨t, rfl⟩ := ry
  obtain ⟨its, r, ht⟩ := I.tuple hT
  obtain ⟨⟨⟨cls, dd, data, sl⟩, ho, hc, n, hd⟩, hs⟩ := id ht
  simp only at hc hd
  subst hc hd
  have hle : its.length = xs.length := r.length.symm
  have c0 : (decide (k < -(2 ^ 63)) || decide (k ≥ 2 ^ 63)) = false := by
    rw [decide_eq_false (by omega), decide_eq_false (by omega)] <;> rfl
  by_cases hone : (its.toArray.isEmpty || k == 1) = true
  · refine wpAny_binaryOp_repeat_ref (T := "tuple") (U := "int") (by decide) ⟨_, ho, rfl⟩ (fun s' => typeIs_int s' k t) noFill_tuple_mul F.fills_int_mul F.slot_int_rmul repeat_tuple F.slot_int_index.lookup
      (call_meets F.slot_int_rmul (typeIs_int s k t) F.entry_int_rmul (F.args_int_rmul_2 _ _) (int_rmul_tuple k t l its.toArray n dd sl)
        ⟨ho, rfl, ⟨_, ho, rfl⟩, call_meets F.slot_tuple_mul ⟨_, ho, rfl⟩ F.entry_tuple_mul (F.args_tuple_mul_2 _ _) (tuple_mul1 l its.toArray n dd sl k t c0 hone) ⟨ho, ?_⟩⟩)
    refine ⟨.ref l, H, I, rfl, ?_⟩
    have e : (List.replicate k.toNat xs).flatten = xs := by
      rw [Bool.or_eq_true] at hone
      rcases hone with z | z
      · have e0 : its = [] := by
          cases its with
          | nil => rfl
          | cons a b => cases z
        have e1 : xs = [] := by
          rw [e0] at hle
          exact List.eq_nil_of_length_eq_zero hle.symm
        rw [e1]
        simp
      · have e0 : k = 1 := eq_of_beq z
        rw [e0]
        simp
    rw [e] at q
    exact q.here hT
  · have hone : (its.toArray.isEmpty || k == 1) = false := Bool.eq_false_iff.mpr hone
    have hk : k ≤ 0 := by
      rw [Bool.or_eq_false_iff] at hone
      have n1 : xs ≠ [] := fun z => by
        rw [z] at hle
        have e0 : its = [] := List.eq_nil_of_length_eq_zero hle
        rw [e0] at hone
        exact absurd hone.1 (by decide)
      have n2 : k ≠ 1 := beq_eq_false_iff_ne.mp hone.2
      have n3 : ¬ 2 ≤ k := fun z => hbig ⟨n1, z⟩
      omega
    have c2 : (decide (k ≤ 0) || its.toArray.isEmpty) = true := by rw [decide_eq_true hk, Bool.true_or]
    refine wpAny_binaryOp_repeat_ref (T := "tuple") (U := "int") (by decide) ⟨_, ho, rfl⟩ (fun s' => typeIs_int s' k t) noFill_tuple_mul F.fills_int_mul F.slot_int_rmul repeat_tuple F.slot_int_index.lookup
      (call_meets F.slot_int_rmul (typeIs_int s k t) F.entry_int_rmul (F.args_int_rmul_2 _ _) (int_rmul_tuple k t l its.toArray n dd sl)
        ⟨ho, rfl, ⟨_, ho, rfl⟩, call_meets F.slot_tuple_mul ⟨_, ho, rfl⟩ F.entry_tuple_mul (F.args_tuple_mul_2 _ _) (tuple_mul0 l its.toArray n dd sl k t c0 hone c2) ⟨ho, ?_⟩⟩)
    have e : k.toNat = 0 := by omega
    rw [e] at q
    refine ⟨.ref s.heap.objs.size, _, I.laid (t' := s.toks) (o := .tup []) (fun b ob q => Heap.get?_push_of_some _ q) (Nat.le_refl _) ?_, rfl, NewT.al (xs := []) q _ (I.hok.fresh (Nat.le_refl _))⟩
    exact ⟨Nat.zero_le _, [], .nil, IsTup.new _ _⟩
end
end RL
/-! S6 -/
set_option Elab.async false
set_option linter.all false
set_option maxRecDepth 100000
set_option maxHeartbeats 4000000
namespace RL
open PySem PySem.Spec PyProof.Rows L2 PpSet
/-- a set of tuples of ints stands at D, its members' tuples are known -/
def SetTs (K : PySem.W.Frag) (P : Program) (w : World) (H : Hp) (D : Addr) (L : List (Addr × List Int)) : Prop := H D = some (SetTO P w D L) ∧ ∀ p ∈ L, SqT K H p.1 (p.2.map V.int)
section
variable {X : Cx}
theorem addT_ok {pins : List (Addr × Obj)} {σ : L2.St} {H : Hp} {s : Shared} {E : Value → Shared → Prop} {D x : Addr} {L : List (Addr × List Int)} {k : List Int} {Q : Value → Shared → Prop} (hu : X.A.units + 3 < cLine) (I : Inv X pins σ H s)
    (hD : SetTs X.K X.prog X.w H D L) (hx : SqT X.K H x (k.map V.int)) (few : L.length + 1 < 64)
    (h : ∀ s' L', Inv X pins σ (upd H D (SetTO X.prog X.w D L')) s' → (k ∈ L.map (·.2) → L' = L) → (k ∉ L.map (·.2) → L'.Perm ((x, k) :: L)) → Q .none s') :
    wpAny (model X.prog X.w) X.A (call (.builtin "set.add") [.ref D, .ref x]) Q E s := by
  have R0 : SetT0 X.prog X.w s.heap D L := (I.hok D _ hD.1).1
  obtain ⟨es, ep, t, R⟩ := R0.full fun p hp => I.isT (hD.2 p hp)
  have ix := I.isT hx
  obtain ⟨o, ho, hex, hd⟩ := R.ob
  refine wpAny_call_entry F.slot_set_add ⟨o, ho, hex.1⟩ F.entry_set_add ?_ (F.args_set_add_2 _ _)
  unfold Builtin.«set.add» Builtin.Frozenset.oneOther
  simp only [List.isEmpty_nil, bind_assoc]
  unfold Builtin.Frozenset.addrOf setAdd
  refine wpAny_bind (wpAny_pure ?_)
  try dsimp only
  refine wpAny_bind (wpAny_pure ?_)
  try dsimp only
  refine wpAny_bind (wpAny_holding (wpAny_bind (wpAny_pyHash_tuple (by show X.A.units + 1 < cLine; omega) ix ?_)))
  refine add_at (s := { s with toks := s.toks + (k.length + 1) }) R ix (by show X.A.units + 1 < cLine; omega) few fun b h' L' es' ep' t' sb R' c1 c2 => ?_
  have he : ∃ u, h'.get? D = some u := by
    obtain ⟨o', ho', _⟩ := R'.ob
    exact ⟨o', ho'⟩
  exact wpAny_pure ⟨_, rfl, h _ L' (I.write (e := D) (t' := s.toks + (k.length + 1)) (by rw [hD.1]; trivial) (.inl rfl) (fun b u hb hu => (sb.2 b hb).trans hu) he (setTO_new R'.t0)) c1 c2⟩
/-- {elt for target in iter if ..}, elt a tuple of ints: D the new set -/
def tScT (K : PySem.W.Frag) (P : Program) (w : World) (wi : TI) (g : TG) (tt : TT) (te : TE) (vs : List Nat) : TE := fun σ H Q => wi σ H fun J H1 => ∀ D, H1 D = none → ∃ W : Nat → Nat → Hp → Prop, (∃ m, W 0 m (upd H1 D (SetTO P w D []))) ∧ ∀ i m H, W i m H →
  (J.stop i H ∧ Q (.ref D) H) ∨ (J.go i H ∧ ∃ Nx : Hp → Prop, (∀ H', Nx H' → ∃ m', m' < m ∧ W (i + 1) m' H') ∧ ∀ x H', J.yld i H x H' → g x (wipe σ vs) H' fun σ2 H2 => wipe σ2 vs = wipe σ vs ∧ tt σ2 H2 fun b H3 =>
    if b = true then te σ2 H3 fun y H4 => ∃ (a : Addr) (k : List Int) (L : List (Addr × List Int)), y = .ref a ∧ SetTs K P w H4 D L ∧ SqT K H4 a (k.map V.int) ∧ L.length + 1 < 64 ∧
      ∀ L', (k ∈ L.map (·.2) → L' = L) → (k ∉ L.map (·.2) → L'.Perm ((a, k) :: L)) → Nx (upd H4 D (SetTO P w D L')) else Nx H3)
theorem pe_scT {elt tg iter : Expr} {ifs : List Expr} {scope : Scope} {own : List (PySem.Str × Nat)} {pos : Pos} {wi : TI} {g : TG} {tt : TT} {te : TE} (hc : X.calm = true) (hu : X.A.units + 3 < cLine) (hN : X.N.Nodup) (hi : PI X tg iter wi) (ok : BlkOk X.N X.env.scope scope own)
    (hg : ∀ (s : Shared) (H : Hp) (C : Addr) (cl : List (PySem.Str × Addr)) (fp : List Addr), PG (X.blk s H scope (compEnvC scope cl C X.env) fp) tg g) (ht : ∀ (s : Shared) (H : Hp) (C : Addr) (cl : List (PySem.Str × Addr)) (fp : List Addr), PTs (X.blk s H scope (compEnvC scope cl C X.env) fp) ifs tt)
    (he : ∀ (s : Shared) (H : Hp) (C : Addr) (cl : List (PySem.Str × Addr)) (fp : List Addr), PE (X.blk s H scope (compEnvC scope cl C X.env) fp) elt te) (hs : ∀ x, foldedSetIterable iter X.env x = pure x := by intro _; rfl) :
    PE X (.SetComp elt [⟨tg, iter, ifs, 0⟩] scope pos) (tScT X.K X.prog X.w wi g tt te (own.map (·.2))) := by
  refine ⟨fun pins s σ H Q I h => ?_⟩
  rw [eval_SetComp]
  have caught : ∀ y ∈ scope.names, y.2 = .free → ∃ c, X.env.cells.lookup y.1 = some c := fun y hy e => (ok.free y hy e).elim (fun k => I.ok.has _ (.inl k)) (fun k => I.ok.has _ (.inr k))
  refine wpAny_comprehension_free (use := none) rfl hs (closure_ok caught) ok.kind (fun y hy e => by rw [ok.uniq y hy, e]) (thn (hi.run pins s σ H _ I h) fun _ s1 q1 => thn q1 fun _ s2 q2 => ?_)
  obtain ⟨it, fp, tn, J, H2, rfl, I2, T, st2, f2, q⟩ := q2
  refine newSet_ok (newEnv_comp ?_)
  obtain ⟨D, hD⟩ : ∃ D, s2.heap.objs.size = D := ⟨_, rfl⟩
  obtain ⟨W, ⟨m0, w0⟩, turn⟩ := q D (I2.hok.fresh (Nat.le_of_eq hD))
  obtain ⟨o0, ho0⟩ : ∃ o0 : Obj, o0 = { cls := .type "set", dict := none, data := .set #[] 0 (.fresh 0 0 (!X.w.params.followText "set-order")) } := ⟨_, rfl⟩
  rw [hD, ← ho0]
  obtain ⟨s3, hs3⟩ : ∃ s3 : Shared, s3 = { s2 with heap := s2.heap.push o0 } := ⟨_, rfl⟩
  obtain ⟨H3, hH3⟩ : ∃ H3 : Hp, H3 = upd H2 D (SetTO X.prog X.w D []) := ⟨_, rfl⟩
  rw [← hH3] at w0
  have I3 : Inv X pins σ H3 s3 := by
    rw [hH3, hs3]
    refine I2.laid (t' := s2.toks) (fun b o e => Heap.get?_push_of_some _ e) (Nat.le_of_eq hD) (setTO_new (SetTR.t0 (setTR_fresh ?_)))
    rw [← hD, ho0]
    exact Heap.get?_push_size _ rfl
  have h3 : s3.heap = s2.heap.push o0 := by rw [hs3]
  have low : ∀ b ∈ fp, b < s2.heap.objs.size := fun b hb => let ⟨o, e, _⟩ := T.obj _ _ st2 b hb; Heap.lt_size e
  have f3 : ∀ b ∈ fp, FpOk X pins H3 b ∧ b < s3.heap.objs.size := fun b hb => by
    refine ⟨⟨?_, (f2 b hb).2⟩, by rw [h3, Heap.size_push]; exact Nat.lt_succ_of_lt (low b hb)⟩
    rw [hH3, upd_ne (fun z => Nat.lt_irrefl _ (Nat.lt_of_lt_of_eq (low b hb) (hD.trans z.symm)))]
    exact (f2 b hb).1
  have st3 : tn 0 s3.heap := T.keep _ _ _ st2 fun b _ o e => by rw [h3]; exact Heap.get?_push_of_some _ e
  have I4 := block_start I3 ok hN f3
  obtain ⟨ce, hce⟩ : ∃ ce, ce = compEnvC scope (cellsFrom (s3.heap.objs.size + 1) scope.names (cloFrom X.env.cells scope.names [])) s3.heap.objs.size X.env := ⟨_, rfl⟩
  rw [← hce] at I4
  have pg : PG (X.blk s3 H3 scope ce fp) tg g := by rw [hce]; exact hg _ _ _ _ _
  have pt : PTs (X.blk s3 H3 scope ce fp) ifs tt := by rw [hce]; exact ht _ _ _ _ _
  have pe : PE (X.blk s3 H3 scope ce fp) elt te := by rw [hce]; exact he _ _ _ _ _
  have cL : ce.locals = s3.heap.objs.size := by rw [hce] <;> rfl
  obtain ⟨s4, hs4⟩ : ∃ s4 : Shared, s4 = { s3 with heap := pushCells (s3.heap.push { cls := .type "dict", data := .dict #[] }) scope.names } := ⟨_, rfl⟩
  rw [← hs4] at I4
  have goal_eq : codeAny (model X.prog X.w) X.A (.compStart (.SetComp elt [⟨tg, iter, ifs, 0⟩] scope pos) 0 (.ref it) (.ref D) ce) (compPost (model X.prog X.w) X.A X.xe none (EP X pins σ Q) (.ref D) s3.heap.objs.size) s4 := ?_
  · rw [hce, hs4, hs3] at goal_eq
    exact goal_eq
  have st4 : tn 0 s4.heap := T.keep _ _ _ st3 fun b _ o e => by rw [hs4]; exact pushCells_keeps _ _ _ _ (Heap.get?_push_of_some _ e)
  have foot : ∀ {σ' : L2.St} {H' : Hp} {s' : Shared}, Inv (X.blk s3 H3 scope ce fp) [] σ' H' s' → (∀ b ∈ fp, H' b = none) → ∀ b ∈ fp, FpOk (X.blk s3 H3 scope ce fp) [] H' b := fun {σ' H' s'} I' hn b hb =>
    ⟨hn b hb, (I'.ok.exf b hb).1, I'.ok.exfs b hb, .inl hb, fun x c e => (I'.ok.exf b hb).2 x c e, fun p hp => absurd (show p ∈ ([] : List (Addr × Obj)) ++ [] from hp) (by simp)⟩
  have loop : codeAny (model X.prog X.w) X.A (.compLoop (.SetComp elt [⟨tg, iter, ifs, 0⟩] scope pos) 0 (.ref it) (.ref D) ce) (compPost (model X.prog X.w) X.A X.xe none (EP X pins σ Q) (.ref D) s3.heap.objs.size) s4 := by
    refine compLoopS_any (fun n s' => ∃ i H', Inv (X.blk s3 H3 scope ce fp) [] (wipe σ (own.map (·.2))) H' s' ∧ tn i s'.heap ∧ (∀ b ∈ fp, H' b = none) ∧ W i n H') (fun n s5 j5 => ?_) m0 ⟨0, H3, I4, st4, fun b hb => (f3 b hb).1.1, w0⟩
    obtain ⟨i, H5, I5, st5, n5, w5⟩ := j5
    rcases turn i n H5 w5 with ⟨stop, qq⟩ | ⟨go, Nx, hNx, step⟩
    · refine thnF (T.done (X.blk s3 H3 scope ce fp) rfl rfl rfl hc i [] s5 _ H5 (fun _ _ => False) I5 (foot I5 n5) st5 stop) fun r s6 ⟨hr, I6⟩ => ?_
      subst hr
      have I7 : Inv X pins σ H5 s6 := I3.call' (ch := fp) I6.os I6.base I6.hok I6.bare fun b hb => ⟨(f3 b hb).1.2.2.2.1, (f3 b hb).1.2.1, (f3 b hb).1.2.2.2.2.1, (f3 b hb).1.2.2.2.2.2⟩
      have nC : H5 s3.heap.objs.size = none := cL ▸ I6.free
      obtain ⟨m, hn, _⟩ := I6.loc
      have hn : s6.heap.Ns s3.heap.objs.size m := cL ▸ hn
      refine ⟨m, hn, fun h'' sb => ?_⟩
      obtain ⟨a0, a1, a2, a3, a4, a5⟩ := I3.fpOk (Nat.le_refl _) nC
      exact ⟨.ref D, H5, I7.turned (t' := s6.toks) (fun b o hb e => (sb.2 b hb).trans e) a0 a1 a3 a4 a5, rfl, qq⟩
    · refine thnF (T.item (X.blk s3 H3 scope ce fp) rfl rfl rfl hc i [] s5 _ H5 (fun _ _ => False) I5 (foot I5 n5) st5 go) fun r s6 ⟨u, hr, h6⟩ => ?_
      subst hr
      refine thnF h6 fun _ s7 ⟨x, H7, I7, r7, y7, st7, n7⟩ => ?_
      refine thnF (pg.run _ s7 _ H7 x u _ (I7.pinned (foot I7 n7) (T.obj _ _ st7)) r7 (step x H7 y7)) fun _ s8 ⟨σ8, H8, I8, hw8, q8⟩ => ?_
      refine thnF (pt.run _ s8 σ8 H8 _ I8 q8) fun b s9 ⟨H9, I9, q9⟩ => ?_
      have fin : ∀ {s' : Shared} {H' : Hp}, Inv (X.blk s3 H3 scope ce fp) ([] ++ pinsAt fp s7.heap) σ8 H' s' → Nx H' → ∃ m, m < n ∧ ∃ i H', Inv (X.blk s3 H3 scope ce fp) [] (wipe σ (own.map (·.2))) H' s' ∧ tn i s'.heap ∧ (∀ b ∈ fp, H' b = none) ∧ W i m H' := fun {s' H'} I' nx => by
        obtain ⟨m', hm, w'⟩ := hNx H' nx
        have pin' : ∀ b ∈ fp, ∀ o, s7.heap.get? b = some o → s'.heap.get? b = some o ∧ H' b = none := fun b hb o e =>
          let z := I'.pin (b, o) (List.mem_append_right _ (List.mem_append_right _ (mem_pinsAt hb e)))
          ⟨z.1, z.2.1⟩
        refine ⟨m', hm, i + 1, H', (I'.unpinned (pins := [])).weak (by rw [← hw8, wipe_length]) (fun j v e => (wipe_some (by rw [hw8]; exact e)).1), T.keep _ _ _ st7 fun b hb o e => (pin' b hb o e).1, fun b hb => ?_, w'⟩
        obtain ⟨o, e, _⟩ := T.obj _ _ st7 b hb
        exact (pin' b hb o e).2
      cases b with
      | false =>
        simp only [Bool.false_eq_true, if_false] at q9 ⊢
        exact fin I9 q9
      | true =>
        simp only [if_true] at q9 ⊢
        refine thnF (pe.run _ s9 σ8 H9 _ I9 q9) fun z s10 ⟨yv, H10, I10, r10, a, k, L, ey, hD10, hk10, few, nx⟩ => ?_
        subst ey
        cases (show z = Value.ref a from r10)
        exact addT_ok (X := X.blk s3 H3 scope ce fp) hu I10 hD10 hk10 few fun s11 L' I11 c1 c2 => fin I11 (nx L' c1 c2)
  exact codeAny_compStart_set loop (T.self X.A 0 _ _ _ st4 loop)
end
end RL
/-! S7 -/
set_option Elab.async false
set_option linter.all false
set_option maxRecDepth 100000
set_option maxHeartbeats 4000000
namespace RS
open PySem PySem.Spec PyProof.Rows PySem.W PySem.SeqAt
section
variable {prog : Program} {w : World} {A : Around} {E : Value → Shared → Prop} {s : Shared}
/-- the call of tuple's own __lt__, as sorting makes it -/
theorem call_tuple_lt {Q : Value → Shared → Prop} {l b : Addr} {items items2 : Array Value} {e r : Nat → Bool} (hl : s.heap.IsTuple l items) (hb : s.heap.IsTuple b items2)
    (he : ∀ j (h1 : j < items.size) (h2 : j < items2.size), EqAt A.in1 s items[j] items2[j] (e j)) (hr : ∀ j (h1 : j < items.size) (h2 : j < items2.size), e j = false → RcLt A.in1 s items[j] items2[j] (r j))
    (h : Q (.bool (firstLt e r (decide (items.size < items2.size)) (List.range (min items.size items2.size)))) s) : wpAny (model prog w) A (call (.builtin "tuple.__lt__") [.ref l, .ref b]) Q E s := by
  obtain ⟨⟨cls, dd, data, sl⟩, ho, hc, n, hd⟩ := id hl
  obtain ⟨⟨cls2, dd2, data2, sl2⟩, ho2, hc2, n2, hd2⟩ := id hb
  simp only at hc hd hc2 hd2
  subst hc hd hc2 hd2
  exact call_meets F.slot_tuple_lt ⟨_, ho, rfl⟩ F.entry_tuple_lt (F.args_tuple_lt_2 _ _) (tuple_ltAt l b items items2 n n2 dd dd2 sl sl2 e r) ⟨ho, ho2, he, hr, h⟩
theorem oneLt_tups {f : Bool} {xs ys : List PyData} {a b : Value} {as bs : List Addr} {Q : Bool → Shared → Prop} (ra : Reads s.heap a (.tuple xs) as) (rb : Reads s.heap b (.tuple ys) bs) (h : alike (.tuple xs) (.tuple ys) = true)
    (hu : A.units + min (PyData.tuple xs).depth (PyData.tuple ys).depth < cLine) (hq : Q (dataLt (.tuple xs) (.tuple ys)) s) : wpAny (model prog w) A (oneLt' f a b) Q E s := by
  cases f with
  | false => exact oneLt_alike (fun z => nomatch z) ra rb h (fun z => nomatch z) hu hq
  | true =>
    have hal : alikeAll xs ys = true := by simpa [alike] using h
    cases ra with
    | @tuple l o vs n _ as₁ h1 h2 h3 h4 =>
      cases rb with
      | @tuple l' o' vs' n' _ bs₁ k1 k2 k3 k4 =>
        have n1 : vs.size = xs.length := by simpa using ReadsAll.length _ _ _ h4
        have n2 : vs'.size = ys.length := by simpa using ReadsAll.length _ _ _ k4
        rw [dataLt_tuple, ← firstLt_toks xs ys hal, ← n1, ← n2] at hq
        rw [oneLt'_eq]
        simp only [if_true]
        refine wpAny_bind (wpAny_cRoomFor (room_here hu) ?_)
        refine wpAny_bind (wpAny_callSpecialIfBound?_slot (T := "tuple") ⟨_, h1, h2⟩ F.slot_tuple_lt (call_tuple_lt (e := pairEq xs ys) (r := fun j => dataLt (xs.getD j .none) (ys.getD j .none)) ⟨_, h1, h2, _, h3⟩ ⟨_, k1, k2, _, k3⟩ (fun j j1 j2 => ?_) (fun j j1 j2 hj => ?_) (wpAny_truthy_bool hq)))
        · have := eqAt_alikeAll xs ys A.in1 s vs.toList vs'.toList _ _ h4 k4 hal (room_in hu) j (by simpa using j1) (by simpa using j2)
          simpa using this
        · have := rcLt_alikeAll xs ys A.in1 s vs.toList vs'.toList _ _ h4 k4 hal (room_in hu) j (by simpa using j1) (by simpa using j2) hj
          simpa using this
theorem each_right {α β : Type} {R : α → β → Prop} : ∀ {as : List α} {bs : List β}, EachIs R as bs → ∀ b ∈ bs, ∃ a ∈ as, R a b
  | _, _, .nil, b, hb => by cases hb
  | _, _, .cons r t, b, hb => by
    rcases List.mem_cons.mp hb with z | z
    · subst z; exact ⟨_, List.mem_cons_self, r⟩
    · obtain ⟨a, ha, q⟩ := each_right t b z
      exact ⟨a, List.mem_cons_of_mem _ ha, q⟩
theorem firsts_any : ∀ (vs : List Value) (f : Value → Option Value) {Q : List (Option Value) → Shared → Prop}, (∀ v ∈ vs, ∃ a o xs n, v = .ref a ∧ s.heap.get? a = some o ∧ o.cls = .type "tuple" ∧ o.data = .seq xs n ∧ xs[0]? = f v) →
    Q (vs.map f) s → wpAny (model prog w) A (vs.mapM firstOfTuple') Q E s
  | [], f, Q, _, h => by rw [List.mapM_nil]; exact wpAny_pure h
  | v :: vs, f, Q, t, h => by
    obtain ⟨a, o, xs, n, rfl, ho, hc, hd, hf⟩ := t v List.mem_cons_self
    rw [List.mapM_cons]
    refine wpAny_bind ?_
    rw [kas_first_eq]
    refine wpAny_bind (Looks.here (show Looks _ s.heap (typeOf (.ref a)) o.cls from (Looks.ld ho).andThen .now) ?_)
    rw [hc, if_neg (by first | decide | simp)]
    refine wpAny_bind (listItems_at ho hd (wpAny_pure ?_))
    rw [hf]
    exact wpAny_bind (firsts_any vs f (Q := fun bs s' => wpAny (model prog w) A (pure (f (.ref a) :: bs)) Q E s') (fun v hv => t v (List.mem_cons_of_mem _ hv)) (wpAny_pure h))
/-- tuples that read as alike data, some of them perhaps empty, can be sorted -/
theorem sortsAt_tups {vs : List Value} {ds : List PyData} (e : EachIs (fun v d => ∃ as, Reads s.heap v d as) vs ds) (hal : AllAlike ds) (ht : ∀ d ∈ ds, ∃ xs, d = .tuple xs) (hu : ∀ d, d ∈ ds → A.units + d.depth < cLine) : SortsAt prog w A s (dataKind s.heap ds) vs := by
  by_cases hne : ∀ d ∈ ds, ∃ x r, d = .tuple (x :: r)
  · exact SortsAt.data e hal (.inl hne) hu
  have room : ∀ {d d' : PyData}, d ∈ ds → A.units + min d.depth d'.depth < cLine := fun {d d'} hd => Nat.lt_of_le_of_lt (Nat.add_le_add_left (Nat.min_le_left _ _) _) (hu d hd)
  have lt : ∀ (kd : SortKind), (∃ f, ∀ x y, keyLt' kd x y = oneLt' f x y) → H.LtAt prog w A s (dataKind s.heap ds) kd := fun kd ⟨f, hf⟩ => by
    intro E x y a b Q ha hb hq
    obtain ⟨d, as, hd, ra, rfl⟩ := dataKind_inv ha
    obtain ⟨d', as', hd', rb, rfl⟩ := dataKind_inv hb
    rw [hf]
    obtain ⟨xs, rfl⟩ := ht d hd
    obtain ⟨ys, rfl⟩ := ht d' hd'
    exact oneLt_tups ra rb (hal _ hd _ hd') (room hd) hq
  have first : ∃ f : Value → Option Value, ∀ v ∈ vs, ∃ a o xs n, v = .ref a ∧ s.heap.get? a = some o ∧ o.cls = .type "tuple" ∧ o.data = .seq xs n ∧ xs[0]? = f v := by
    refine ⟨fun v => match v with | .ref a => (match s.heap.get? a with | some o => (match o.data with | .seq xs _ => xs[0]? | _ => none) | none => none) | _ => none, fun v hv => ?_⟩
    obtain ⟨d, hd, as, r⟩ := e.left v hv
    obtain ⟨xs, rfl⟩ := ht d hd
    cases r with
    | @tuple l o ws n _ _ h1 h2 h3 h4 => exact ⟨l, o, ws, n, rfl, h1, h2, h3, by simp only [h1, h3]⟩
  obtain ⟨f, hf⟩ := first
  -- not all have a first item
  have hno : ((vs.map f).toArray.all fun x => x.isSome) = false := by
    cases hc : ((vs.map f).toArray.all fun x => x.isSome) with
    | false => rfl
    | true =>
      refine absurd (fun d hd => ?_) hne
      obtain ⟨v, hv, as, r⟩ := each_right e d hd
      obtain ⟨a, o, ws, n, ev, ho, _, hdt, hw⟩ := hf v hv
      obtain ⟨xs, rfl⟩ := ht d hd
      cases r with
      | @tuple l o' ws' n' _ _ h1 h2 h3 h4 =>
        cases ev
        rw [h1] at ho
        cases ho
        rw [h3] at hdt
        cases hdt
        have hs : (f (.ref a)).isSome = true := by
          simp only [List.all_toArray, List.all_map, List.all_eq_true, Function.comp] at hc
          exact hc _ hv
        rw [← hw] at hs
        have n1 : ws.size = xs.length := by simpa using ReadsAll.length _ _ _ h4
        cases xs with
        | cons x r => exact ⟨x, r, rfl⟩
        | nil =>
          have z : ws.size = 0 := n1
          rw [Array.getElem?_eq_none (by omega)] at hs
          exact absurd hs (by decide)
  refine ⟨fun v hv => ?_, ?_⟩
  · obtain ⟨d, hd, as, r⟩ := e.left v hv
    exact ⟨_, dataKind_some hal hd r⟩
  · have hT : ∀ v ∈ vs, Looks (model prog w) s.heap (typeOf v) (Value.type "tuple") := fun v hv => by
      obtain ⟨a, o, ws, n, ev, ho, hc, _, _⟩ := hf v hv
      subst ev
      rw [← hc]
      exact (Looks.ld ho).andThen .now
    by_cases h1 : ((vs.map f).toArray[0]?.bind id).isSome = true
    · refine ⟨general', lt _ ⟨false, fun _ _ => rfl⟩, fun h2 E Q hq => ?_⟩
      rw [kat_kind_eq, List.mapM_toArray, map_eq_pure_bind]
      refine wpAny_bind (wpAny_bind (firsts_any vs f hf (wpAny_pure ?_)))
      rw [if_neg (by rw [hno]; decide), if_pos h1]
      exact wpAny_pure hq
    · refine ⟨oneType', lt _ ⟨true, fun _ _ => keyLt'_oneType _ _⟩, fun h2 E Q hq => ?_⟩
      rw [kat_kind_eq, List.mapM_toArray, map_eq_pure_bind]
      refine wpAny_bind (wpAny_bind (firsts_any vs f hf (wpAny_pure ?_)))
      rw [if_neg (by rw [hno]; decide), if_neg h1, oneTypeOnly'_eq, List.mapM_toArray, map_eq_pure_bind]
      refine wpAny_bind (wpAny_bind (wpAny_bind (kas_mapM (r := Value.type "tuple") _ (fun v hv Q' hq => (hT v hv).here hq) (wpAny_pure ?_))))
      have hall : ((List.map (fun _ => Value.type "tuple") vs).toArray.all fun x => x == Value.type "tuple") = true := by
        simp only [List.all_toArray, List.all_map, List.all_eq_true]
        intro _ _
        exact beq_self_eq_true _
      have h0 : (List.map (fun _ => Value.type "tuple") vs).toArray[0]? = some (Value.type "tuple") := by
        match vs, h2 with
        | v :: _, _ => simp
      rw [h0]
      simp only [hall, if_true]
      exact wpAny_pure (wpAny_pure hq)
end
end RS
/-! S8 -/
set_option Elab.async false
set_option linter.all false
set_option maxRecDepth 100000
set_option maxHeartbeats 4000000
namespace RS
open PySem PySem.Spec PyProof.Rows PySem.W PySem.SeqAt
section
variable {prog : Program} {w : World} {A : Around} {E : Value → Shared → Prop} {s : Shared} {β : Type} {R : Value → β → Prop} {enc : β → PyData} {vs : List Value} {bs : List β}
/-- what may be sorted: as the library says, or tuples of which some may be empty -/
def SortableT (ds : List PyData) : Prop := Sortable ds ∨ ∀ d ∈ ds, ∃ xs, d = .tuple xs
theorem sortsAt_any {ds : List PyData} (e : EachIs (fun v d => ∃ as, Reads s.heap v d as) vs ds) (hal : AllAlike ds) (hk : SortableT ds) (hu : ∀ d, d ∈ ds → A.units + d.depth < cLine) : SortsAt prog w A s (dataKind s.heap ds) vs :=
  hk.elim (fun h => SortsAt.data e hal h hu) fun h => sortsAt_tups e hal h hu
theorem sorted_any {l : Addr} {Q : Value → Shared → Prop} (hl : s.heap.IsList l vs.toArray) (e : EachIs R vs bs) (er : EachIs (fun v b => ∃ as, Reads s.heap v (enc b) as) vs bs) (hal : AllAlike (bs.map enc)) (hk : SortableT (bs.map enc)) (hL : bs.length ≤ sizeLine)
    (hu : ∀ b, b ∈ bs → A.units + 2 + (enc b).depth < cLine) (h : ∀ out, out.length = bs.length → EachIs R out (bs.mergeSort (dataLe false enc)) → Q (.ref (s.heap.objs.size + 1)) { s with heap := sortedAll s.heap vs (List.toArray out) }) :
    wpAny (model prog w) A (call (.builtin "sorted") [.ref l]) Q E s := by
  have er' : EachIs (fun v b => ∃ as, Reads (sortingHeap (copyHeap s.heap vs) (s.heap.objs.size + 1) vs) v (enc b) as) vs bs := er.mono fun _ _ ⟨as, r⟩ => ⟨as, PyProof.Rows.Reads.keeps (fun _ _ => sorting_copy_old) r⟩
  refine sorted_vals hl (sortsAt_any (s := { s with heap := sortingHeap (copyHeap s.heap vs) (s.heap.objs.size + 1) vs }) (each_map (R := fun v d => ∃ as, Reads (sortingHeap (copyHeap s.heap vs) (s.heap.objs.size + 1) vs) v d as) enc er') hal hk (bound_map hu)) (by rw [e.length]; exact hL) ?_
  exact h _ (by rw [sortVals_length false rfl]; exact e.length) (sortVals_data false e er' hal)
end
end RS
namespace RL
open PySem PySem.Spec PyProof.Rows L2 PpSet
open PySem.W (AllAlike EachIs dataLe)
/-- values, each beside the datum that it reads as -/
abbrev VD := V × PyData
section
variable {X : Cx}
theorem each_of_vals : ∀ {zs : List VD} {us : List Value}, Vals (zs.map (·.1)) us → EachIs (fun v (z : VD) => RelV z.1 v) us zs
  | [], _, .nil => .nil
  | z :: zs, _, .cons r t => .cons r (each_of_vals t)
theorem vals_of_each : ∀ {zs : List VD} {us : List Value}, EachIs (fun v (z : VD) => RelV z.1 v) us zs → Vals (zs.map (·.1)) us
  | _, _, .nil => .nil
  | _, _, .cons r t => .cons r (vals_of_each t)
theorem each_reads {pins : List (Addr × Obj)} {σ : L2.St} {H : Hp} {s : Shared} (I : Inv X pins σ H s) : ∀ {zs : List VD} {us : List Value}, (∀ z ∈ zs, Dp X.K H z.1 z.2) → EachIs (fun v (z : VD) => RelV z.1 v) us zs → EachIs (fun v (z : VD) => ∃ as, Reads s.heap v z.2 as) us zs
  | _, _, _, .nil => .nil
  | _, _, h, .cons r t => .cons (Dp.reads I _ _ _ (h _ List.mem_cons_self) r) (each_reads I (fun z hz => h z (List.mem_cons_of_mem _ hz)) t)
/-- sorted(xs), xs a list of alike data -/
def rSortedD (K : PySem.W.Frag) : List V → Hp → VK → Prop := fun vs H Q => ∃ (a : Addr) (zs : List VD), vs = [V.ref a] ∧ SqL K H a (zs.map (·.1)) ∧ (∀ z ∈ zs, Dp K H z.1 z.2) ∧ AllAlike (zs.map (·.2)) ∧ RS.SortableT (zs.map (·.2)) ∧ (∀ z ∈ zs, z.2.depth ≤ 40) ∧
  NewL H Q ((zs.mergeSort (dataLe false (·.2))).map (·.1))
theorem cr_sortedD (hu : X.A.units + 64 < cLine) : CallR X (.builtin "sorted") (rSortedD X.K) := by
  intro pins s σ H vs us Q I r h
  obtain ⟨a, zs, rfl, hs, hx, hal, hk, hd, q⟩ := h
  obtain ⟨its, rv, hl, hz⟩ := I.list hs
  rw [Vals.ref1 r]
  have e := each_of_vals rv
  have hlen : zs.length ≤ sizeLine := by rw [List.length_map] at hz; exact hz
  refine RS.sorted_any (enc := fun z : VD => z.2) hl.isList e (each_reads I hx e) hal hk hlen (fun z hz => ?_) fun out h1 h2 => ?_
  · have := hd z hz
    omega
  · have fresh : H (s.heap.objs.size + 1) = none := I.hok.fresh (Nat.le_succ _)
    obtain ⟨n, hn⟩ := sortedAll_at s.heap its out.toArray
    refine ⟨.ref (s.heap.objs.size + 1), _, I.laid (t' := s.toks) (o := .lst ((zs.mergeSort (dataLe false (·.2))).map (·.1))) (fun b o q => sortedAll_old q) (Nat.le_succ _) ⟨?_, out, n, vals_of_each h2, hn⟩, rfl, NewL.al q _ fresh⟩
    rw [List.length_map, List.length_mergeSort]
    exact hlen
/-- the datum of a row of ints -/
abbrev dTup (k : List Int) : PyData := .tuple (k.map .int)
theorem depth_tup (k : List Int) : (dTup k).depth ≤ 1 := by
  show PyData.depth (.tuple (k.map .int)) ≤ 1
  simp only [PyData.depth, PySem.W.depth_ints]
  omega
theorem alike_tup (k l : List Int) : PySem.W.alike (dTup k) (dTup l) = true := by
  show PySem.W.alike (.tuple (k.map .int)) (.tuple (l.map .int)) = true
  simp only [PySem.W.alike]
  exact PySem.W.alike_ints k l
end
end RL
/-! S9 -/
set_option Elab.async false
set_option linter.all false
set_option maxRecDepth 100000
set_option maxHeartbeats 4000000
namespace RL
open PySem PySem.Spec PyProof.Rows L2 PpSet
open PySem.W (AllAlike EachIs dataLe)
section
variable {P : Program} {w : World} {A : Around} {E : Value → Shared → Prop} {s : Shared}
theorem reads_isT {h : Heap} {k : List Int} {a : Addr} (x : TS.TupInts h (.ref a) k) : ∃ as, Reads h (.ref a) (dTup k) as := by
  obtain ⟨b, xs, e, ⟨o, ho, hc, n, hd⟩, hi⟩ := x
  cases e
  have all : ∀ {us : List Value} {ns : List Int}, IntsAre us ns → ∃ as, ReadsAll h us (ns.map .int) as := by
    intro us ns q
    induction q with
    | nil => exact ⟨_, .nil⟩
    | cons n t _ ih =>
      obtain ⟨as, r⟩ := ih
      exact ⟨_, .cons (Reads.int n t) r⟩
  obtain ⟨as, r⟩ := all hi
  exact ⟨_, Reads.tuple ho hc hd r⟩
theorem sorted_setU {a : Addr} {L : List (Addr × List Int)} {es : Array (Int × Value)} {ep : Nat} {t : SetTable} {Q : Value → Shared → Prop} (R : SetTR P w s.heap a L es ep t) (hh : A.handled = none) (hu : A.units + 8 < cLine)
    (hQ : ∀ s' p (out : List Value) (c : Nat) (L1 : List (Addr × List Int)), (∀ b o, s.heap.get? b = some o → s'.heap.get? b = some o) → s'.gens = s.gens → s'.os = s.os → s.heap.objs.size ≤ p →
      s'.heap.get? p = some (seqObj "list" out.toArray c) → L1.Perm L → out = (L1.mergeSort (dataLe false fun q => dTup q.2)).map (fun q => Value.ref q.1) → Q (.ref p) s') :
    wpAny (model P w) A (call (.builtin "sorted") [.ref a]) Q E s := by
  obtain ⟨o, ho, hex, hd⟩ := R.ob
  have hsz := R.size
  have hfew := R.few
  refine Calls.call_function_entry kind_sorted plain_sorted entry_sorted (args_sorted1 _) ?_
  unfold Builtin.«sorted»
  refine wpAny_bind (m := checkCount "sorted" 1 1 _) (wpAny_pure ?_)
  refine wpAny_bind (collect_set (A := A.in1) hh ⟨o, ho, hex.1, hd⟩ R.fits (by unfold scanBound; omega) R.tab.ris R.led fun s1 vs k1 hz g1 o1 pm => ?_)
  have hes : es.toList.map (·.2) = L.map fun q => Value.ref q.1 := by
    rw [R.rows]
    unfold rowsOf
    rw [List.map_map] <;> rfl
  rw [hes] at pm
  -- some arrangement of the rows
  have arr : ∀ (vs : List Value) (L : List (Addr × List Int)), vs.Perm (L.map fun q => Value.ref q.1) → ∃ L1 : List (Addr × List Int), L1.Perm L ∧ vs = L1.map fun q => Value.ref q.1 := by
    intro vs
    induction vs with
    | nil =>
      intro L p
      have e : L = [] := by
        have q := p.length_eq
        rw [List.length_map] at q
        exact List.eq_nil_of_length_eq_zero q.symm
      exact ⟨[], by rw [e], rfl⟩
    | cons v vs ih =>
      intro L p
      obtain ⟨q, hq, e⟩ := List.mem_map.mp (p.mem_iff.mp (List.mem_cons_self))
      obtain ⟨l1, l2, rfl⟩ := List.append_of_mem hq
      have p2 : vs.Perm ((l1 ++ l2).map fun q => Value.ref q.1) := by
        have z : (v :: vs).Perm (v :: ((l1 ++ l2).map fun q => Value.ref q.1)) := by
          refine p.trans ?_
          rw [← e, List.map_append, List.map_append, List.map_cons]
          exact List.perm_middle
        exact z.cons_inv
      obtain ⟨L1, pL, e1⟩ := ih _ p2
      exact ⟨q :: L1, (pL.cons q).trans List.perm_middle.symm, by rw [List.map_cons, e, e1]⟩
  obtain ⟨L1, pL, rfl⟩ := arr vs L pm
  have hlen : (L1.map fun q => Value.ref q.1).length ≤ sizeLine := by rw [List.length_map, pL.length_eq, sizeLine_eq]; omega
  refine wpAny_bind (wpAny_newList ?_ (by exact hlen))
  have hoL : (s1.heap.push (seqObj "list" (L1.map fun q => Value.ref q.1).toArray 0)).get? s1.heap.objs.size = some (seqObj "list" (L1.map fun q => Value.ref q.1).toArray 0) := Heap.get?_push_size _ rfl
  generalize hh1 : s1.heap.push (seqObj "list" (L1.map fun q => Value.ref q.1).toArray 0) = h1 at hoL ⊢
  have old1 : ∀ b o, s.heap.get? b = some o → h1.get? b = some o := fun b o e => by rw [← hh1]; exact Heap.get?_push_of_some _ (k1 b o e)
  have ne : ∀ b o, s.heap.get? b = some o → b ≠ s1.heap.objs.size := fun b o e => Nat.ne_of_lt (Heap.lt_size (k1 b o e))
  have rd : ∀ q ∈ L1, ∃ as, Reads (PySem.W.sortingHeap h1 s1.heap.objs.size (L1.map fun q => Value.ref q.1)) (.ref q.1) (dTup q.2) as := fun q hq => by
    have x : IsT P w s.heap q.2 q.1 := R.tup q (pL.mem_iff.mp hq)
    exact reads_isT (tupInts_of (P := P) (w := w) (isT_keep x fun b o e => PySem.W.sortingHeap_old (ne b o e) (old1 b o e)))
  have eR : ∀ l : List (Addr × List Int), EachIs (fun v (q : Addr × List Int) => v = Value.ref q.1) (l.map fun q => Value.ref q.1) l := by
    intro l
    induction l with
    | nil => exact .nil
    | cons q l ih => exact .cons rfl ih
  have er : ∀ l : List (Addr × List Int), (∀ q ∈ l, q ∈ L1) → EachIs (fun v (q : Addr × List Int) => ∃ as, Reads (PySem.W.sortingHeap h1 s1.heap.objs.size (L1.map fun q => Value.ref q.1)) v (dTup q.2) as) (l.map fun q => Value.ref q.1) l := by
    intro l
    induction l with
    | nil => intro _; exact .nil
    | cons q l ih => intro h; exact .cons (rd q (h q List.mem_cons_self)) (ih fun r hr => h r (List.mem_cons_of_mem _ hr))
  have er1 := er L1 fun _ h => h
  have hal : AllAlike (L1.map fun q => dTup q.2) := PySem.W.AllAlike.of fun b b' => alike_tup _ _
  have hS := RS.sortsAt_any (prog := P) (w := w) (A := A.in1.in1) (s := { s1 with heap := PySem.W.sortingHeap h1 s1.heap.objs.size (L1.map fun q => Value.ref q.1) }) (PySem.W.each_map (R := fun v d => ∃ as, Reads (PySem.W.sortingHeap h1 s1.heap.objs.size (L1.map fun q => Value.ref q.1)) v d as) (fun q : Addr × List Int => dTup q.2) er1) hal (.inr fun d hd => by
      obtain ⟨q, _, e⟩ := List.mem_map.mp hd
      exact ⟨_, e.symm⟩) (fun d hd => by
      obtain ⟨q, _, e⟩ := List.mem_map.mp hd
      have := depth_tup q.2
      rw [← e]
      show A.units + 1 + 1 + (dTup q.2).depth < cLine
      omega)
  have outs := PySem.W.sortVals_data (R := fun v (q : Addr × List Int) => v = Value.ref q.1) (enc := fun q : Addr × List Int => dTup q.2) false (eR L1) er1 hal
  have outE : ∀ (vs : List Value) (l : List (Addr × List Int)), EachIs (fun v (q : Addr × List Int) => v = Value.ref q.1) vs l → vs = l.map fun q => Value.ref q.1 := by
    intro vs l e
    induction e with
    | nil => rfl
    | cons r _ ih => rw [List.map_cons, r, ih]
  have outs' := outE _ _ outs
  refine wpAny_bind (wpAny_holding (wpAny_call_entry slot_list_sort ⟨_, hoL, rfl⟩ entry_list_sort ?_ (args_list_sort _)))
  refine PySem.W.list_sort_vals (s := { s1 with heap := h1 }) hoL hS hlen ⟨_, rfl, wpAny_pure ⟨_, rfl, ?_⟩⟩
  obtain ⟨c, hc⟩ := sortedHeap_at (vs := L1.map fun q => Value.ref q.1) (out := (PySem.W.sortVals (PySem.W.dataKind (PySem.W.sortingHeap h1 s1.heap.objs.size (L1.map fun q => Value.ref q.1)) (L1.map fun q => dTup q.2)) false (L1.map fun q => Value.ref q.1) (L1.map fun q => Value.ref q.1)).toArray) hoL
  refine hQ _ s1.heap.objs.size _ c L1 (fun b u e => ?_) g1 o1 hz hc pL outs'
  show (sortedHeap h1 s1.heap.objs.size _ _).get? b = some u
  rw [sortedHeap_old (ne b u e) (Heap.lt_size (old1 b u e))]
  exact old1 b u e
end
end RL
/-! S10 -/
set_option Elab.async false
set_option linter.all false
set_option maxRecDepth 100000
set_option maxHeartbeats 4000000
namespace RL
open PySem PySem.Spec PyProof.Rows L2 PpSet
open PySem.W (AllAlike EachIs dataLe)
section
variable {X : Cx}
/-- sorted(a set of tuples of ints) -/
def rSortedU (K : PySem.W.Frag) (P : Program) (w : World) : List V → Hp → VK → Prop := fun vs H Q => ∃ (a : Addr) (L : List (Addr × List Int)), vs = [V.ref a] ∧ SetTs K P w H a L ∧
  ∀ L1 : List (Addr × List Int), L1.Perm L → (L1.map (·.2)).Nodup → NewL H Q ((L1.mergeSort (dataLe false fun q => dTup q.2)).map fun q => V.ref q.1)
theorem cr_sortedU (hc : X.calm = true) (hu : X.A.units + 8 < cLine) : CallR X (.builtin "sorted") (rSortedU X.K X.prog X.w) := by
  intro pins s σ H vs us Q I r h
  obtain ⟨a, L, rfl, ⟨ha, hk⟩, q⟩ := h
  have R0 : SetT0 X.prog X.w s.heap a L := (I.hok a _ ha).1
  obtain ⟨es, ep, t, R⟩ := R0.full fun p hp => I.isT (hk p hp)
  rw [Vals.ref1 r]
  refine sorted_setU R (I.ok.hd hc) hu fun s' p out c L1 k g o hp hg pm hout => ?_
  have hnd : (L1.map (·.2)).Nodup := (pm.map (·.2)).nodup_iff.mpr R.nd
  have hlen : ((L1.mergeSort (dataLe false fun q => dTup q.2)).map fun q => V.ref q.1).length ≤ sizeLine := by
    have := R.few
    rw [List.length_map, List.length_mergeSort, pm.length_eq, sizeLine_eq]
    omega
  have hn : H p = none := I.hok.fresh hp
  have hv : Vals ((L1.mergeSort (dataLe false fun q => dTup q.2)).map fun q => V.ref q.1) out := by rw [hout]; exact vals_of_refs _
  have J : Inv X pins σ (upd H p (.lst ((L1.mergeSort (dataLe false fun q => dTup q.2)).map fun q => V.ref q.1))) { s with heap := s'.heap, gens := s'.gens, drawn := s'.drawn, toks := s'.toks } :=
    I.call (ch := []) (Un.laid k hp hn) (I.hok.laid k hp ⟨hlen, out, c, hv, hg⟩) (by rw [g]; exact I.bare) (fun _ z => nomatch z)
  have e : s' = { s with heap := s'.heap, gens := s'.gens, drawn := s'.drawn, toks := s'.toks } := by
    cases s'
    cases s
    cases o
    rfl
  rw [e]
  exact ⟨.ref p, _, J, rfl, NewL.al (q L1 pm hnd) p hn⟩
/-- a comprehension over a tuple, its members tuples of ints -/
theorem sc_tupT {K : PySem.W.Frag} {P : Program} {w : World} {a : Addr} {xs : List V} {g : TG} {tt : TT} {te : TE} {vs : List Nat} {σ : L2.St} {H1 : Hp} {D : Addr} {Qd : Hp → Prop} (Pv : Nat → Hp → Prop) (h0 : Pv 0 (upd H1 D (SetTO P w D []))) (hl : ∀ i H, i ≤ xs.length → Pv i H → SqT K H a xs)
    (hs : ∀ i x H, xs[i]? = some x → Pv i H → g x (wipe σ vs) H fun σ2 H2 => wipe σ2 vs = wipe σ vs ∧ tt σ2 H2 fun b H3 =>
      if b = true then te σ2 H3 fun y H4 => ∃ (c : Addr) (k : List Int) (L : List (Addr × List Int)), y = .ref c ∧ SetTs K P w H4 D L ∧ SqT K H4 c (k.map V.int) ∧ L.length + 1 < 64 ∧
        ∀ L', (k ∈ L.map (·.2) → L' = L) → (k ∉ L.map (·.2) → L'.Perm ((c, k) :: L)) → Pv (i + 1) (upd H4 D (SetTO P w D L')) else Pv (i + 1) H3) (hd : ∀ H, Pv xs.length H → Qd H) :
    ∃ W : Nat → Nat → Hp → Prop, (∃ m, W 0 m (upd H1 D (SetTO P w D []))) ∧ ∀ i m H, W i m H →
      ((Itt K a).stop i H ∧ Qd H) ∨ ((Itt K a).go i H ∧ ∃ Nx : Hp → Prop, (∀ H', Nx H' → ∃ m', m' < m ∧ W (i + 1) m' H') ∧ ∀ x H', (Itt K a).yld i H x H' → g x (wipe σ vs) H' fun σ2 H2 => wipe σ2 vs = wipe σ vs ∧ tt σ2 H2 fun b H3 =>
        if b = true then te σ2 H3 fun y H4 => ∃ (c : Addr) (k : List Int) (L : List (Addr × List Int)), y = .ref c ∧ SetTs K P w H4 D L ∧ SqT K H4 c (k.map V.int) ∧ L.length + 1 < 64 ∧
          ∀ L', (k ∈ L.map (·.2) → L' = L) → (k ∉ L.map (·.2) → L'.Perm ((c, k) :: L)) → Nx (upd H4 D (SetTO P w D L')) else Nx H3) := by
  refine ⟨fun i m H => m = xs.length - i ∧ i ≤ xs.length ∧ Pv i H, ⟨xs.length, by simp, Nat.zero_le _, h0⟩, fun i m H ⟨em, hi, p⟩ => ?_⟩
  subst em
  have q := hl i H hi p
  rcases Nat.lt_or_ge i xs.length with hlt | hge
  · refine .inr ⟨⟨xs, xs[i], q, by simp [hlt]⟩, Pv (i + 1), fun H' p' => ⟨xs.length - (i + 1), by omega, rfl, hlt, p'⟩, fun x H' y => ?_⟩
    obtain ⟨e, y⟩ := y
    subst e
    exact hs i x _ (y xs q) p
  · have e : i = xs.length := Nat.le_antisymm hi hge
    subst e
    exact .inl ⟨⟨xs, q, Nat.le_refl _⟩, hd H p⟩
end
end RL
/-! S11 -/
set_option Elab.async false
set_option linter.all false
set_option maxRecDepth 100000
set_option maxHeartbeats 2000000
namespace RL
open PySem PySem.Spec PyProof.Rows L2 PpSet
section
variable {X : Cx}
theorem call_repr_bl : CallR X (.builtin "repr") (fun xs H Q => ∃ b, xs = [.bl b] ∧ Q (.str (if b then "True" else "False")) H) := by
  intro pins s σ H xs us Q I r h
  obtain ⟨b, rfl, q⟩ := h
  obtain ⟨u, rfl, e⟩ := vals1 r
  cases (show u = Value.bool b from e)
  exact PySem.P.repr_of_bool ⟨.str _, H, I.tok _, ⟨_, rfl⟩, q⟩
/-- list(g) -/
def tListGS (tg : TGen) : TE := fun σ H Q => tg σ H fun out H2 => NewL H2 Q out
def upG (tg : TGen) : TGen := fun σ H Q => ∃ Q0 : List V → Hp → Prop, tg σ H Q0 ∧ ∀ x H1, Q0 x H1 → Q x H1
end
/-! ### values by what they are -/
/-- a row of ints stands at v -/
def IsW (K : PySem.W.Frag) (H : Hp) (v : V) (k : List Int) : Prop := ∃ a, v = .ref a ∧ SqT K H a (k.map V.int)
theorem IsW.same {K : PySem.W.Frag} {H H' : Hp} {v : V} {k : List Int} (e : Same H H') (h : IsW K H v k) : IsW K H' v k := let ⟨a, q, s⟩ := h; ⟨a, q, Same.sqt e s⟩
theorem IsW.dp {K : PySem.W.Frag} {H : Hp} {v : V} {k : List Int} (h : IsW K H v k) : Dp K H v (dTup k) := by
  obtain ⟨a, rfl, s⟩ := h
  refine .tup s ?_
  clear s
  induction k with
  | nil => exact .nil
  | cons n k ih => exact .cons (.int n) ih
theorem lay_ints (k : List Int) : PyData.canLayAll0 (k.map PyData.int) = true := by
  induction k with
  | nil => simp [PyData.canLayAll0]
  | cons n k ih => simp [PyData.canLayAll0, PyData.canLay0, ih]
theorem shaped_tup (k : List Int) : SeqAt.shaped (dTup k) = true := by
  have d := depth_tup k
  unfold SeqAt.shaped
  rw [Bool.and_eq_true]
  exact ⟨by simp only [PyData.canLay0, lay_ints], decide_eq_true (by omega)⟩
theorem eqv_tup (k l : List Int) : PyData.eqv (dTup k) (dTup l) = decide (k = l) := by
  have h : ∀ k l : List Int, PyData.eqvAll (k.map PyData.int) (l.map PyData.int) = decide (k = l) := by
    intro k
    induction k with
    | nil => intro l; cases l <;> simp [PyData.eqvAll]
    | cons n k ih =>
      intro l
      cases l with
      | nil => simp [PyData.eqvAll]
      | cons m l =>
        simp only [List.map_cons, PyData.eqvAll, PyData.eqv, ih, List.cons.injEq, Bool.decide_and]
        congr 1
  simp only [PyData.eqv, h]
theorem cut_map (k : List Int) (lo hi : Option Int) : cutV (k.map V.int) lo hi = ((k.drop (HT.sIx k.length 0 lo)).take (HT.sIx k.length k.length hi - HT.sIx k.length 0 lo)).map V.int := by
  unfold cutV
  rw [List.length_map, List.map_take, List.map_drop]
/-- k[i:] -/
theorem cut_from (k : List Int) {i : Int} (h0 : 0 ≤ i) : cutV (k.map V.int) (some i) none = (k.drop i.toNat).map V.int := by
  rw [cut_map]
  have e1 : HT.sIx k.length 0 (some i) = min i.toNat k.length := by
    show (if i < 0 then (i + (k.length : Int)).toNat else min i.toNat k.length) = _
    rw [if_neg (by omega)]
  have e2 : HT.sIx k.length k.length none = k.length := rfl
  rw [e1, e2]
  congr 1
  by_cases h : i.toNat ≤ k.length
  · rw [Nat.min_eq_left h]
    exact List.take_of_length_le (by rw [List.length_drop]; exact Nat.le_refl _)
  · rw [Nat.min_eq_right (by omega), List.drop_length, List.drop_eq_nil_of_le (by omega)]
    simp
/-- k[:i] -/
theorem cut_to (k : List Int) {i : Int} (h0 : 0 ≤ i) : cutV (k.map V.int) none (some i) = (k.take i.toNat).map V.int := by
  rw [cut_map]
  have e1 : HT.sIx k.length k.length (some i) = min i.toNat k.length := by
    show (if i < 0 then (i + (k.length : Int)).toNat else min i.toNat k.length) = _
    rw [if_neg (by omega)]
  have e2 : HT.sIx k.length 0 none = 0 := rfl
  rw [e1, e2, Nat.sub_zero, List.drop_zero]
  congr 1
  by_cases h : i.toNat ≤ k.length
  · rw [Nat.min_eq_left h]
  · rw [Nat.min_eq_right (by omega), List.take_length, List.take_of_length_le (by omega)]
theorem at_int {k : List Int} {i : Int} {x : Int} (h0 : 0 ≤ i) (h : k[i.toNat]? = some x) : atI (k.map V.int) i = some (.int x) := by
  have e : i = ((i.toNat : Nat) : Int) := by omega
  rw [e]
  exact atI_nat (by rw [List.getElem?_map, h] <;> rfl)
theorem at_v {k : List V} {i : Int} {x : V} (h0 : 0 ≤ i) (h : k[i.toNat]? = some x) : atI k i = some x := by
  have e : i = ((i.toNat : Nat) : Int) := by omega
  rw [e]
  exact atI_nat h
theorem rep_int (k : List Int) (n : Nat) : (List.replicate n (k.map V.int)).flatten = ((List.replicate n k).flatten).map V.int := by
  induction n with
  | zero => rfl
  | succ n ih => rw [List.replicate_succ, List.replicate_succ, List.flatten_cons, List.flatten_cons, ih, List.map_append]
theorem size200 {n : Nat} (h : n ≤ 100000) : n ≤ sizeLine := by rw [sizeLine_eq]; omega
/-- a number, a truth value, or something that is no int at all -/
def NumV (K : PySem.W.Frag) (H : Hp) (v : V) : Prop := (∃ i, v = .int i) ∨ (∃ b, v = .bl b) ∨ ((∀ i, v ≠ .int i) ∧ (∀ b, v ≠ .bl b) ∧ ∃ t, TyX K H v t ∧ PySem.W.kitOne K t (.type "int") = some false)
/-- is_number's answer -/
def numB (v : V) (lo hi : Int) : Bool := match v with
  | .int i => decide (lo ≤ i) && decide (i ≤ hi)
  | _ => false
theorem clsv (n : String) : ClsV (.ty n) (.type n) := by first | exact .ty n | exact rfl | constructor
end RL
/-! S12 -/
set_option Elab.async false
set_option linter.all false
set_option maxRecDepth 100000
set_option maxHeartbeats 2000000
namespace RL
open PySem PySem.Spec PyProof.Rows L2 PpSet
theorem same_mut {H H' : Hp} {D : Addr} {o : HO} (h : H D = none) (s : Same H H') : Same H (upd H' D o) := fun b u q => by rw [upd_ne (ne_of_none q h)]; exact s b u q
theorem ifT {c : Bool} {A B : Prop} (hc : c = true) (h : A) : if c = true then A else B := by
  rw [if_pos hc]
  exact h
theorem ifF {c : Bool} {A B : Prop} (hc : c = false) (h : B) : if c = true then A else B := by
  rw [hc, if_neg Bool.false_ne_true]
  exact h
theorem take_more {α : Type} : ∀ {l : List α} {i : Nat} {x : α}, l[i]? = some x → l.take (i + 1) = l.take i ++ [x]
  | [], i, x, h => by simp at h
  | a :: l, 0, x, h => by
    cases Option.some.inj h
    rfl
  | a :: l, i + 1, x, h => by
    have ih := take_more (l := l) (i := i) (x := x) h
    show a :: l.take (i + 1) = a :: l.take i ++ [x]
    rw [ih]
    rfl
theorem wipe_one (σ : L2.St) (i : Nat) (v : Option V) : wipe ((wipe σ [i]).set i v) [i] = wipe σ [i] := by
  show (((σ.set i none).set i v).set i none) = σ.set i none
  rw [List.set_set, List.set_set]
section
variable {K : PySem.W.Frag} {a : Addr} {xs : List V} {te : TE} {σ : L2.St} {H1 : Hp} {i : Nat}
/-- [e for x in t]: e says f x of x, and leaves what is tracked -/
theorem lc_tupF {Qd : Addr → Hp → Prop} (f : V → V) (hx : SqT K H1 a xs) (hz : xs.length < sizeLine) (el : ∀ x ∈ xs, ∀ (H : Hp) (Q : VK), Same H1 H → (∀ H', Same H H' → Q (f x) H') → te ((wipe σ [i]).set i (some x)) H Q) (fin : ∀ H' p, Same H1 H' → H1 p = none → H' p = some (.lst (xs.map f)) → Qd p H') :
    ∀ D, H1 D = none → ∃ W : Nat → Nat → Hp → Prop, (∃ m, W 0 m (upd H1 D (.lst []))) ∧ ∀ j m H, W j m H →
      ((Itt K a).stop j H ∧ Qd D H) ∨ ((Itt K a).go j H ∧ ∃ Nx : Hp → Prop, (∀ H', Nx H' → ∃ m', m' < m ∧ W (j + 1) m' H') ∧ ∀ x H', (Itt K a).yld j H x H' → gName i x (wipe σ [i]) H' fun σ2 H2 => wipe σ2 [i] = wipe σ [i] ∧ tYes σ2 H2 fun b H3 =>
        if b = true then te σ2 H3 fun y H4 => ∃ acc, H4 D = some (.lst acc) ∧ acc.length < sizeLine ∧ Nx (upd H4 D (.lst (acc ++ [y]))) else Nx H3) := by
  intro D hD
  refine lc_tup (xs := xs) (Qd := fun H => Qd D H) (fun j H => Same H1 H ∧ H D = some (.lst ((xs.take j).map f))) ⟨same_upd hD _, upd_same⟩ (fun j H _ p => Same.sqt p.1 hx) (fun j x H hj p => ?_) fun H p => ?_
  · refine ⟨wipe_one _ _ _, ?_⟩
    dsimp only [tYes]
    rw [if_pos rfl]
    refine el x (List.mem_of_getElem? hj) H _ p.1 fun H' s => ⟨_, s _ _ p.2, ?_, same_mut hD (Same.trans p.1 s), ?_⟩
    · rw [List.length_map, List.length_take]
      omega
    · rw [upd_same, take_more hj, List.map_append] <;> rfl
  · rw [List.take_length] at p
    exact fin H D p.1 hD p.2
/-- [e for x in l] -/
theorem lc_lstF {Qd : Addr → Hp → Prop} (f : V → V) (hx : SqL K H1 a xs) (hz : xs.length < sizeLine) (el : ∀ x ∈ xs, ∀ (H : Hp) (Q : VK), Same H1 H → (∀ H', Same H H' → Q (f x) H') → te ((wipe σ [i]).set i (some x)) H Q) (fin : ∀ H' p, Same H1 H' → H1 p = none → H' p = some (.lst (xs.map f)) → Qd p H') :
    ∀ D, H1 D = none → ∃ W : Nat → Nat → Hp → Prop, (∃ m, W 0 m (upd H1 D (.lst []))) ∧ ∀ j m H, W j m H →
      ((Itl K a).stop j H ∧ Qd D H) ∨ ((Itl K a).go j H ∧ ∃ Nx : Hp → Prop, (∀ H', Nx H' → ∃ m', m' < m ∧ W (j + 1) m' H') ∧ ∀ x H', (Itl K a).yld j H x H' → gName i x (wipe σ [i]) H' fun σ2 H2 => wipe σ2 [i] = wipe σ [i] ∧ tYes σ2 H2 fun b H3 =>
        if b = true then te σ2 H3 fun y H4 => ∃ acc, H4 D = some (.lst acc) ∧ acc.length < sizeLine ∧ Nx (upd H4 D (.lst (acc ++ [y]))) else Nx H3) := by
  intro D hD
  refine lc_list (xs := xs) (Qd := fun H => Qd D H) (fun j H => Same H1 H ∧ H D = some (.lst ((xs.take j).map f))) ⟨same_upd hD _, upd_same⟩ (fun j H _ p => p.1.seq hx) (fun j x H hj p => ?_) fun H p => ?_
  · refine ⟨wipe_one _ _ _, ?_⟩
    dsimp only [tYes]
    rw [if_pos rfl]
    refine el x (List.mem_of_getElem? hj) H _ p.1 fun H' s => ⟨_, s _ _ p.2, ?_, same_mut hD (Same.trans p.1 s), ?_⟩
    · rw [List.length_map, List.length_take]
      omega
    · rw [upd_same, take_more hj, List.map_append] <;> rfl
  · rw [List.take_length] at p
    exact fin H D p.1 hD p.2
theorem range_more (f : Nat → V) (n : Nat) : (List.range (n + 1)).map f = (List.range n).map f ++ [f n] := by rw [List.range_succ, List.map_append] <;> rfl
/-- [e for x in range(lo, lo + n)] -/
theorem lc_rngF {Qd : Addr → Hp → Prop} {lo : Int} {n : Nat} (f : Nat → V) (hz : n < sizeLine) (el : ∀ j, j < n → ∀ (H : Hp) (Q : VK), Same H1 H → (∀ H', Same H H' → Q (f j) H') → te ((wipe σ [i]).set i (some (.int (lo + j)))) H Q) (fin : ∀ H' p, Same H1 H' → H1 p = none → H' p = some (.lst ((List.range n).map f)) → Qd p H') :
    ∀ D, H1 D = none → ∃ W : Nat → Nat → Hp → Prop, (∃ m, W 0 m (upd H1 D (.lst []))) ∧ ∀ j m H, W j m H →
      ((Itr lo n).stop j H ∧ Qd D H) ∨ ((Itr lo n).go j H ∧ ∃ Nx : Hp → Prop, (∀ H', Nx H' → ∃ m', m' < m ∧ W (j + 1) m' H') ∧ ∀ x H', (Itr lo n).yld j H x H' → gName i x (wipe σ [i]) H' fun σ2 H2 => wipe σ2 [i] = wipe σ [i] ∧ tYes σ2 H2 fun b H3 =>
        if b = true then te σ2 H3 fun y H4 => ∃ acc, H4 D = some (.lst acc) ∧ acc.length < sizeLine ∧ Nx (upd H4 D (.lst (acc ++ [y]))) else Nx H3) := by
  intro D hD
  refine lc_range (Qd := fun H => Qd D H) (fun j H => j ≤ n ∧ Same H1 H ∧ H D = some (.lst ((List.range j).map f))) ⟨Nat.zero_le _, same_upd hD _, upd_same⟩ (fun j H hj p => ?_) fun H p => ?_
  · refine ⟨wipe_one _ _ _, ?_⟩
    dsimp only [tYes]
    rw [if_pos rfl]
    refine el j hj H _ p.2.1 fun H' s => ⟨_, s _ _ p.2.2, ?_, hj, same_mut hD (Same.trans p.2.1 s), ?_⟩
    · rw [List.length_map, List.length_range]
      omega
    · rw [upd_same, range_more]
  · exact fin H D p.2.1 hD p.2.2
/-- [x for x in l if t]: t says p x of x, and leaves what is tracked -/
theorem lc_lstP {Qd : Addr → Hp → Prop} {tt : TT} (f : V → V) (p : V → Bool) (hx : SqL K H1 a xs) (hz : xs.length < sizeLine) (tel : ∀ x ∈ xs, ∀ (H : Hp) (Q : Bool → Hp → Prop), Same H1 H → (∀ H', Same H H' → Q (p x) H') → tt ((wipe σ [i]).set i (some x)) H Q)
    (el : ∀ x ∈ xs, p x = true → ∀ (H : Hp) (Q : VK), Same H1 H → (∀ H', Same H H' → Q (f x) H') → te ((wipe σ [i]).set i (some x)) H Q) (fin : ∀ H' D, Same H1 H' → H1 D = none → H' D = some (.lst ((xs.filter p).map f)) → Qd D H') :
    ∀ D, H1 D = none → ∃ W : Nat → Nat → Hp → Prop, (∃ m, W 0 m (upd H1 D (.lst []))) ∧ ∀ j m H, W j m H →
      ((Itl K a).stop j H ∧ Qd D H) ∨ ((Itl K a).go j H ∧ ∃ Nx : Hp → Prop, (∀ H', Nx H' → ∃ m', m' < m ∧ W (j + 1) m' H') ∧ ∀ x H', (Itl K a).yld j H x H' → gName i x (wipe σ [i]) H' fun σ2 H2 => wipe σ2 [i] = wipe σ [i] ∧ tt σ2 H2 fun b H3 =>
        if b = true then te σ2 H3 fun y H4 => ∃ acc, H4 D = some (.lst acc) ∧ acc.length < sizeLine ∧ Nx (upd H4 D (.lst (acc ++ [y]))) else Nx H3) := by
  intro D hD
  refine lc_list (xs := xs) (Qd := fun H => Qd D H) (fun j H => Same H1 H ∧ H D = some (.lst (((xs.take j).filter p).map f))) ⟨same_upd hD _, upd_same⟩ (fun j H _ p => p.1.seq hx) (fun j x H hj q => ?_) fun H q => ?_
  · refine ⟨wipe_one _ _ _, ?_⟩
    have hm := List.mem_of_getElem? hj
    refine tel x hm H _ q.1 fun H' s => ?_
    cases hp : p x with
    | true =>
      rw [if_pos rfl]
      refine el x hm hp H' _ (Same.trans q.1 s) fun H2 s2 => ⟨_, s2 _ _ (s _ _ q.2), ?_, same_mut hD (Same.trans q.1 (Same.trans s s2)), ?_⟩
      · have l1 := List.length_filter_le p (xs.take j)
        rw [List.length_map]
        rw [List.length_take] at l1
        omega
      · rw [upd_same, take_more hj, List.filter_append, List.map_append]
        simp [hp]
    | false =>
      rw [if_neg Bool.false_ne_true]
      refine ⟨Same.trans q.1 s, ?_⟩
      rw [take_more hj, List.filter_append]
      simp [hp]
      exact s _ _ q.2
  · rw [List.take_length] at q
    exact fin H D q.1 hD q.2
end
end RL
/-! S13 -/
set_option Elab.async false
set_option linter.all false
set_option maxRecDepth 100000
set_option maxHeartbeats 2000000
namespace RL
open PySem PySem.Spec PyProof.Rows L2 PpSet
/-- place by place -/
inductive Each {α β : Type} (R : α → β → Prop) : List α → List β → Prop
  | nil : Each R [] []
  | cons {a : α} {b : β} {as : List α} {bs : List β} : R a b → Each R as bs → Each R (a :: as) (b :: bs)
theorem Each.snoc {α β : Type} {R : α → β → Prop} {a : α} {b : β} (h : R a b) : ∀ {as : List α} {bs : List β}, Each R as bs → Each R (as ++ [a]) (bs ++ [b])
  | _, _, .nil => .cons h .nil
  | _, _, .cons q t => .cons q (Each.snoc h t)
theorem Each.imp {α β : Type} {R S : α → β → Prop} (f : ∀ a b, R a b → S a b) : ∀ {as : List α} {bs : List β}, Each R as bs → Each S as bs
  | _, _, .nil => .nil
  | _, _, .cons q t => .cons (f _ _ q) (Each.imp f t)
theorem Each.length {α β : Type} {R : α → β → Prop} : ∀ {as : List α} {bs : List β}, Each R as bs → as.length = bs.length
  | _, _, .nil => rfl
  | _, _, .cons _ t => congrArg (· + 1) (Each.length t)
/-- the tuples stand, and what is locked -/
def Stay (H H' : Hp) : Prop := (∀ b xs, H b = some (.tup xs) → H' b = some (.tup xs)) ∧ ∀ b o u, H b = some (.frz o u) → H' b = some (.frz o u)
theorem Stay.refl (H : Hp) : Stay H H := ⟨fun _ _ h => h, fun _ _ _ h => h⟩
theorem Stay.trans {H H1 H2 : Hp} (a : Stay H H1) (b : Stay H1 H2) : Stay H H2 := ⟨fun c x h => b.1 c x (a.1 c x h), fun c o u h => b.2 c o u (a.2 c o u h)⟩
theorem stay_of {H H' : Hp} (s : Same H H') : Stay H H' := ⟨fun b _ h => s b _ h, fun b _ _ h => s b _ h⟩
theorem stay_upd {H : Hp} {D : Addr} {o o' : HO} (hD : H D = some o) (n1 : ∀ ys, o ≠ .tup ys) (n2 : ∀ ob u, o ≠ .frz ob u) : Stay H (upd H D o') :=
  ⟨fun b xs h => by rw [upd_ne (fun z => by rw [z, hD] at h; exact n1 _ (Option.some.inj h))]; exact h, fun b ob u h => by rw [upd_ne (fun z => by rw [z, hD] at h; exact n2 _ _ (Option.some.inj h))]; exact h⟩
theorem stay_lst {H : Hp} {D : Addr} {xs : List V} {o' : HO} (hD : H D = some (.lst xs)) : Stay H (upd H D o') := stay_upd hD (fun _ z => nomatch z) (fun _ _ z => nomatch z)
theorem stay_set {P : Program} {w : World} {H : Hp} {D : Addr} {L : List (Addr × List Int)} {o' : HO} (hD : H D = some (SetTO P w D L)) : Stay H (upd H D o') := stay_upd hD (fun _ z => by unfold SetTO at z; cases z) (fun _ _ z => by unfold SetTO at z; cases z)
theorem Stay.sqt {K : PySem.W.Frag} {H H' : Hp} {a : Addr} {xs : List V} (e : Stay H H') (h : SqT K H a xs) : SqT K H' a xs := by
  rcases h with (h | ⟨o, h⟩) | h
  · exact .inl (.inl (e.1 _ _ h))
  · exact .inl (.inr ⟨o, e.2 _ _ _ h⟩)
  · exact .inr h
theorem IsW.stay {K : PySem.W.Frag} {H H' : Hp} {v : V} {k : List Int} (e : Stay H H') (h : IsW K H v k) : IsW K H' v k := let ⟨a, q, s⟩ := h; ⟨a, q, e.sqt s⟩
section
variable {K : PySem.W.Frag} {a : Addr} {xs : List V} {te : TE} {σ : L2.St} {H1 : Hp} {i : Nat}
/-- one turn of a comprehension that makes something new -/
theorem turn_new {R : Hp → V → V → Prop} (mono : ∀ H H' x y, Stay H H' → R H x y → R H' x y) {H H' : Hp} {D : Addr} {zs ys : List V} {x y : V} (hD : H1 D = none) (s : Same H1 H) (s2 : Same H H') (hys : H D = some (.lst ys)) (e : Each (R H) zs ys) (r : R H' x y) :
    H' D = some (.lst ys) ∧ Same H1 (upd H' D (.lst (ys ++ [y]))) ∧ ∃ ys', upd H' D (.lst (ys ++ [y])) D = some (.lst ys') ∧ Each (R (upd H' D (.lst (ys ++ [y])))) (zs ++ [x]) ys' := by
  have h := s2 _ _ hys
  have st := stay_lst (o' := .lst (ys ++ [y])) h
  exact ⟨h, same_mut hD (Same.trans s s2), _, upd_same, Each.snoc (mono _ _ _ _ st r) (e.imp fun a b q => mono _ _ _ _ (Stay.trans (stay_of s2) st) q)⟩
/-- [e for x in l], e makes something new -/
theorem lc_lstR {Qd : Addr → Hp → Prop} (R : Hp → V → V → Prop) (mono : ∀ H H' x y, Stay H H' → R H x y → R H' x y) (hx : SqL K H1 a xs) (hz : xs.length < sizeLine) (el : ∀ x ∈ xs, ∀ (H : Hp) (Q : VK), Same H1 H → (∀ H' y, Same H H' → R H' x y → Q y H') → te ((wipe σ [i]).set i (some x)) H Q)
    (fin : ∀ H' p ys, Same H1 H' → H1 p = none → H' p = some (.lst ys) → Each (R H') xs ys → Qd p H') :
    ∀ D, H1 D = none → ∃ W : Nat → Nat → Hp → Prop, (∃ m, W 0 m (upd H1 D (.lst []))) ∧ ∀ j m H, W j m H →
      ((Itl K a).stop j H ∧ Qd D H) ∨ ((Itl K a).go j H ∧ ∃ Nx : Hp → Prop, (∀ H', Nx H' → ∃ m', m' < m ∧ W (j + 1) m' H') ∧ ∀ x H', (Itl K a).yld j H x H' → gName i x (wipe σ [i]) H' fun σ2 H2 => wipe σ2 [i] = wipe σ [i] ∧ tYes σ2 H2 fun b H3 =>
        if b = true then te σ2 H3 fun y H4 => ∃ acc, H4 D = some (.lst acc) ∧ acc.length < sizeLine ∧ Nx (upd H4 D (.lst (acc ++ [y]))) else Nx H3) := by
  intro D hD
  refine lc_list (xs := xs) (Qd := fun H => Qd D H) (fun j H => Same H1 H ∧ ∃ ys, H D = some (.lst ys) ∧ Each (R H) (xs.take j) ys) ⟨same_upd hD _, [], upd_same, .nil⟩ (fun j H _ p => p.1.seq hx) (fun j x H hj p => ?_) fun H p => ?_
  · obtain ⟨s, ys, hys, e⟩ := p
    refine ⟨wipe_one _ _ _, ?_⟩
    dsimp only [tYes]
    rw [if_pos rfl]
    refine el x (List.mem_of_getElem? hj) H _ s fun H' y s2 r => ?_
    obtain ⟨h1, h2, h3⟩ := turn_new mono hD s s2 hys e r
    refine ⟨ys, h1, ?_, h2, by rw [take_more hj]; exact h3⟩
    have := e.length
    rw [List.length_take] at this
    omega
  · obtain ⟨s, ys, hys, e⟩ := p
    rw [List.take_length] at e
    exact fin H D ys s hD hys e
/-- [e for x in range(lo, lo + n)], e makes something new -/
theorem lc_rngR {Qd : Addr → Hp → Prop} {lo : Int} {n : Nat} (R : Hp → V → V → Prop) (mono : ∀ H H' x y, Stay H H' → R H x y → R H' x y) (hz : n < sizeLine) (el : ∀ j, j < n → ∀ (H : Hp) (Q : VK), Same H1 H → (∀ H' y, Same H H' → R H' (.int (lo + j)) y → Q y H') → te ((wipe σ [i]).set i (some (.int (lo + j)))) H Q)
    (fin : ∀ H' p ys, Same H1 H' → H1 p = none → H' p = some (.lst ys) → Each (R H') ((List.range n).map fun j => V.int (lo + (j : Nat))) ys → Qd p H') :
    ∀ D, H1 D = none → ∃ W : Nat → Nat → Hp → Prop, (∃ m, W 0 m (upd H1 D (.lst []))) ∧ ∀ j m H, W j m H →
      ((Itr lo n).stop j H ∧ Qd D H) ∨ ((Itr lo n).go j H ∧ ∃ Nx : Hp → Prop, (∀ H', Nx H' → ∃ m', m' < m ∧ W (j + 1) m' H') ∧ ∀ x H', (Itr lo n).yld j H x H' → gName i x (wipe σ [i]) H' fun σ2 H2 => wipe σ2 [i] = wipe σ [i] ∧ tYes σ2 H2 fun b H3 =>
        if b = true then te σ2 H3 fun y H4 => ∃ acc, H4 D = some (.lst acc) ∧ acc.length < sizeLine ∧ Nx (upd H4 D (.lst (acc ++ [y]))) else Nx H3) := by
  intro D hD
  refine lc_range (Qd := fun H => Qd D H) (fun j H => j ≤ n ∧ Same H1 H ∧ ∃ ys, H D = some (.lst ys) ∧ Each (R H) ((List.range j).map fun j => V.int (lo + (j : Nat))) ys) ⟨Nat.zero_le _, same_upd hD _, [], upd_same, .nil⟩ (fun j H hj p => ?_) fun H p => ?_
  · obtain ⟨_, s, ys, hys, e⟩ := p
    refine ⟨wipe_one _ _ _, ?_⟩
    dsimp only [tYes]
    rw [if_pos rfl]
    refine el j hj H _ s fun H' y s2 r => ?_
    obtain ⟨h1, h2, h3⟩ := turn_new mono hD s s2 hys e r
    refine ⟨ys, h1, ?_, hj, h2, by rw [range_more (fun j => V.int (lo + (j : Nat)))]; exact h3⟩
    have := e.length
    rw [List.length_map, List.length_range] at this
    omega
  · obtain ⟨_, s, ys, hys, e⟩ := p
    exact fin H D ys s hD hys e
end
end RL
/-! S14 -/
set_option Elab.async false
set_option linter.all false
set_option maxRecDepth 100000
namespace RL
open PySem PySem.Spec PyProof.Rows L2
variable {X : Cx}
theorem op_catK {K : PySem.W.Frag} (hK : X.K = K) : OpR X (binaryOp .Add) (rCatS K) := hK ▸ op_catS
theorem pe_revK {K : PySem.W.Frag} (hK : X.K = K) {e : Expr} {te : TE} {k : Nat} {p1 p2 p3 pos : Pos} (he : PE X e te) : PE X (.Subscript e (.Slice none none (some (.UnaryOp .USub (.Constant (.int 1) k p1) p2)) p3) pos) (tRevS K te) := hK ▸ pe_revS he
theorem pe_tupK {K : PySem.W.Frag} (hK : X.K = K) {es : List Expr} {t : TA} {x1} {pos : Pos} (h : PA X es t) : PE X (.Tuple es x1 pos) (tTupS K t) := hK ▸ pe_tupS h
theorem pg_tupK {K : PySem.W.Frag} (hK : X.K = K) {es : List Expr} {k : Nat} {t : TGs} {n : Nat} {pos : Pos} (hc : X.calm = true) (h : PGs X es t)
    (hn : (assignEach es X.env).length = n := by rfl) (hst : (assignEach es X.env).findIdx? (·.1) = none := by rfl) : PG X (.Tuple es k pos) (gTup K n t) := hK ▸ pg_tup hc h hn hst
theorem call_isiK {K : PySem.W.Frag} (hK : X.K = K) : CallR X (.builtin "isinstance") (rIsi K) := hK ▸ call_isi
theorem tt_mid {tt : TT} {σ : L2.St} {H : Hp} {k : Bool → Hp → Prop} (Pr : Bool → Prop) (h : ∀ b, Pr b → k b H) (f : ∀ k' : Bool → Hp → Prop, (∀ b, Pr b → k' b H) → tt σ H k') : tt σ H k := f k h
theorem passE0 {X : Cx} : Passes (CX X.prog X.w) X E0 := fun _ _ _ _ _ _ _ ⟨_, _, _, _, _, _, _, _, _, _, _, _, z⟩ => z.elim
theorem noStopE0 {K : PySem.W.Frag} : NoStop K E0 := fun _ _ _ h => h.elim
end RL
/-! S15 -/
set_option Elab.async false
set_option linter.all false
set_option maxRecDepth 100000
set_option maxHeartbeats 2000000
namespace RL
open PySem PySem.Spec PyProof.Rows L2 PpSet
section
variable {K : PySem.W.Frag} {a : Addr} {xs : List V} {te : TE} {σ : L2.St} {H1 : Hp} {i : Nat}
theorem turn_newA {α : Type} {R : Hp → α → V → Prop} (mono : ∀ H H' x y, Stay H H' → R H x y → R H' x y) {H H' : Hp} {D : Addr} {zs : List α} {ys : List V} {x : α} {y : V} (hD : H1 D = none) (s : Same H1 H) (s2 : Same H H') (hys : H D = some (.lst ys)) (e : Each (R H) zs ys) (r : R H' x y) :
    H' D = some (.lst ys) ∧ Same H1 (upd H' D (.lst (ys ++ [y]))) ∧ ∃ ys', upd H' D (.lst (ys ++ [y])) D = some (.lst ys') ∧ Each (R (upd H' D (.lst (ys ++ [y])))) (zs ++ [x]) ys' := by
  have h := s2 _ _ hys
  have st := stay_lst (o' := .lst (ys ++ [y])) h
  exact ⟨h, same_mut hD (Same.trans s s2), _, upd_same, Each.snoc (mono _ _ _ _ st r) (e.imp fun a b q => mono _ _ _ _ (Stay.trans (stay_of s2) st) q)⟩
/-- [e for x in l], e makes something new; l's items are named by other things -/
theorem lc_lstA {α : Type} {Qd : Addr → Hp → Prop} {zs : List α} (f : α → V) (R : Hp → α → V → Prop) (mono : ∀ H H' x y, Stay H H' → R H x y → R H' x y) (hx : SqL K H1 a (zs.map f)) (hz : zs.length < sizeLine) (el : ∀ z ∈ zs, ∀ (H : Hp) (Q : VK), Same H1 H → (∀ H' y, Same H H' → R H' z y → Q y H') → te ((wipe σ [i]).set i (some (f z))) H Q)
    (fin : ∀ H' p ys, Same H1 H' → H1 p = none → H' p = some (.lst ys) → Each (R H') zs ys → Qd p H') :
    ∀ D, H1 D = none → ∃ W : Nat → Nat → Hp → Prop, (∃ m, W 0 m (upd H1 D (.lst []))) ∧ ∀ j m H, W j m H →
      ((Itl K a).stop j H ∧ Qd D H) ∨ ((Itl K a).go j H ∧ ∃ Nx : Hp → Prop, (∀ H', Nx H' → ∃ m', m' < m ∧ W (j + 1) m' H') ∧ ∀ x H', (Itl K a).yld j H x H' → gName i x (wipe σ [i]) H' fun σ2 H2 => wipe σ2 [i] = wipe σ [i] ∧ tYes σ2 H2 fun b H3 =>
        if b = true then te σ2 H3 fun y H4 => ∃ acc, H4 D = some (.lst acc) ∧ acc.length < sizeLine ∧ Nx (upd H4 D (.lst (acc ++ [y]))) else Nx H3) := by
  intro D hD
  refine lc_list (xs := zs.map f) (Qd := fun H => Qd D H) (fun j H => Same H1 H ∧ ∃ ys, H D = some (.lst ys) ∧ Each (R H) (zs.take j) ys) ⟨same_upd hD _, [], upd_same, .nil⟩ (fun j H _ p => p.1.seq hx) (fun j x H hj p => ?_) fun H p => ?_
  · obtain ⟨s, ys, hys, e⟩ := p
    rw [List.getElem?_map] at hj
    obtain ⟨z, hz', rfl⟩ := Option.map_eq_some_iff.mp hj
    refine ⟨wipe_one _ _ _, ?_⟩
    dsimp only [tYes]
    rw [if_pos rfl]
    refine el z (List.mem_of_getElem? hz') H _ s fun H' y s2 r => ?_
    obtain ⟨h1, h2, h3⟩ := turn_newA mono hD s s2 hys e r
    refine ⟨ys, h1, ?_, h2, by rw [take_more hz']; exact h3⟩
    have := e.length
    rw [List.length_take] at this
    omega
  · obtain ⟨s, ys, hys, e⟩ := p
    rw [List.length_map, List.take_length] at e
    exact fin H D ys s hD hys e
/-- as lc_rngR, the indices by their number -/
theorem lc_rngA {Qd : Addr → Hp → Prop} {lo : Int} {n : Nat} (R : Hp → Nat → V → Prop) (mono : ∀ H H' x y, Stay H H' → R H x y → R H' x y) (hz : n < sizeLine) (el : ∀ j, j < n → ∀ (H : Hp) (Q : VK), Same H1 H → (∀ H' y, Same H H' → R H' j y → Q y H') → te ((wipe σ [i]).set i (some (.int (lo + j)))) H Q)
    (fin : ∀ H' p ys, Same H1 H' → H1 p = none → H' p = some (.lst ys) → Each (R H') (List.range n) ys → Qd p H') :
    ∀ D, H1 D = none → ∃ W : Nat → Nat → Hp → Prop, (∃ m, W 0 m (upd H1 D (.lst []))) ∧ ∀ j m H, W j m H →
      ((Itr lo n).stop j H ∧ Qd D H) ∨ ((Itr lo n).go j H ∧ ∃ Nx : Hp → Prop, (∀ H', Nx H' → ∃ m', m' < m ∧ W (j + 1) m' H') ∧ ∀ x H', (Itr lo n).yld j H x H' → gName i x (wipe σ [i]) H' fun σ2 H2 => wipe σ2 [i] = wipe σ [i] ∧ tYes σ2 H2 fun b H3 =>
        if b = true then te σ2 H3 fun y H4 => ∃ acc, H4 D = some (.lst acc) ∧ acc.length < sizeLine ∧ Nx (upd H4 D (.lst (acc ++ [y]))) else Nx H3) := by
  intro D hD
  refine lc_range (Qd := fun H => Qd D H) (fun j H => j ≤ n ∧ Same H1 H ∧ ∃ ys, H D = some (.lst ys) ∧ Each (R H) (List.range j) ys) ⟨Nat.zero_le _, same_upd hD _, [], upd_same, .nil⟩ (fun j H hj p => ?_) fun H p => ?_
  · obtain ⟨_, s, ys, hys, e⟩ := p
    refine ⟨wipe_one _ _ _, ?_⟩
    dsimp only [tYes]
    rw [if_pos rfl]
    refine el j hj H _ s fun H' y s2 r => ?_
    obtain ⟨h1, h2, h3⟩ := turn_newA mono hD s s2 hys e r
    refine ⟨ys, h1, ?_, hj, h2, by rw [List.range_succ]; exact h3⟩
    have := e.length
    rw [List.length_range] at this
    omega
  · obtain ⟨_, s, ys, hys, e⟩ := p
    exact fin H D ys s hD hys e
end
end RL
/-! S20 -/
set_option Elab.async false
set_option linter.all false
set_option maxRecDepth 100000
set_option maxHeartbeats 2000000
namespace RK
open PySem PySem.Spec PyProof.Rows PySem.SeqAt
section
variable {M : Model} {prog : Program} {w : World} {A : Around} {E : Value → Shared → Prop} {s : Shared} {K : PySem.W.Frag} {x C f : Addr} {ox : Obj} {od : Option Obj} {b tb : Value}
theorem ifBound_ne {args : List Value} {Q : Option Value → Shared → Prop} (X : K.In s.heap) (I : PySem.W.InstAt s.heap x ox C od) (hs : PySem.W.findIn K (.ref C) "__ne__" = some (some (.builtin "object.__ne__")))
    (h : wpAny M A (call (.builtin "object.__ne__") (.ref x :: args)) (fun v => Q (some v)) E s) : wpAny M A (callSpecialIfBound? (.ref x) "__ne__" args) Q E s := by
  simp only [callSpecialIfBound?, bindSpecialIfBound?]
  refine wpAny_holding (wpAny_bind (wpAny_bind (wpAny_bind (I.type.here ((PySem.W.looks_findIn X hs).here ?_)))))
  refine wpAny_bind (wpAny_askSetting (wpAny_ite ?_))
  have fin : wpAny M A (call (.builtin "object.__ne__") ([.ref x] ++ args) >>= fun v => pure (some v)) Q E s := wpAny_bind (wpAny_mono h (fun v s' h' => wpAny_pure h') fun _ _ h' => h')
  split
  · exact wpAny_bind (wpAny_of_eq (F.cmp_object.ne.bind _) (wpAny_pure (by exact fin)))
  · exact wpAny_tryCatch (wpAny_bind (wpAny_of_eq (F.cmp_object.ne.bind _) (wpAny_pure (by exact fin))))
theorem entry_ne {Q : Fin → Shared → Prop} (hu : A.units < cLine) (X : K.In s.heap) (I : PySem.W.InstAt s.heap x ox C od) (hs : PySem.W.findIn K (.ref C) "__eq__" = some (some (.ref f))) (hf : PySem.W.isFn K (.ref f) = true)
    (h : wpAny M A (call (.ref f) [.ref x, b]) (fun v s' => ∃ k, v = .bool k ∧ Q (.done (.ret (.bool (!k)))) s') E s) : wpAny M A (Builtin.«object.__ne__» ⟨[.ref x, b], []⟩) Q E s := by
  unfold Builtin.«object.__ne__»
  repeat (first
    | with_reducible refine wpAny_cRoomFor hu ?_
    | (refine wpAny_bind (m := callSpecialIfBound? (.ref x) (Str.ofString "__eq__") [b])
        (PySem.W.ifBound_K X I hs hf (wpAny_mono h (fun r s' hr => by
          obtain ⟨k, rfl, hq⟩ := hr
          repeat (first | exact hq | exact wpAny_pure hq | exact wpAny_truthy_bool hq | (refine wpAny_bind (m := truthy (.bool _)) (wpAny_truthy_bool ?_)) | wp_step)) fun _ _ e => e)))
    | wp_step)
theorem ne_own {Q : Value → Shared → Prop} (hu : A.units + 1 < cLine) (X : K.In s.heap) (I : PySem.W.InstAt s.heap x ox C od) (hm : PySem.W.mroIn K C (.type "object") = some true) (hb : PySem.W.Looks (model prog w) s.heap (typeOf b) tb) (hn : PySem.W.notFirst K C tb = true)
    (hs : PySem.W.findIn K (.ref C) "__eq__" = some (some (.ref f))) (hne : PySem.W.findIn K (.ref C) "__ne__" = some (some (.builtin "object.__ne__"))) (hf : PySem.W.isFn K (.ref f) = true)
    (h : wpAny (model prog w) A.in1 (call (.ref f) [.ref x, b]) (fun v s' => ∃ k, v = .bool k ∧ Q (.bool (!k)) s') E s) : wpAny (model prog w) A (richCompare .NotEq (.ref x) b) Q E s := by
  have one : wpAny (model prog w) A (tryCompare (.ref x) "__ne__" b) (fun r s' => ∃ v, r = some v ∧ Q v s') E s := by
    unfold tryCompare
    refine wpAny_bind (ifBound_ne X I hne (wpAny_call (codeAny_call_builtin F.cmp_object.ne.plain F.cmpEntry_ne (PySem.W.check_slot F.cmpKind_ne F.cmpSplit_ne (I.type.andThen (PySem.W.looks_mroIn X hm)) (F.cmpArgs_ne _ _) ?_))))
    refine entry_ne (A := A.in1) (by exact hu) X I hs hf (wpAny_mono h (fun v s' hv => ?_) fun _ _ e => e)
    obtain ⟨k, rfl, hq⟩ := hv
    first | exact ⟨k, rfl, wpAny_pure ⟨_, rfl, hq⟩⟩ | exact ⟨k, rfl, wpAny_pure (wpAny_pure ⟨_, rfl, hq⟩)⟩ | exact ⟨k, rfl, ⟨_, rfl, hq⟩⟩
  simp only [richCompare, cmpInfo_NotEq, oneThing_ref]
  refine wpAny_holding (wpAny_bind (wpAny_cRoomFor (Nat.lt_of_succ_lt hu) ?_))
  refine wpAny_bind (I.type.here (wpAny_bind (hb.here ?_)))
  split
  · rename_i q
    have e : PySem.W.subIn K tb (.ref C) = some false := by
      rcases Bool.or_eq_true_iff.mp hn with e | e
      · rw [beq_iff_eq.mp e] at q; simp at q
      · exact beq_iff_eq.mp e
    refine wpAny_bind ((PySem.W.looks_subIn X e).here ?_)
    simp only [Bool.false_eq_true, if_false]
    refine wpAny_bind (wpAny_mono one (fun r s' z => ?_) fun _ _ e => e)
    obtain ⟨v, rfl, hq⟩ := z
    exact wpAny_pure hq
  · refine wpAny_bind (wpAny_pure ?_)
    simp only [Bool.false_eq_true, if_false]
    refine wpAny_bind (wpAny_mono one (fun r s' z => ?_) fun _ _ e => e)
    obtain ⟨v, rfl, hq⟩ := z
    exact wpAny_pure hq
end
end RK
/-! S21 -/
set_option Elab.async false
set_option linter.all false
set_option maxRecDepth 100000
set_option maxHeartbeats 2000000
namespace RK
open PySem PySem.Spec PyProof.Rows PySem.SeqAt
section
variable {prog : Program} {w : World} {A : Around} {E : Value → Shared → Prop} {s : Shared} {K : PySem.W.Frag} {x C f : Addr} {ox : Obj} {od : Option Obj} {b tb : Value}
/-- x + t: the def of x, t a tuple -/
theorem add_tup {Q : Value → Shared → Prop} (X : K.In s.heap) (I : PySem.W.InstAt s.heap x ox C od) (hb : PySem.W.Looks (model prog w) s.heap (typeOf b) (.type "tuple")) (hc : PySem.W.selfFirst K C = true)
    (hs : PySem.W.findIn K (.ref C) "__add__" = some (some (.ref f))) (hf : PySem.W.isFn K (.ref f) = true) (h : wpAny (model prog w) A (call (.ref f) [.ref x, b]) (PySem.W.CmpBack Q) E s) : wpAny (model prog w) A (binaryOp .Add (.ref x) b) Q E s := by
  obtain ⟨cd, rest, hcd, hm⟩ := PySem.W.ksp_first hc
  have one := PySem.W.ksp_try (name := "__add__") X I hs hf h
  have L3 : PySem.W.Looks (model prog w) s.heap (fillsNumberSlot (.ref C) "add") true := PySem.W.fills_K X hcd hm hs
  have hne : (Value.ref C == Value.type "tuple") = false := Bool.eq_false_iff.mpr fun q => by cases beq_iff_eq.mp q
  unfold binaryOp
  refine wpAny_holding (wpAny_bind ?_)
  show wpAny _ _ (binaryOp1 "add" (.ref x) b) _ _ _
  unfold binaryOp1
  refine wpAny_bind (I.type.here (wpAny_bind (hb.here (wpAny_bind (L3.here ?_)))))
  simp only [hne, Bool.false_eq_true, if_false]
  refine wpAny_bind (wpAny_of_eq noFill_tuple_add ?_)
  simp only [Bool.and_false, Bool.false_eq_true, if_false, Bool.false_and]
  refine wpAny_bind (wpAny_pure ?_)
  simp only [Bool.false_eq_true, if_false, if_true]
  refine wpAny_bind (m := tryMethod (.ref x) _ b) (wpAny_mono one (fun r s' z => ?_) fun _ _ e => e)
  obtain ⟨v, rfl, hq⟩ := z
  exact wpAny_pure (wpAny_pure hq)
end
end RK
/-! S22 -/
set_option Elab.async false
set_option linter.all false
set_option maxRecDepth 100000
set_option maxHeartbeats 2000000
namespace RL
open PySem PySem.Spec PyProof.Rows L2
section
variable {X : Cx} {CX : CXT} {C g : Addr} {n : Nat} {sp : Sp} {E : XK} {fd : FuncData} {ps : List Str}
/-- a def that runs below the running body -/
theorem run_below {pins : List (Addr × Obj)} {σ : L2.St} {H : Hp} {s : Shared} {A : Around} {Q : VK} {us : List Value} {ws : List V} (F : FnOk X.prog X.w X.K X.mg X.base CX n g fd ps sp) (hr : Room n A) (e0 : Env0 X.prog X.w X.K X.mg X.base A X.stack s H) (hb : Binds X.K fd ps []) (hx : Passes CX X E)
    (I : Inv X pins σ H s) (r : Vals ws us) (h : sp ws H Q E) : wpAny (model X.prog X.w) A (call (.ref g) us) (EP X pins σ Q) X.xe s := by
  have hl : us.length = ps.length := by rw [← r.length]; exact F.len _ _ _ _ h
  have b := hb s us I.kIn (by rw [List.append_nil]; exact hl)
  rw [List.append_nil] at b
  refine wpAny_call (codeAny_mono (F.run A X.stack s H ⟨us, []⟩ us ws Q E hr e0 b r h) fun r s' hq => ?_)
  cases r with
  | error e => exact hx pins σ H s e s' I hq
  | ok fl =>
    cases fl with
    | ret u => exact I.after hq
    | next => exact False.elim hq
    | brk => exact False.elim hq
    | cont => exact False.elim hq
theorem ty_of {pins : List (Addr × Obj)} {σ : L2.St} {H : Hp} {s : Shared} {y : V} {u t : Value} (I : Inv X pins σ H s) (r : RelV y u) (ty : TyX X.K H y t) : PySem.W.Looks (model X.prog X.w) s.heap (typeOf u) t := by
  obtain ⟨P, k, hp, _⟩ := kit_of I r ty
  exact k.ty _ _ I.kIn hp
theorem ins_at {pins : List (Addr × Obj)} {σ : L2.St} {H : Hp} {s : Shared} {a dx : Addr} {fs : List (Str × V)} (I : Inv X pins σ H s) (h : H a = some (.ins C dx fs)) : ∃ ox od, PySem.W.InstAt s.heap a ox C od := by
  obtain ⟨mA, O, _, _, _, _⟩ := ins_get I.hok h
  obtain ⟨od, J, _⟩ := O.look
  exact ⟨_, _, J⟩
/-- x == y by the def of x's class -/
def rEqO (K : PySem.W.Frag) (C : Addr) (sp : Sp) (E : XK) : R2 := fun x y H Q => ∃ a dx fs t, x = .ref a ∧ H a = some (.ins C dx fs) ∧ TyX K H y t ∧ PySem.W.notFirst K C t = true ∧ sp [x, y] H Q E
theorem op_eqO (hs : PySem.W.findIn X.K (.ref C) "__eq__" = some (some (.ref g))) (hf : PySem.W.isFn X.K (.ref g) = true) (F : FnOk X.prog X.w X.K X.mg X.base CX n g fd ps sp) (hr : Room n X.A) (hb : Binds X.K fd ps []) (hx : Passes CX X E) : OpR X (compareOp .Eq) (rEqO X.K C sp E) := by
  intro pins s σ H x y v u Q I rx ry h
  obtain ⟨a, dx, fs, t, rfl, ha, ty, hn, q⟩ := h
  obtain ⟨ox, od, J⟩ := ins_at I ha
  cases (show v = Value.ref a from rx)
  obtain ⟨m, hF⟩ := I.fr
  show wpAny _ _ (richCompare .Eq (.ref a) u) _ _ _
  refine PySem.W.cmp_K (op := .Eq) (tb := t) hr.units0 hF I.ok.mod.kin J (ty_of I ry ty) hn hs hf ?_
  refine wpAny_mono (run_below F hr I.env0 hb hx I (.cons rx (.cons ry .nil)) q) (fun w s' z => ?_) fun _ _ x => x
  obtain ⟨z', H', I', rz, qz⟩ := z
  exact SlX.cmpback rz ⟨z', H', I', rz, qz⟩
/-- x != y: not what == says -/
def rNeO (K : PySem.W.Frag) (C : Addr) (sp : Sp) (E : XK) : R2 := fun x y H Q => ∃ a dx fs t, x = .ref a ∧ H a = some (.ins C dx fs) ∧ TyX K H y t ∧ PySem.W.notFirst K C t = true ∧ sp [x, y] H (fun z H' => ∃ k, z = .bl k ∧ Q (.bl (!k)) H') E
theorem op_neO (hm : PySem.W.mroIn X.K C (.type "object") = some true) (hs : PySem.W.findIn X.K (.ref C) "__eq__" = some (some (.ref g))) (hne : PySem.W.findIn X.K (.ref C) "__ne__" = some (some (.builtin "object.__ne__"))) (hf : PySem.W.isFn X.K (.ref g) = true)
    (F : FnOk X.prog X.w X.K X.mg X.base CX n g fd ps sp) (hr : Room (n + 1) X.A) (hb : Binds X.K fd ps []) (hx : Passes CX X E) : OpR X (compareOp .NotEq) (rNeO X.K C sp E) := by
  intro pins s σ H x y v u Q I rx ry h
  obtain ⟨a, dx, fs, t, rfl, ha, ty, hn, q⟩ := h
  obtain ⟨ox, od, J⟩ := ins_at I ha
  cases (show v = Value.ref a from rx)
  show wpAny _ _ (richCompare .NotEq (.ref a) u) _ _ _
  refine RK.ne_own (tb := t) (Nat.lt_of_le_of_lt (Nat.add_le_add_left (by decide : 1 ≤ 64) _) hr.units) I.kIn J hm (ty_of I ry ty) hn hs hne hf ?_
  refine wpAny_mono (run_below F hr.in1 I.env0.in1 hb hx I (.cons rx (.cons ry .nil)) q) (fun w s' z => ?_) fun _ _ x => x
  obtain ⟨z', H', I', rz, k, rfl, qz⟩ := z
  cases (show w = Value.bool k from rz)
  exact ⟨k, rfl, .bl (!k), H', I', rfl, qz⟩
/-- x + t, t a tuple, by the def of x's class -/
def rAddO (K : PySem.W.Frag) (C : Addr) (sp : Sp) (E : XK) : R2 := fun x y H Q => ∃ a dx fs, x = .ref a ∧ H a = some (.ins C dx fs) ∧ TyX K H y (.type "tuple") ∧ sp [x, y] H Q E
theorem op_addO (hc : PySem.W.selfFirst X.K C = true) (hs : PySem.W.findIn X.K (.ref C) "__add__" = some (some (.ref g))) (hf : PySem.W.isFn X.K (.ref g) = true) (F : FnOk X.prog X.w X.K X.mg X.base CX n g fd ps sp) (hr : Room n X.A) (hb : Binds X.K fd ps []) (hx : Passes CX X E) :
    OpR X (binaryOp .Add) (rAddO X.K C sp E) := by
  intro pins s σ H x y v u Q I rx ry h
  obtain ⟨a, dx, fs, rfl, ha, ty, q⟩ := h
  obtain ⟨ox, od, J⟩ := ins_at I ha
  cases (show v = Value.ref a from rx)
  refine RK.add_tup I.kIn J (ty_of I ry ty) hc hs hf ?_
  refine wpAny_mono (run_below F hr I.env0 hb hx I (.cons rx (.cons ry .nil)) q) (fun w s' z => ?_) fun _ _ x => x
  obtain ⟨z', H', I', rz, qz⟩ := z
  exact SlX.cmpback rz ⟨z', H', I', rz, qz⟩
/-- len(x) by the def of x's class -/
def rLenO (C : Addr) (sp : Sp) (E : XK) : List V → Hp → VK → Prop := fun xs H Q => ∃ a dx fs, xs = [V.ref a] ∧ H a = some (.ins C dx fs) ∧ sp [.ref a] H (fun z H' => ∃ i : Int, z = .int i ∧ 0 ≤ i ∧ i < 2 ^ 63 ∧ Q (.int i) H') E
theorem call_lenO (hs : PySem.W.findIn X.K (.ref C) "__len__" = some (some (.ref g))) (hf : PySem.W.isFn X.K (.ref g) = true) (F : FnOk X.prog X.w X.K X.mg X.base CX n g fd ps sp) (hr : Room (n + 1) X.A) (hb : Binds X.K fd ps []) (hx : Passes CX X E) : CallR X (.builtin "len") (rLenO C sp E) := by
  intro pins s σ H xs us Q I r h
  obtain ⟨a, dx, fs, rfl, ha, q⟩ := h
  obtain ⟨u, rfl, ru⟩ := r.one
  cases (show u = Value.ref a from ru)
  obtain ⟨ox, od, J⟩ := ins_at I ha
  obtain ⟨m, hF⟩ := I.fr
  refine PySem.W.len_K hF I.ok.mod.kin J hs hf ?_
  refine wpAny_mono (run_below (ws := [.ref a]) F hr.in1 I.env0.in1 hb hx I (.cons rfl .nil) q) (fun w s' z => ?_) fun _ _ x => x
  obtain ⟨z', H', I', rz, i, rfl, i0, i1, qz⟩ := z
  obtain ⟨t, e⟩ := (show ∃ t, w = Value.int i t from rz)
  cases e
  exact ⟨⟨i0, i1⟩, .int i, H', I'.tok _, ⟨_, rfl⟩, qz⟩
/-- str(x) by the def of x's class -/
def rStrO (C : Addr) (sp : Sp) (E : XK) : List V → Hp → VK → Prop := fun xs H Q => ∃ a dx fs, xs = [V.ref a] ∧ H a = some (.ins C dx fs) ∧ sp [.ref a] H (fun z H' => ∃ i : Str, z = .str i ∧ Q (.str i) H') E
theorem call_strO (hs : PySem.W.findIn X.K (.ref C) "__str__" = some (some (.ref g))) (hf : PySem.W.isFn X.K (.ref g) = true) (F : FnOk X.prog X.w X.K X.mg X.base CX n g fd ps sp) (hr : Room (n + 2) X.A) (hb : Binds X.K fd ps []) (hx : Passes CX X E) : CallR X (.type "str") (rStrO C sp E) := by
  intro pins s σ H xs us Q I r h
  obtain ⟨a, dx, fs, rfl, ha, q⟩ := h
  obtain ⟨u, rfl, ru⟩ := r.one
  cases (show u = Value.ref a from ru)
  obtain ⟨ox, od, J⟩ := ins_at I ha
  have hr2 : Room n X.A.in1.in1 := (show Room (n + 1) X.A.in1 from Room.in1 hr).in1
  refine PySem.W.kso_call hr2.units0 I.kIn J hs hf ?_
  refine wpAny_mono (run_below (ws := [.ref a]) F hr2 I.env0.in1.in1 hb hx I (.cons rfl .nil) q) (fun w s' z => ?_) fun _ _ x => x
  obtain ⟨z', H', I', rz, i, rfl, qz⟩ := z
  obtain ⟨t, e⟩ := (show ∃ t, w = Value.str i t from rz)
  cases e
  exact ⟨.str i, H', I', ⟨_, rfl⟩, qz⟩
end
end RL
/-! S23 -/
set_option Elab.async false
set_option linter.all false
set_option maxRecDepth 100000
set_option maxHeartbeats 2000000
namespace RL
open PySem PySem.Spec PyProof.Rows L2
/-- t * k, t not empty, together at most a million letters -/
def rRepW (K : PySem.W.Frag) : R2 := fun x y H Q => ∃ l k xs, x = .ref l ∧ y = .int k ∧ SqT K H l xs ∧ xs ≠ [] ∧ -(2 ^ 62) ≤ k ∧ k ≤ 1000000 ∧ xs.length ≤ 1000 ∧ xs.length * k.toNat ≤ 1000000 ∧ NewT K H Q (List.replicate k.toNat xs).flatten
theorem op_repW {X : Cx} : OpR X (binaryOp .Mult) (rRepW X.K) := by
  intro pins s σ H x y v u Q I rx ry h
  obtain ⟨l, k, xs, rfl, rfl, hT, hne, h1, h2, hz, hp, q⟩ := h
  rcases Int.lt_or_le 1 k with hk | hk
  · cases rx
    obtain ⟨tk, rfl⟩ := ry
    obtain ⟨its, r, ⟨⟨cl, dd, dt, sl⟩, ho, hc, cap, hd⟩, _⟩ := I.tuple hT
    obtain rfl : cl = .type "tuple" := hc
    obtain rfl : dt = .seq its.toArray cap := hd
    have len : its.length = xs.length := r.length.symm
    have some_ : 0 < its.length := by rw [len]; exact List.length_pos_iff.mpr hne
    have empty : its.toArray.isEmpty = false := by
      cases its with
      | nil => cases some_
      | cons a b => rfl
    have all : (List.replicate k.toNat its).flatten.length ≤ sizeLine := by
      rw [PyProof.Rows.lm_len_rep_flat, len, sizeLine_eq, Nat.mul_comm]
      omega
    have prod : ((its.toArray.size : Nat) : Int) * k ≤ 1000000 := by
      have e : ((its.toArray.size : Nat) : Int) * k = ((xs.length * k.toNat : Nat) : Int) := by
        rw [List.size_toArray, len, Int.natCast_mul, Int.toNat_of_nonneg (by omega)]
      rw [e]
      omega
    have mul := tuple_mulW l its.toArray cap dd sl k tk (by rw [decide_eq_false (by omega), decide_eq_false (by omega)]; rfl) (by rw [empty, Bool.false_or]; exact beq_eq_false_iff_ne.mpr (by omega)) (by rw [empty, Bool.or_false]; exact decide_eq_false (by omega)) (by omega)
      (by unfold Builtin.Tuple.tupleTooMany; rw [sizeLine_eq]; exact decide_eq_false (by omega)) (by rw [size_rep, List.size_toArray]; exact all)
    refine wpAny_binaryOp_repeat_ref (T := "tuple") (U := "int") (by decide) ⟨_, ho, rfl⟩ (fun s' => typeIs_int s' k tk) noFill_tuple_mul F.fills_int_mul F.slot_int_rmul repeat_tuple F.slot_int_index.lookup
      (call_meets F.slot_int_rmul (typeIs_int s k tk) F.entry_int_rmul (F.args_int_rmul_2 _ _) (int_rmul_tuple k tk l its.toArray cap dd sl) ⟨ho, rfl, ⟨_, ho, rfl⟩, call_meets F.slot_tuple_mul ⟨_, ho, rfl⟩ F.entry_tuple_mul (F.args_tuple_mul_2 _ _) mul ⟨ho, ?_⟩⟩)
    rw [size_rep]
    refine ⟨.ref s.heap.objs.size, _, I.laid (t' := s.toks) (o := .tup (List.replicate k.toNat xs).flatten) (fun b ob z => Heap.get?_push_of_some _ z) (Nat.le_refl _) ⟨?_, _, r.rep k.toNat, IsTup.new _ _⟩, rfl, q.al _ (I.hok.fresh (Nat.le_refl _))⟩
    rw [PyProof.Rows.lm_len_rep_flat, sizeLine_eq, Nat.mul_comm]
    omega
  · exact op_repS pins s σ H _ _ v u Q I rx ry ⟨l, k, xs, rfl, rfl, hT, h1, by omega, hz, q⟩
end RL
/-! S24 -/
set_option Elab.async false
set_option linter.all false
set_option maxRecDepth 100000
set_option maxHeartbeats 2000000
/-! a for of a generator's body -/
namespace RL
open PySem PySem.Spec PyProof.Rows L2 GenW
section
variable {M : Model} {A : Around} {R : GenEnd} {Y : Protocol} {n : Nat} {s₀ : Shared} {c : Code} {fs : List Frame} {s : Shared} {env : Env}
  {K : Flow → Sem PySem.Fin} {J : Value → Sem PySem.Fin} {gd : Bool → Bool} {lv : List Value → List Value}
theorem seg_For {target iter : Expr} {body orelse : List Stmt} {pos : Pos}
    (h : wpAny M (A.over c fs) (eval iter env) (fun x s₁ => wpAny M (A.over c fs) (pyIter x) (fun it s₂ =>
      ∀ p, Seg M A R Y n s₀ (.forLoop target it body orelse env) (M.den (.forLoop target it body orelse env))
        (.ret (fun r => ((match r with | .ok f => (.pure f : Sem Flow) | .error e => .raise e).onRaise (cameBack env)).wrap K J gd lv) none (gd false) (lv []) c p [] :: fs) s₂)
      (fun x s' => Seg M A R Y n s₀ c (J x) fs s') s₁) (fun x s' => Seg M A R Y n s₀ c (J x) fs s') s)
    (hs : ∀ x, foldedSetIterable iter env x = pure x) :
    Seg M A R Y n s₀ c ((exec (.For target iter body orelse pos) env).wrap K J gd lv) fs s := by
  rw [exec_For]
  refine seg_bind_wrap (wpAny_standAt (seg_bind_wrap (wpAny_mono h (fun x s1 h1 => ?_) fun _ _ z => z)))
  refine seg_bind_wrap (wpAny_of_eq (hs x) (seg_bind_wrap (wpAny_standAt (seg_bind_wrap (wpAny_holding (wpAny_mono h1 (fun it s2 h2 => ?_) fun _ _ z => z))))))
  exact seg_call h2
end
section
variable {prog : Program} {w : World} {A : Around} {R : GenEnd} {Y : Protocol} {n : Nat} {s₀ : Shared} {fs : List Frame} {s : Shared} {env : Env}
theorem seg_block_nil (h : Seg (model prog w) A R Y n s₀ (.block [] env) (.pure (.done .next)) fs s) : Seg (model prog w) A R Y n s₀ (.block [] env) ((model prog w).den (.block [] env)) fs s := h
theorem seg_forLoop {target : Expr} {it : Value} {body : List Stmt}
    (h : wpAny (model prog w) (A.over (.forLoop target it body [] env) fs) (pyNext it) (fun r s1 => match r with
        | none => Seg (model prog w) A R Y n s₀ (.forLoop target it body [] env) (.pure (.again (.block [] env))) fs s1
        | some v => wpAny (model prog w) (A.over (.forLoop target it body [] env) fs) (letOwnedTupleGo target it v) (fun _ s1' =>
            wpAny (model prog w) (A.over (.forLoop target it body [] env) fs) (assign target env v) (fun _ s2 =>
              Seg (model prog w) A R Y n s₀ (.forLoop target it body [] env) ((execs body env).wrap (fun f => match f with
                | .next | .cont => .pure (.again (.forLoop target it body [] env))
                | .brk => .pure (.done .next)
                | .ret v => .pure (.done (.ret v))) (fun e => (do noteFrame e env; theTreesLotGoes e : Sem Unit).wrap (fun _ => .raise e) .raise id id) id id) fs s2)
              (fun x s' => Seg (model prog w) A R Y n s₀ (.forLoop target it body [] env) ((do noteFrame x env; theTreesLotGoes x : Sem Unit).wrap (fun _ => .raise x) .raise id id) fs s') s1')
            (fun x s' => Seg (model prog w) A R Y n s₀ (.forLoop target it body [] env) ((do noteFrame x env; theTreesLotGoes x : Sem Unit).wrap (fun _ => .raise x) .raise id id) fs s') s1)
      (fun x s' => Seg (model prog w) A R Y n s₀ (.forLoop target it body [] env) ((do noteFrame x env; theTreesLotGoes x : Sem Unit).wrap (fun _ => .raise x) .raise id id) fs s') s) :
    Seg (model prog w) A R Y n s₀ (.forLoop target it body [] env) ((model prog w).den (.forLoop target it body [] env)) fs s := by
  show Seg _ A R Y n s₀ _ ((forTurn target it body [] env).onRaise (fun x => do noteFrame x env; theTreesLotGoes x)) fs s
  have e : ((forTurn target it body [] env).onRaise (fun x => do noteFrame x env; theTreesLotGoes x)) = (forTurn target it body [] env).wrap .pure (fun e => (do noteFrame e env; theTreesLotGoes e : Sem Unit).wrap (fun _ => .raise e) .raise id id) id id := by
    rw [Sem.onRaise_eq_wrap]
    exact Sem.wrap_congr _ _ _ (fun f => rfl) (fun e => Sem.bind_eq_wrap _ _)
  rw [e]
  unfold forTurn
  refine seg_bind_wrap (wpAny_standAt (seg_bind_wrap (wpAny_onRaise (wpAny_mono h (fun r s1 h1 => ?_) fun _ _ z => wpAny_standAt z))))
  cases r with
  | none => exact h1
  | some v =>
    refine seg_bind_wrap (wpAny_mono h1 (fun _ s2 h2 => seg_bind_wrap (wpAny_mono h2 (fun _ s3 h3 => ?_) fun _ _ z => z)) fun _ _ z => z)
    rw [Sem.bind_eq_wrap', Sem.wrap_wrap]
    refine Eq.mpr (congrArg (fun t => Seg (model prog w) A R Y n s₀ (.forLoop target it body [] env) t fs s3) (Sem.wrap_congr (execs body env) _ _ (K' := fun f => match f with
            | .next | .cont => .pure (.again (.forLoop target it body [] env))
            | .brk => .pure (.done .next)
            | .ret v => .pure (.done (.ret v))) (H' := (fun e => (do noteFrame e env; theTreesLotGoes e : Sem Unit).wrap (fun _ => .raise e) .raise id id))
        (fun f => by cases f <;> rfl) (fun e => rfl))) h3
end
/-- as tFor, by what is out so far -/
def tGFor (wi : TI) (g : TG) (tb : TGn) : TGn := fun D ys σ H => wi σ H fun J H1 => ∃ W : Nat → Nat → List V → L2.St → Hp → Prop, (∃ m, W 0 m ys σ H1) ∧ ∀ i m ys σ H, W i m ys σ H →
  (J.stop i H ∧ D.nx ys σ H) ∨ (J.go i H ∧ ∃ N : List V → L2.St → Hp → Prop, (∀ ys' σ' H', N ys' σ' H' → ∃ m', m' < m ∧ W (i + 1) m' ys' σ' H') ∧ ∀ x H', J.yld i H x H' → g x σ H' fun σ2 H2 => tb { D with nx := N, ct := N, bk := D.nx } ys σ2 H2)
section
variable {X : Cx}
theorem gs_for {tg iter : Expr} {body : List Stmt} {pos : Pos} {wi : TI} {g : TG} {tb : TGn} (hp : PassesOwn (model X.prog X.w) X.A X.env X.xe) (hc : X.calm = true) (hi : PI X tg iter wi) (hg : PG X tg g) (hb : GSs X body tb)
    (hs : ∀ x, foldedSetIterable iter X.env x = pure x := by intro _; rfl) : GS X (.For tg iter body [] pos) (tGFor wi g tb) := by
  refine ⟨fun A S ip R n ys s₀ c fs K J gd lv s σ H D gc hn k hI ht => ?_⟩
  obtain ⟨acc, cc, r, I⟩ := hI
  refine seg_For ?_ hs
  rw [gc.over]
  refine wpAny_mono (hi.run _ s σ H _ I ht) (fun v s1 h1 => wpAny_mono h1 (fun itv s2 h2 => ?_) fun x s' hx => k.exc n s₀ x s' hx) fun x s' hx => k.exc n s₀ x s' hx
  obtain ⟨it, fp, tn, Jt, H2, e, I2, T, st2, f2, W, ⟨m0, w0⟩, turn⟩ := h2
  subst e
  intro p
  have gl := fun (kk : Result → Sem PySem.Fin) => gc_loop (k := kk) (c' := .forLoop tg (.ref it) body [] X.env) (l := lv []) (kp := []) (p := p) gc rfl rfl
  -- what stays true of the iterator's objects through the loop
  have nS : ∀ b ∈ fp, S ≠ b := fun b hb => (f2 b hb).2.2.2.2.2 (S, lstObj acc cc) (List.mem_append_right _ List.mem_cons_self)
  have stat : ∀ {H' : Hp} {acc' : Array Value} {cc' : Nat}, (∀ b ∈ fp, H' b = none) → ∀ b ∈ fp, FpOk X ((S, lstObj acc' cc') :: ip) H' b := fun hn b hb => by
    obtain ⟨_, q2, q3, q4, q5, q6⟩ := f2 b hb
    refine ⟨hn b hb, q2, q3, q4, q5, fun p hp => ?_⟩
    rcases List.mem_append.mp hp with hp | hp
    · exact q6 p (List.mem_append_left _ hp)
    · rcases List.mem_cons.mp hp with hp | hp
      · rw [hp]; exact nS b hb
      · exact q6 p (List.mem_append_right _ (List.mem_cons_of_mem _ hp))
  have loop : ∀ (m i n : Nat) (ys : List V) (s₀ s : Shared) (σ : L2.St) (H : Hp), n + ys.length = sizeLine → W i m ys σ H → GI X S ip ys σ H s → tn i s.heap → (∀ b ∈ fp, H b = none) →
      Seg (model X.prog X.w) A R (GY X S) n s₀ (.forLoop tg (.ref it) body [] X.env) ((model X.prog X.w).den (.forLoop tg (.ref it) body [] X.env))
        (.ret (fun r => ((match r with | .ok f => (.pure f : Sem Flow) | .error e => .raise e).onRaise (cameBack X.env)).wrap K J gd lv) none (gd false) (lv []) c p [] :: fs) s := by
    intro m
    induction m using Nat.strongRecOn with
    | ind m ih =>
      intro i n ys s₀ s σ H hn w hI st fr
      have ee : ∀ (n : Nat) (s₀ : Shared) (x : Value) (s' : Shared), X.xe x s' → Seg (model X.prog X.w) A R (GY X S) n s₀ (.forLoop tg (.ref it) body [] X.env)
          ((do noteFrame x X.env; theTreesLotGoes x : Sem Unit).wrap (fun _ => .raise x) .raise id id)
          (.ret (fun r => ((match r with | .ok f => (.pure f : Sem Flow) | .error e => .raise e).onRaise (cameBack X.env)).wrap K J gd lv) none (gd false) (lv []) c p [] :: fs) s' := fun n s₀ x s' hx => by
        refine seg_wrap ?_
        rw [(gl _).over]
        refine wpAny_bind (wpAny_mono (hp x s' hx) (fun _ s'' hcb => wpAny_theTreesLotGoes ?_) fun y s'' hcb => ?_)
        · exact seg_leaf (.error x) (seg_cameBack gc k hcb)
        · exact seg_leaf (.error y) (seg_cameBack gc k hcb)
      refine seg_forLoop ?_
      rw [(gl _).over]
      obtain ⟨acc, cc, r, I⟩ := hI
      rcases turn i m ys σ H w with ⟨stop, qn⟩ | ⟨go, N, hN, step⟩
      · refine wpAny_mono (T.done X rfl rfl rfl hc i _ s σ H X.xe I (stat fr) st stop) (fun rr s4 h4 => ?_) fun x s' hx => ee n s₀ x s' hx
        obtain ⟨rfl, I4⟩ := h4
        refine seg_again rfl (seg_block_nil ?_)
        exact seg_leaf (.ok .next) (k.ok n ys s₀ s4 .next hn ⟨σ, H, ⟨acc, cc, r, I4⟩, qn⟩)
      · refine wpAny_mono (T.item X rfl rfl rfl hc i _ s σ H X.xe I (stat fr) st go) (fun rr s4 h4 => ?_) fun x s' hx => ee n s₀ x s' hx
        obtain ⟨u, rfl, h4⟩ := h4
        refine wpAny_mono h4 (fun _ s5 h5 => ?_) fun x s' hx => ee n s₀ x s' hx
        obtain ⟨x, H5, I5, r5, y5, st5, fr5⟩ := h5
        have I5' : Inv X ((S, lstObj acc cc) :: (ip ++ pinsAt fp s5.heap)) σ H5 s5 := I5.pinned (stat fr5) (T.obj _ _ st5)
        refine wpAny_mono (hg.run _ s5 σ H5 x u _ I5' r5 (step x H5 y5)) (fun _ s6 h6 => ?_) fun x s' hx => ee n s₀ x s' hx
        obtain ⟨σ6, H6, I6, q6⟩ := h6
        have gl' : GC X S (ip ++ pinsAt fp s5.heap) A (.forLoop tg (.ref it) body [] X.env) (.ret (fun r => ((match r with | .ok f => (.pure f : Sem Flow) | .error e => .raise e).onRaise (cameBack X.env)).wrap K J gd lv) none (gd false) (lv []) c p [] :: fs) id :=
          { gl _ with ip := fun q hq => (List.mem_append.mp hq).elim (gc.ip q) fun z => Ne.symm (nS q.1 (of_pinsAt z).1) }
        have back : ∀ {ys' : List V} {σ7 : L2.St} {H7 : Hp} {s7 : Shared}, GI X S (ip ++ pinsAt fp s5.heap) ys' σ7 H7 s7 → GI X S ip ys' σ7 H7 s7 ∧ tn (i + 1) s7.heap ∧ ∀ b ∈ fp, H7 b = none := fun {ys' σ7 H7 s7} h7 => by
          obtain ⟨acc7, cc7, r7, I7⟩ := h7
          refine ⟨⟨acc7, cc7, r7, I7.pins_of fun q hq => I7.pin q (List.mem_append_right _ ?_)⟩, T.keep _ _ _ st5 fun b hb o e => (I7.pin (b, o) (List.mem_append_right _ (List.mem_cons_of_mem _ (List.mem_append_right _ (mem_pinsAt hb e))))).1, fun b hb => ?_⟩
          · rcases List.mem_cons.mp hq with z | z
            · rw [z]; exact List.mem_cons_self
            · exact List.mem_cons_of_mem _ (List.mem_append_left _ z)
          · obtain ⟨o, e, d⟩ := T.obj _ _ st5 b hb
            exact (I7.pin (b, o) (List.mem_append_right _ (List.mem_cons_of_mem _ (List.mem_append_right _ (mem_pinsAt hb e))))).2.1
        refine hb.run A S (ip ++ pinsAt fp s5.heap) R n ys s₀ _ _ _ _ id id s6 σ6 H6 { D with nx := N, ct := N, bk := D.nx } gl' hn ⟨fun n' ys' s₀' s7 f hn' hs7 => ?_, fun n' s₀' x s7 hx => ee n' s₀' x s7 hx⟩ ⟨acc, cc, r, I6⟩ q6
        cases f with
        | next =>
          obtain ⟨σ7, H7, I7, n7⟩ := hs7
          obtain ⟨m', hm, w7⟩ := hN ys' σ7 H7 n7
          obtain ⟨b1, b2, b3⟩ := back I7
          exact seg_again rfl (ih m' hm (i + 1) n' ys' s₀' s7 σ7 H7 hn' w7 b1 b2 b3)
        | cont =>
          obtain ⟨σ7, H7, I7, n7⟩ := hs7
          obtain ⟨m', hm, w7⟩ := hN ys' σ7 H7 n7
          obtain ⟨b1, b2, b3⟩ := back I7
          exact seg_again rfl (ih m' hm (i + 1) n' ys' s₀' s7 σ7 H7 hn' w7 b1 b2 b3)
        | brk =>
          obtain ⟨σ7, H7, I7, n7⟩ := hs7
          exact seg_leaf (.ok .next) (k.ok n' ys' s₀' s7 .next hn' ⟨σ7, H7, (back I7).1, n7⟩)
        | ret v =>
          obtain ⟨x7, σ7, H7, I7, rv, n7⟩ := hs7
          exact seg_leaf (.ok (.ret v)) (k.ok n' ys' s₀' s7 (.ret v) hn' ⟨x7, σ7, H7, (back I7).1, rv, n7⟩)
  exact loop m0 0 n ys s₀ s2 σ H2 hn w0 ⟨acc, cc, r, I2⟩ st2 fun b hb => (f2 b hb).1
end
/-- over a range that is walked to its end -/
theorem gfor_range {lo : Int} {n : Nat} {g : TG} {tb : TGn} {D : GEnds} {ys : List V} {σ : L2.St} {H : Hp} (Pv : Nat → List V → L2.St → Hp → Prop) (h0 : Pv 0 ys σ H)
    (hs : ∀ i ys σ H, i < n → Pv i ys σ H → g (.int (lo + i)) σ H fun σ2 H2 => tb { D with nx := Pv (i + 1), ct := Pv (i + 1), bk := D.nx } ys σ2 H2) (hd : ∀ ys σ H, Pv n ys σ H → D.nx ys σ H) :
    ∃ W : Nat → Nat → List V → L2.St → Hp → Prop, (∃ m, W 0 m ys σ H) ∧ ∀ i m ys σ H, W i m ys σ H →
      ((Itr lo n).stop i H ∧ D.nx ys σ H) ∨ ((Itr lo n).go i H ∧ ∃ N : List V → L2.St → Hp → Prop, (∀ ys' σ' H', N ys' σ' H' → ∃ m', m' < m ∧ W (i + 1) m' ys' σ' H') ∧ ∀ x H', (Itr lo n).yld i H x H' → g x σ H' fun σ2 H2 => tb { D with nx := N, ct := N, bk := D.nx } ys σ2 H2) := by
  refine ⟨fun i m ys σ H => m = n - i ∧ i ≤ n ∧ Pv i ys σ H, ⟨n, by simp, Nat.zero_le _, h0⟩, ?_⟩
  rintro i m ys σ H ⟨rfl, hi, p⟩
  by_cases hlt : i < n
  · refine .inr ⟨hlt, Pv (i + 1), fun ys' σ' H' p' => ⟨n - (i + 1), by omega, rfl, hlt, p'⟩, fun x H' y => ?_⟩
    obtain ⟨e, y⟩ := y
    subst e y
    exact hs i ys σ _ hlt p
  · have e : i = n := by omega
    subst e
    exact .inl ⟨Nat.le_refl _, hd ys σ H p⟩
end RL
/-! S25 -/
set_option Elab.async false
set_option linter.all false
set_option maxRecDepth 100000
set_option maxHeartbeats 2000000
namespace RL
open PySem PySem.Spec PyProof.Rows L2
/-! ### rules for two kinds of values in one place -/
section
variable {X : Cx}
theorem op_or {f : Value → Value → Sem Value} {r r' : R2} (h : OpR X f r) (h' : OpR X f r') : OpR X f (fun x y H Q => r x y H Q ∨ r' x y H Q) :=
  fun pins s σ H x y v u Q I rx ry q => q.elim (h pins s σ H x y v u Q I rx ry) (h' pins s σ H x y v u Q I rx ry)
theorem callr_or {f : Value} {r r' : List V → Hp → VK → Prop} (h : CallR X f r) (h' : CallR X f r') : CallR X f (fun xs H Q => r xs H Q ∨ r' xs H Q) :=
  fun pins s σ H vs us Q I r q => q.elim (h pins s σ H vs us Q I r) (h' pins s σ H vs us Q I r)
theorem pg_unlK {K : PySem.W.Frag} (hK : X.K = K) {es : List Expr} {k : Nat} {t : TGs} {n : Nat} {pos : Pos} (hc : X.calm = true) (h : PGs X es t)
    (hn : (assignEach es X.env).length = n := by rfl) (hst : (assignEach es X.env).findIdx? (·.1) = none := by rfl) : PG X (.Tuple es k pos) (gUnl K n t) := hK ▸ pg_unl hc h hn hst
/-- len() of a tuple, a list, or by the def of the class -/
def rLenE (K : PySem.W.Frag) (C : Addr) (sp : Sp) (E : XK) : List V → Hp → VK → Prop := fun xs H Q => (∃ a ys, xs = [V.ref a] ∧ (SqL K H a ys ∨ SqT K H a ys) ∧ Q (.int (ys.length : Nat)) H) ∨ rLenO C sp E xs H Q
theorem call_lenE {K : PySem.W.Frag} (hK : X.K = K) {CX : CXT} {C g : Addr} {n : Nat} {sp : Sp} {E : XK} {fd : FuncData} {ps : List Str} (hs : PySem.W.findIn X.K (.ref C) "__len__" = some (some (.ref g))) (hf : PySem.W.isFn X.K (.ref g) = true) (F : FnOk X.prog X.w X.K X.mg X.base CX n g fd ps sp) (hr : Room (n + 1) X.A) (hb : Binds X.K fd ps []) (hx : Passes CX X E) :
    CallR X (.builtin "len") (rLenE K C sp E) := hK ▸ callr_or call_len_seq (call_lenO hs hf F hr hb hx)
/-- t + u of tuples, or by the def of the class -/
def rAddE (K : PySem.W.Frag) (C : Addr) (sp : Sp) (E : XK) : R2 := fun x y H Q => rCatS K x y H Q ∨ rAddO K C sp E x y H Q
theorem op_addE {K : PySem.W.Frag} (hK : X.K = K) {CX : CXT} {C g : Addr} {n : Nat} {sp : Sp} {E : XK} {fd : FuncData} {ps : List Str} (hc : PySem.W.selfFirst X.K C = true) (hs : PySem.W.findIn X.K (.ref C) "__add__" = some (some (.ref g))) (hf : PySem.W.isFn X.K (.ref g) = true) (F : FnOk X.prog X.w X.K X.mg X.base CX n g fd ps sp) (hr : Room n X.A) (hb : Binds X.K fd ps []) (hx : Passes CX X E) :
    OpR X (binaryOp .Add) (rAddE K C sp E) := hK ▸ op_or op_catS (op_addO hc hs hf F hr hb hx)
theorem sl_tupK {K : PySem.W.Frag} (hK : X.K = K) : SlR X (rSlU K) := hK ▸ sl_tupU
theorem sl_lstK {K : PySem.W.Frag} (hK : X.K = K) : SlR X (rSlV K) := hK ▸ sl_lstU
end
end RL
/-! E1 -/
set_option linter.all false
set_option maxRecDepth 100000
/-! endless words: T, then R again and again (both from the end) -/
namespace EW
def E (R T : List Int) (i : Nat) : Option Int := if i < T.length then T[i]? else R[(i - T.length) % R.length]?
theorem E_abs (R0 T0 : List Int) (x : Int) : E (x :: R0) T0 = E (R0 ++ [x]) (T0 ++ [x]) := by
  funext i
  unfold E
  rw [List.length_append, List.length_singleton, List.length_append, List.length_singleton, List.length_cons]
  rcases Nat.lt_trichotomy i T0.length with h | h | h
  · rw [if_pos h, if_pos (by omega), List.getElem?_append_left h]
  · subst h
    rw [if_neg (by omega), if_pos (by omega), Nat.sub_self, Nat.zero_mod, List.getElem?_append_right (Nat.le_refl _), Nat.sub_self]
    rfl
  · rw [if_neg (by omega), if_neg (by omega)]
    obtain ⟨j, rfl⟩ : ∃ j, i = T0.length + 1 + j := ⟨i - (T0.length + 1), by omega⟩
    have e1 : T0.length + 1 + j - T0.length = j + 1 := by omega
    have e2 : T0.length + 1 + j - (T0.length + 1) = j := by omega
    rw [e1, e2]
    have hm : j % (R0.length + 1) < R0.length + 1 := Nat.mod_lt j (Nat.succ_pos R0.length)
    rcases Nat.lt_or_ge (j % (R0.length + 1)) R0.length with g | g
    · have e3 : (j + 1) % (R0.length + 1) = j % (R0.length + 1) + 1 := by
        rw [Nat.add_mod]
        rcases Nat.eq_zero_or_pos R0.length with z | z
        · omega
        · rw [Nat.mod_eq_of_lt (show 1 < R0.length + 1 by omega), Nat.mod_eq_of_lt (by omega)]
      rw [e3, List.getElem?_append_left g]
      rfl
    · have e3 : j % (R0.length + 1) = R0.length := by omega
      have e4 : (j + 1) % (R0.length + 1) = 0 := by
        have := Nat.div_add_mod j (R0.length + 1)
        rw [e3] at this
        have e5 : j + 1 = (R0.length + 1) * (j / (R0.length + 1) + 1) := by rw [Nat.mul_add]; omega
        rw [e5]
        exact Nat.mul_mod_right _ _
      rw [e3, e4, List.getElem?_append_right (Nat.le_refl _), Nat.sub_self]
      rfl
def Per (f : Nat → Option Int) (d : Nat) : Prop := ∀ i, f (i + d) = f i
theorem Per.mul {f : Nat → Option Int} {d : Nat} (h : Per f d) : ∀ k, Per f (d * k)
  | 0 => fun i => rfl
  | k + 1 => fun i => by rw [Nat.mul_succ, ← Nat.add_assoc, h, Per.mul h k]
theorem Per.sub {f : Nat → Option Int} {a b : Nat} (ha : Per f a) (hb : Per f b) (h : a ≤ b) : Per f (b - a) := fun i => by
  rw [← ha (i + (b - a))]
  have e : i + (b - a) + a = i + b := by omega
  rw [e, hb]
theorem Per.mod {f : Nat → Option Int} {a b : Nat} (ha : Per f a) (hb : Per f b) : Per f (b % a) := by
  have h := (ha.mul (b / a)).sub hb (Nat.mul_div_le b a)
  have e : b - a * (b / a) = b % a := by have := Nat.div_add_mod b a; omega
  rwa [e] at h
theorem Per.gcd {f : Nat → Option Int} {a b : Nat} (ha : Per f a) (hb : Per f b) : Per f (Nat.gcd a b) := by
  induction a, b using Nat.gcd.induction with
  | H0 n => rw [Nat.gcd_zero_left]; exact hb
  | H1 m n hm ih =>
    rw [Nat.gcd_rec]
    exact ih (ha.mod hb) ha
/-- two periodic words that agree long enough are one -/
theorem agree {f g : Nat → Option Int} {p q : Nat} (hp : Per f p) (hq : Per g q) (h : ∀ i, i < p + q → f i = g i) (hp0 : 0 < p) (hq0 : 0 < q) : ∀ n, f n = g n := by
  intro n
  induction n using Nat.strongRecOn with
  | _ n ih =>
    rcases Nat.lt_or_ge n (p + q) with l | l
    · exact h n l
    · have h1 := hq (n - q)
      have h2 := hp (n - q - p)
      have h3 := hq (n - p - q)
      have h4 := hp (n - p)
      rw [Nat.sub_add_cancel (by omega)] at h1 h2 h3 h4
      have e : n - q - p = n - p - q := by omega
      have k1 := ih (n - p) (by omega)
      have k2 := ih (n - q) (by omega)
      have k3 := ih (n - p - q) (by omega)
      rw [e] at h2
      exact h4.trans (k1.trans (h3.trans (k3.symm.trans (h2.symm.trans (k2.trans h1.symm)))))
theorem E_per (R : List Int) : Per (E R []) R.length := fun i => by
  unfold E
  simp
/-- no shorter period divides -/
def Prim (R : List Int) : Prop := R ≠ [] ∧ ∀ d, 0 < d → d ∣ R.length → Per (E R []) d → d = R.length
theorem shift (R T : List Int) (j : Nat) : E R T (T.length + j) = E R [] j := by
  unfold E
  rw [if_neg (by omega), if_neg (by simp)]
  simp
theorem E_eq {R S : List Int} (h : R.length = S.length) (e : ∀ i, E R [] i = E S [] i) : R = S := by
  refine List.ext_getElem? fun i => ?_
  rcases Nat.lt_or_ge i R.length with l | l
  · have := e i
    unfold E at this
    simp only [List.length_nil, Nat.not_lt_zero, if_false, Nat.sub_zero] at this
    rw [Nat.mod_eq_of_lt l, Nat.mod_eq_of_lt (h ▸ l)] at this
    exact this
  · rw [List.getElem?_eq_none l, List.getElem?_eq_none (h ▸ l)]
theorem per_le {f : Nat → Option Int} {a d : Nat} (h : Per f a) (hs : ∀ i, f (i + d) = f (i + d + a)) : True := trivial
/-- what no letter can be taken off -/
def Norm (R T : List Int) : Prop := Prim R ∧ ∀ x, T.getLast? = some x → R.getLast? ≠ some x
theorem norm_half {R S T U : List Int} (hR : Norm R T) (hS : Norm S U) (hl : T.length ≤ U.length) (h : ∀ i, i < U.length + R.length + S.length → E R T i = E S U i) : R = S ∧ T = U := by
  have r0 : 0 < R.length := List.length_pos_iff.mpr hR.1.1
  have s0 : 0 < S.length := List.length_pos_iff.mpr hS.1.1
  -- behind the longer tail both are periodic
  have pf : Per (fun j => E R T (U.length + j)) R.length := fun j => by
    obtain ⟨c, hc⟩ := Nat.exists_eq_add_of_le hl
    show E R T (U.length + (j + R.length)) = E R T (U.length + j)
    rw [hc, Nat.add_assoc, Nat.add_assoc, shift, shift, ← Nat.add_assoc, E_per]
  have pg : Per (fun j => E S U (U.length + j)) S.length := fun j => by
    show E S U (U.length + (j + S.length)) = E S U (U.length + j)
    rw [shift, shift, E_per]
  have ag := agree pf pg (fun i hi => h _ (by omega)) r0 s0
  -- so both have the common period, and so one length
  have pg2 : Per (fun j => E S U (U.length + j)) R.length := fun j => by
    exact (ag _).symm.trans ((pf j).trans (ag j))
  have pS : Per (E S []) (Nat.gcd R.length S.length) := fun j => by
    have : E S U (U.length + (j + Nat.gcd R.length S.length)) = E S U (U.length + j) := Per.gcd pg2 pg j
    rw [shift, shift] at this
    exact this
  have eS := hS.1.2 _ (Nat.gcd_pos_of_pos_left _ r0) (Nat.gcd_dvd_right _ _) pS
  obtain ⟨c, hc⟩ := Nat.exists_eq_add_of_le hl
  have pR : Per (E R []) (Nat.gcd R.length S.length) := by
    have p1 : Per (fun j => E R T (U.length + j)) (Nat.gcd R.length S.length) := fun j => by
      exact (ag _).trans ((Per.gcd pg2 pg j).trans (ag j).symm)
    -- moved to the ring's own beginning
    have p2 : ∀ j, E R [] (c + j + Nat.gcd R.length S.length) = E R [] (c + j) := fun j => by
      have : E R T (U.length + (j + Nat.gcd R.length S.length)) = E R T (U.length + j) := p1 j
      rw [hc, Nat.add_assoc, Nat.add_assoc, shift, shift] at this
      rw [Nat.add_assoc]
      exact this
    intro j
    have q := (E_per R).mul c
    have k := p2 (j + R.length * c - c)
    have le : c ≤ R.length * c := Nat.le_mul_of_pos_left c r0
    have e1 : c + (j + R.length * c - c) = j + R.length * c := by omega
    rw [e1] at k
    have e2 : j + R.length * c + Nat.gcd R.length S.length = j + Nat.gcd R.length S.length + R.length * c := by omega
    rw [e2, q, q] at k
    exact k
  have eR := hR.1.2 _ (Nat.gcd_pos_of_pos_left _ r0) (Nat.gcd_dvd_left _ _) pR
  have len : R.length = S.length := eR.symm.trans eS
  -- a longer tail would end as its ring does
  have c0 : c = 0 := by
    refine Nat.eq_zero_of_not_pos fun cp => ?_
    have hu : U ≠ [] := fun z => by rw [z] at hc; simp at hc; omega
    have k1 := h (U.length - 1) (by omega)
    have k2 := h (U.length - 1 + R.length) (by omega)
    have e1 : U.length - 1 = T.length + (c - 1) := by omega
    have e2 : U.length - 1 + R.length = T.length + (c - 1 + R.length) := by omega
    have f1 : E R T (U.length - 1) = E R [] (c - 1) := by rw [e1, shift]
    have f2 : E R T (U.length - 1 + R.length) = E R [] (c - 1) := by rw [e2, shift, E_per]
    have g1 : E S U (U.length - 1) = U.getLast? := by
      unfold E
      rw [if_pos (by omega), List.getLast?_eq_getElem?]
    have g2 : E S U (U.length - 1 + R.length) = S.getLast? := by
      have e3 : U.length - 1 + R.length = U.length + (S.length - 1) := by omega
      rw [e3, shift]
      unfold E
      simp only [List.length_nil, Nat.not_lt_zero, if_false, Nat.sub_zero]
      rw [Nat.mod_eq_of_lt (by omega), List.getLast?_eq_getElem?]
    rw [f1, g1] at k1
    rw [f2, g2] at k2
    cases e : U.getLast? with
    | none => exact hu (List.getLast?_eq_none_iff.mp e)
    | some x => exact hS.2 x e (k2.symm.trans (k1.trans e))
  have lenT : T.length = U.length := by omega
  refine ⟨E_eq len fun i => ?_, List.ext_getElem? fun i => ?_⟩
  · have : E R T (U.length + i) = E S U (U.length + i) := ag i
    rw [shift, ← lenT, shift] at this
    exact this
  · rcases Nat.lt_or_ge i T.length with l | l
    · have := h i (by omega)
      unfold E at this
      rw [if_pos l, if_pos (lenT ▸ l)] at this
      exact this
    · rw [List.getElem?_eq_none l, List.getElem?_eq_none (lenT ▸ l)]
/-- the normal form is one -/
theorem norm_uniq {R S T U : List Int} (hR : Norm R T) (hS : Norm S U) (h : ∀ i, i < max T.length U.length + R.length + S.length → E R T i = E S U i) : R = S ∧ T = U := by
  rcases Nat.le_total T.length U.length with l | l
  · exact norm_half hR hS l fun i hi => h i (by omega)
  · have := norm_half hS hR l fun i hi => (h i (by omega)).symm
    exact ⟨this.1.symm, this.2.symm⟩
end EW
/-! E2 -/
set_option linter.all false
set_option maxRecDepth 100000
namespace EW
def rep (n : Nat) (w : List Int) : List Int := (List.replicate n w).flatten
theorem rep_len (n : Nat) (w : List Int) : (rep n w).length = n * w.length := by simp [rep]
theorem rep_succ (n : Nat) (w : List Int) : rep (n + 1) w = w ++ rep n w := by simp [rep, List.replicate_succ]
theorem rep_rev (n : Nat) (w : List Int) : (rep n w).reverse = rep n w.reverse := by
  unfold rep
  rw [List.reverse_flatten, List.map_replicate, List.reverse_replicate]
theorem rep_at (w : List Int) : ∀ (n i : Nat), i < n * w.length → (rep n w)[i]? = w[i % w.length]?
  | 0, i, h => by simp at h
  | n + 1, i, h => by
    rw [rep_succ]
    rcases Nat.lt_or_ge i w.length with l | l
    · rw [List.getElem?_append_left l, Nat.mod_eq_of_lt l]
    · rw [List.getElem?_append_right l, rep_at w n (i - w.length) (by rw [Nat.succ_mul] at h; omega), Nat.mod_eq_sub_mod l]
theorem E_ring (R : List Int) (i : Nat) : E R [] i = R[i % R.length]? := by simp [E]
theorem E_rep (R : List Int) {n : Nat} (h : 0 < n) (hr : R ≠ []) : E (rep n R) [] = E R [] := by
  funext i
  have r0 : 0 < R.length := List.length_pos_iff.mpr hr
  rw [E_ring, E_ring, rep_len, rep_at R n _ (Nat.mod_lt _ (Nat.mul_pos h r0)), Nat.mul_comm, Nat.mod_mul_right_mod]
theorem E_tail {R S : List Int} (h : E R [] = E S []) (T : List Int) : E R T = E S T := by
  funext i
  unfold E
  split
  · rfl
  · have := congrFun h (i - T.length)
    rw [E_ring, E_ring] at this
    exact this
/-- the word is its first m letters again and again -/
def hasP (w : List Int) (m : Nat) : Bool := decide (w.length % m = 0) && decide (rep (w.length / m) (w.take m) = w)
theorem per_of {w : List Int} {d : Nat} (hd : 0 < d) (h : hasP w d = true) (hw : w ≠ []) : Per (E w.reverse []) d := by
  unfold hasP at h
  rw [Bool.and_eq_true, decide_eq_true_iff, decide_eq_true_iff] at h
  obtain ⟨h1, h2⟩ := h
  have l0 : 0 < w.length := List.length_pos_iff.mpr hw
  have dl : d ∣ w.length := Nat.dvd_of_mod_eq_zero h1
  have dle := Nat.le_of_dvd l0 dl
  have tl : (w.take d).length = d := by rw [List.length_take]; omega
  have tn : (w.take d).reverse ≠ [] := fun z => by
    have := congrArg List.length z
    rw [List.length_reverse, tl, List.length_nil] at this
    omega
  rw [← h2, rep_rev, E_rep _ (Nat.div_pos dle hd) tn]
  have := E_per (w.take d).reverse
  rw [List.length_reverse, tl] at this
  exact this
theorem of_per {w : List Int} {d : Nat} (hd : 0 < d) (dl : d ∣ w.length) (h : Per (E w.reverse []) d) (hw : w ≠ []) : hasP w d = true := by
  have l0 : 0 < w.length := List.length_pos_iff.mpr hw
  have dle := Nat.le_of_dvd l0 dl
  unfold hasP
  rw [Bool.and_eq_true, decide_eq_true_iff, decide_eq_true_iff]
  refine ⟨Nat.mod_eq_zero_of_dvd dl, ?_⟩
  have tl : (w.take d).length = d := by rw [List.length_take]; omega
  have ml : (rep (w.length / d) (w.take d)).length = w.length := by rw [rep_len, tl, Nat.div_mul_cancel dl]
  -- counted from the front, the letters come back too
  have front : ∀ i, i + d < w.length → w[i + d]? = w[i]? := fun i hi => by
    have q := h (w.length - 1 - (i + d))
    rw [E_ring, E_ring, List.length_reverse, Nat.mod_eq_of_lt (by omega), Nat.mod_eq_of_lt (by omega), List.getElem?_reverse (by omega), List.getElem?_reverse (by omega)] at q
    have e1 : w.length - 1 - (w.length - 1 - (i + d) + d) = i := by omega
    have e2 : w.length - 1 - (w.length - 1 - (i + d)) = i + d := by omega
    rw [e1, e2] at q
    exact q.symm
  have back : ∀ i, i < w.length → w[i]? = w[i % d]? := fun i => by
    induction i using Nat.strongRecOn with
    | _ i ih =>
      intro hi
      rcases Nat.lt_or_ge i d with l | l
      · rw [Nat.mod_eq_of_lt l]
      · have := front (i - d) (by omega)
        rw [Nat.sub_add_cancel l] at this
        rw [this, ih (i - d) (by omega) (by omega), ← Nat.mod_eq_sub_mod l]
  refine List.ext_getElem? fun i => ?_
  rcases Nat.lt_or_ge i w.length with l | l
  · rw [rep_at _ _ _ (by rw [← rep_len, ml]; exact l), tl, back i l, List.getElem?_take_of_lt (Nat.mod_lt _ hd)]
  · rw [List.getElem?_eq_none l, List.getElem?_eq_none (by rw [ml]; exact l)]
def rootL (w : List Int) : Nat := ((List.range' 1 (w.length - 1)).find? (hasP w)).getD w.length
def root (w : List Int) : List Int := w.take (rootL w)
theorem hasP_all {w : List Int} (hw : w ≠ []) : hasP w w.length = true := by
  have l0 : 0 < w.length := List.length_pos_iff.mpr hw
  unfold hasP
  rw [Nat.mod_self, Nat.div_self l0, List.take_length]
  simp [rep]
theorem rootL_spec {w : List Int} (hw : w ≠ []) : 0 < rootL w ∧ rootL w ≤ w.length ∧ hasP w (rootL w) = true ∧ ∀ d, 0 < d → d < rootL w → hasP w d = false := by
  have l0 : 0 < w.length := List.length_pos_iff.mpr hw
  unfold rootL
  cases e : (List.range' 1 (w.length - 1)).find? (hasP w) with
  | none =>
    rw [List.find?_eq_none] at e
    refine ⟨l0, Nat.le_refl _, hasP_all hw, fun d d0 d1 => ?_⟩
    have d1 : d < w.length := d1
    exact Bool.eq_false_iff.mpr (e d (List.mem_range'_1.mpr ⟨d0, by omega⟩))
  | some m =>
    have h1 := List.find?_some e
    obtain ⟨m0, m1⟩ := List.mem_range'_1.mp (List.mem_of_find?_eq_some e)
    refine ⟨m0, by show m ≤ _; omega, h1, fun d d0 d1 => ?_⟩
    have d1 : d < m := d1
    obtain ⟨_, l, r, el, hl⟩ := List.find?_eq_some_iff_append.mp e
    have hd : d ∈ List.range' 1 (w.length - 1) := List.mem_range'_1.mpr ⟨d0, by omega⟩
    have sorted : (List.range' 1 (w.length - 1)).Pairwise (· < ·) := List.pairwise_lt_range'
    rw [el] at hd sorted
    rcases List.mem_append.mp hd with z | z
    · have := hl d z
      simpa using this
    · rcases List.mem_cons.mp z with z | z
      · omega
      · have := (List.pairwise_cons.mp (List.pairwise_append.mp sorted).2.1).1 d z
        omega
theorem root_ne {w : List Int} (hw : w ≠ []) : root w ≠ [] := fun z => by
  have h := rootL_spec hw
  have := congrArg List.length z
  unfold root at this
  rw [List.length_take, List.length_nil] at this
  omega
theorem root_len {w : List Int} (hw : w ≠ []) : (root w).length = rootL w := by
  have h := rootL_spec hw
  unfold root
  rw [List.length_take]
  omega
theorem root_rep {w : List Int} (hw : w ≠ []) : rootL w ∣ w.length ∧ rep (w.length / rootL w) (root w) = w := by
  have h := (rootL_spec hw).2.2.1
  unfold hasP at h
  rw [Bool.and_eq_true, decide_eq_true_iff, decide_eq_true_iff] at h
  exact ⟨Nat.dvd_of_mod_eq_zero h.1, h.2⟩
theorem E_root {w : List Int} (hw : w ≠ []) : E (root w).reverse [] = E w.reverse [] := by
  have h := root_rep hw
  have l0 : 0 < w.length := List.length_pos_iff.mpr hw
  have hs := rootL_spec hw
  have e := E_rep (root w).reverse (n := w.length / rootL w) (Nat.div_pos hs.2.1 hs.1) (by simpa using root_ne hw)
  rw [← rep_rev, h.2] at e
  exact e.symm
theorem prim_root {w : List Int} (hw : w ≠ []) : Prim (root w).reverse := by
  refine ⟨by simpa using root_ne hw, fun d d0 dd hp => ?_⟩
  rw [List.length_reverse, root_len hw] at dd ⊢
  rw [E_root hw] at hp
  have hs := rootL_spec hw
  have dl : d ∣ w.length := Nat.dvd_trans dd (root_rep hw).1
  have := of_per d0 dl hp hw
  rcases Nat.lt_or_ge d (rootL w) with l | l
  · rw [hs.2.2.2 d d0 l] at this
    cases this
  · exact Nat.le_antisymm (Nat.le_of_dvd hs.1 dd) l
theorem root_prim {w : List Int} (h : Prim w.reverse) : root w = w := by
  have hw : w ≠ [] := by simpa using h.1
  have hs := rootL_spec hw
  have := h.2 (rootL w) hs.1 (by rw [List.length_reverse]; exact (root_rep hw).1) (per_of hs.1 hs.2.2.1 hw)
  rw [List.length_reverse] at this
  unfold root
  rw [this, List.take_length]
/-- the tail is taken into the ring, letter by letter -/
def absorb : List Int → List Int → List Int × List Int
  | r, [] => (r, [])
  | [], y :: t => ([], y :: t)
  | x :: r, y :: t => if y = x then absorb (r ++ [x]) t else (x :: r, y :: t)
theorem prim_rot {R0 : List Int} {x : Int} (h : Prim (R0 ++ [x])) : Prim (x :: R0) := by
  refine ⟨List.cons_ne_nil _ _, fun d d0 dd hp => ?_⟩
  have l : (R0 ++ [x]).length = (x :: R0).length := by simp
  have e : ∀ j, E (R0 ++ [x]) [] j = E (x :: R0) [] (j + 1) := fun j => by
    have q := congrFun (E_abs R0 [] x) (j + 1)
    rw [q]
    have := shift (R0 ++ [x]) ([] ++ [x]) j
    simp only [List.nil_append, List.length_singleton] at this ⊢
    rw [Nat.add_comm j 1, this]
  rw [← l]
  refine h.2 d d0 (by rw [l]; exact dd) fun i => ?_
  rw [e, e]
  have e2 : i + d + 1 = i + 1 + d := by omega
  rw [e2, hp]
theorem absorb_E : ∀ (r t : List Int), E (absorb r t).1.reverse (absorb r t).2.reverse = E r.reverse t.reverse
  | r, [] => by simp [absorb]
  | [], y :: t => by simp [absorb]
  | x :: r, y :: t => by
    unfold absorb
    split
    · rename_i e
      subst e
      rw [absorb_E (r ++ [y]) t, List.reverse_append, List.reverse_singleton, List.singleton_append, List.reverse_cons, List.reverse_cons]
      exact E_abs _ _ _
    · rfl
theorem absorb_norm : ∀ (r t : List Int), Prim r.reverse → Norm (absorb r t).1.reverse (absorb r t).2.reverse
  | r, [], h => by
    unfold absorb
    exact ⟨h, fun x z => by simp at z⟩
  | [], y :: t, h => absurd rfl h.1
  | x :: r, y :: t, h => by
    unfold absorb
    split
    · refine absorb_norm (r ++ [x]) t ?_
      rw [List.reverse_append, List.reverse_singleton, List.singleton_append]
      rw [List.reverse_cons] at h
      exact prim_rot h
    · rename_i e
      refine ⟨h, fun z h1 h2 => e ?_⟩
      rw [List.getLast?_reverse, List.head?_cons] at h1 h2
      exact (Option.some.inj h1).trans (Option.some.inj h2).symm
theorem absorb_more : ∀ (r t u : List Int), absorb (absorb r t).1 ((absorb r t).2 ++ u) = absorb r (t ++ u)
  | r, [], u => by simp [absorb]
  | [], y :: t, u => by simp [absorb]
  | x :: r, y :: t, u => by
    by_cases e : y = x
    · have e1 : absorb (x :: r) (y :: t) = absorb (r ++ [x]) t := by rw [absorb, if_pos e]
      have e2 : absorb (x :: r) (y :: t ++ u) = absorb (r ++ [x]) (t ++ u) := by rw [List.cons_append, absorb, if_pos e]
      rw [e1, e2]
      exact absorb_more (r ++ [x]) t u
    · have e1 : absorb (x :: r) (y :: t) = (x :: r, y :: t) := by rw [absorb, if_neg e]
      rw [e1]
/-- the form that is kept -/
def kept (r t : List Int) : List Int × List Int := absorb (root r) t
theorem kept_norm {r : List Int} (hr : r ≠ []) (t : List Int) : Norm (kept r t).1.reverse (kept r t).2.reverse := absorb_norm _ _ (prim_root hr)
theorem kept_E {r : List Int} (hr : r ≠ []) (t : List Int) : E (kept r t).1.reverse (kept r t).2.reverse = E r.reverse t.reverse := by
  unfold kept
  rw [absorb_E, E_tail (E_root hr)]
theorem kept_more {r : List Int} (hr : r ≠ []) (t u : List Int) : kept (kept r t).1 ((kept r t).2 ++ u) = kept r (t ++ u) := by
  have h := kept_norm hr t
  show absorb (root (kept r t).1) _ = absorb (root r) (t ++ u)
  rw [root_prim h.1]
  exact absorb_more _ _ _
/-- the last letters -/
def lastW (r t : List Int) (many : Nat) : List Int := (rep (many / r.length + 1) r ++ t).drop ((rep (many / r.length + 1) r ++ t).length - many)
theorem last_long {r : List Int} (hr : r ≠ []) (t : List Int) (many : Nat) : many ≤ (rep (many / r.length + 1) r ++ t).length := by
  have r0 : 0 < r.length := List.length_pos_iff.mpr hr
  rw [List.length_append, rep_len]
  have := Nat.lt_div_mul_add (a := many) r0
  rw [Nat.succ_mul]
  omega
theorem last_len {r : List Int} (hr : r ≠ []) (t : List Int) (many : Nat) : (lastW r t many).length = many := by
  have := last_long hr t many
  unfold lastW
  rw [List.length_drop]
  omega
theorem last_at {r : List Int} (hr : r ≠ []) (t : List Int) {many i : Nat} (h : i < many) : (lastW r t many).reverse[i]? = E r.reverse t.reverse i := by
  have r0 : 0 < r.length := List.length_pos_iff.mpr hr
  have hl := last_long hr t many
  unfold lastW
  rw [List.reverse_drop, Nat.sub_sub_self hl, List.getElem?_take_of_lt h, List.reverse_append, rep_rev]
  unfold E
  split
  · rename_i l
    rw [List.getElem?_append_left l]
  · rename_i l
    rw [List.getElem?_append_right (Nat.le_of_not_lt l), rep_at]
    rw [List.length_reverse]
    rw [List.length_append, rep_len] at hl
    rw [List.length_reverse] at l ⊢
    have := Nat.lt_div_mul_add (a := many) r0
    rw [Nat.succ_mul]
    omega
theorem last_eq {r s : List Int} (hr : r ≠ []) (hs : s ≠ []) {t u : List Int} {many : Nat} : lastW r t many = lastW s u many ↔ ∀ i, i < many → E r.reverse t.reverse i = E s.reverse u.reverse i := by
  constructor
  · intro h i hi
    rw [← last_at hr t hi, ← last_at hs u hi, h]
  · intro h
    rw [← List.reverse_inj]
    refine List.ext_getElem? fun i => ?_
    rcases Nat.lt_or_ge i many with l | l
    · rw [last_at hr t l, last_at hs u l, h i l]
    · rw [List.getElem?_eq_none (by rw [List.length_reverse, last_len hr]; exact l), List.getElem?_eq_none (by rw [List.length_reverse, last_len hs]; exact l)]
theorem kept_ne {r : List Int} (hr : r ≠ []) (t : List Int) : (kept r t).1 ≠ [] := by
  have := (kept_norm hr t).1.1
  simpa using this
theorem kept_last {r : List Int} (hr : r ≠ []) (t : List Int) (many : Nat) : lastW (kept r t).1 (kept r t).2 many = lastW r t many :=
  (last_eq (kept_ne hr t) hr).mpr fun i _ => congrFun (kept_E hr t) i
/-- two forms are one exactly if their ends are -/
theorem kept_iff {r s : List Int} (hr : r ≠ []) (hs : s ≠ []) (t u : List Int) :
    kept r t = kept s u ↔ lastW (kept r t).1 (kept r t).2 (max (kept r t).2.length (kept s u).2.length + (kept r t).1.length + (kept s u).1.length) = lastW (kept s u).1 (kept s u).2 (max (kept r t).2.length (kept s u).2.length + (kept r t).1.length + (kept s u).1.length) := by
  constructor
  · intro h
    rw [h]
  · intro h
    rw [last_eq (kept_ne hr t) (kept_ne hs u)] at h
    have := norm_uniq (kept_norm hr t) (kept_norm hs u) (by simpa using h)
    exact Prod.ext (List.reverse_inj.mp this.1) (List.reverse_inj.mp this.2)
end EW
/-! E3 -/
set_option linter.all false
set_option maxRecDepth 100000
namespace EW
def rotl (r : List Int) (i : Nat) : List Int := r.drop (i % r.length) ++ r.take (i % r.length)
theorem rotl_0 (r : List Int) : rotl r 0 = r := by simp [rotl]
theorem rot_cons {r : List Int} (hr : r ≠ []) (i : Nat) : ∃ y s, rotl r i = y :: s ∧ r[i % r.length]? = some y ∧ rotl r (i + 1) = s ++ [y] := by
  have r0 : 0 < r.length := List.length_pos_iff.mpr hr
  have hm := Nat.mod_lt i r0
  have hs : (i + 1) % r.length = if i % r.length + 1 < r.length then i % r.length + 1 else 0 := by
    rw [Nat.add_mod]
    split
    · rename_i l
      rcases Nat.lt_or_ge 1 r.length with g | g
      · rw [Nat.mod_eq_of_lt g, Nat.mod_eq_of_lt l]
      · omega
    · rename_i l
      rcases Nat.lt_or_ge 1 r.length with g | g
      · rw [Nat.mod_eq_of_lt g]
        have : i % r.length + 1 = r.length := by omega
        rw [this, Nat.mod_self]
      · have : r.length = 1 := by omega
        rw [this]
        omega
  unfold rotl
  rw [hs]
  generalize i % r.length = m at hm
  refine ⟨r[m], r.drop (m + 1) ++ r.take m, ?_, List.getElem?_eq_getElem hm, ?_⟩
  · rw [List.drop_eq_getElem_cons hm]
    rfl
  · split
    · rw [List.take_add_one, List.getElem?_eq_getElem hm, List.append_assoc]
      rfl
    · rename_i l
      have : m + 1 = r.length := by omega
      rw [List.drop_zero, List.take_zero, List.append_nil, List.drop_of_length_le (by omega), List.nil_append]
      have h2 : r.take m ++ [r[m]] = r.take (m + 1) := by
        rw [List.take_add_one, List.getElem?_eq_getElem hm]
        rfl
      rw [h2, List.take_of_length_le (by omega)]
theorem absorb_step {r t : List Int} (hr : r ≠ []) {i : Nat} {y : Int} (ht : t[i]? = some y) (h : r[i % r.length]? = some y) : absorb (rotl r i) (t.drop i) = absorb (rotl r (i + 1)) (t.drop (i + 1)) := by
  obtain ⟨z, s, e1, e2, e3⟩ := rot_cons hr i
  rw [h] at e2
  cases e2
  have hi : i < t.length := (List.getElem?_eq_some_iff.mp ht).1
  have e4 : t.drop i = y :: t.drop (i + 1) := by
    rw [List.drop_eq_getElem_cons hi]
    rw [List.getElem?_eq_getElem hi] at ht
    rw [Option.some.inj ht]
  rw [e1, e4, e3]
  show (if y = y then _ else _) = _
  rw [if_pos rfl]
theorem absorb_stop {r t : List Int} (hr : r ≠ []) {i : Nat} (h : ∀ y, t[i]? = some y → r[i % r.length]? ≠ some y) : absorb (rotl r i) (t.drop i) = (rotl r i, t.drop i) := by
  obtain ⟨z, s, e1, e2, e3⟩ := rot_cons hr i
  cases e : t.drop i with
  | nil => rw [e1]; rfl
  | cons y u =>
    have hy : t[i]? = some y := by
      have := List.getElem?_drop (xs := t) (i := i) (j := 0)
      rw [e] at this
      simpa using this.symm
    have := h y hy
    rw [e2] at this
    rw [e1]
    show (if y = z then _ else _) = _
    rw [if_neg (fun q => this (by rw [q]))]
/-- no letter can be taken in -/
def Stuck (r t : List Int) : Prop := ∀ x y, r.head? = some x → t.head? = some y → y ≠ x
theorem absorb_stuck : ∀ {r t : List Int}, Stuck r t → absorb r t = (r, t)
  | r, [], _ => by simp [absorb]
  | [], y :: t, _ => rfl
  | x :: r, y :: t, h => by
    show (if y = x then _ else _) = _
    rw [if_neg (h x y rfl rfl)]
theorem rotl_len (r : List Int) (i : Nat) (hr : r ≠ []) : (rotl r i).length = r.length := by
  have r0 : 0 < r.length := List.length_pos_iff.mpr hr
  have := Nat.mod_lt i r0
  unfold rotl
  rw [List.length_append, List.length_drop, List.length_take]
  omega
theorem absorb_len : ∀ (r t : List Int), (absorb r t).1.length = r.length ∧ (absorb r t).2.length ≤ t.length
  | r, [] => by simp [absorb]
  | [], y :: t => by simp [absorb]
  | x :: r, y :: t => by
    unfold absorb
    split
    · have := absorb_len (r ++ [x]) t
      rw [this.1]
      simp
      omega
    · simp
theorem kept_len {r : List Int} (hr : r ≠ []) (t : List Int) : (kept r t).1.length ≤ r.length ∧ (kept r t).2.length ≤ t.length := by
  have h := absorb_len (root r) t
  have hs := rootL_spec hr
  unfold kept
  rw [h.1, root_len hr]
  exact ⟨hs.2.1, h.2⟩
theorem absorb_mem (p : Int → Prop) : ∀ (r t : List Int), (∀ x ∈ r, p x) → (∀ x ∈ t, p x) → (∀ x ∈ (absorb r t).1, p x) ∧ ∀ x ∈ (absorb r t).2, p x
  | r, [], h, k => ⟨by simpa [absorb] using h, by simp [absorb]⟩
  | [], y :: t, h, k => ⟨by simp [absorb], by simpa [absorb] using k⟩
  | x :: r, y :: t, h, k => by
    unfold absorb
    split
    · exact absorb_mem p (r ++ [x]) t (fun z hz => (List.mem_append.mp hz).elim (fun g => h z (List.mem_cons_of_mem _ g)) (fun g => h z (List.mem_singleton.mp g ▸ List.mem_cons_self))) (fun z hz => k z (List.mem_cons_of_mem _ hz))
    · exact ⟨h, k⟩
theorem kept_mem (p : Int → Prop) {r t : List Int} (h : ∀ x ∈ r, p x) (k : ∀ x ∈ t, p x) : (∀ x ∈ (kept r t).1, p x) ∧ ∀ x ∈ (kept r t).2, p x :=
  absorb_mem p _ _ (fun x hx => h x (List.mem_of_mem_take hx)) k
end EW
/-! E4 -/
set_option linter.all false
set_option maxRecDepth 100000
/-! heights: words and endless words, compared from the end -/
namespace EH
open L2
/-- a height: a word, or a ring and what is behind it -/
inductive Ht
  | w (a : List Int)
  | e (r t : List Int)
  deriving DecidableEq
/-- rows of letters, the end first: the lesser row -/
def sg (x y : List Int) : Int := if x = y then 0 else if HT.lexLt x y = true then -1 else 1
/-- how many first items agree -/
def cp : List Int → List Int → Nat
  | x :: xs, y :: ys => if x = y then cp xs ys + 1 else 0
  | _, _ => 0
theorem lex_cons (x y : Int) (xs ys : List Int) : HT.lexLt (x :: xs) (y :: ys) = if x = y then HT.lexLt xs ys else decide (x < y) := by
  by_cases h : x = y
  · subst h
    rw [if_pos rfl]
    simp [HT.lexLt]
  · rw [if_neg h]
    simp [HT.lexLt, h]
theorem sg_cons (x y : Int) (xs ys : List Int) : sg (x :: xs) (y :: ys) = if x = y then sg xs ys else if x < y then -1 else 1 := by
  unfold sg
  rw [lex_cons]
  by_cases h : x = y
  · subst h
    simp
  · simp [h]
theorem sg_self (x : List Int) : sg x x = 0 := by simp [sg]
theorem sg_nil_cons (y : Int) (ys : List Int) : sg [] (y :: ys) = -1 := by simp [sg, HT.lexLt]
theorem sg_cons_nil (y : Int) (ys : List Int) : sg (y :: ys) [] = 1 := by simp [sg, HT.lexLt]
theorem sg_neg : ∀ x y : List Int, sg y x = 0 - sg x y
  | [], [] => by simp [sg_self]
  | [], y :: ys => by rw [sg_nil_cons, sg_cons_nil]; rfl
  | x :: xs, [] => by rw [sg_nil_cons, sg_cons_nil]; rfl
  | x :: xs, y :: ys => by
    rw [sg_cons, sg_cons]
    by_cases h : x = y
    · subst h
      rw [if_pos rfl, if_pos rfl]
      exact sg_neg xs ys
    · rw [if_neg h, if_neg (fun z => h z.symm)]
      split <;> split <;> omega
theorem sg_pre : ∀ p x y : List Int, sg (p ++ x) (p ++ y) = sg x y
  | [], _, _ => rfl
  | c :: p, x, y => by
    rw [List.cons_append, List.cons_append, sg_cons, if_pos rfl]
    exact sg_pre p x y
theorem cp_comm : ∀ x y : List Int, cp x y = cp y x
  | [], [] => rfl
  | [], _ :: _ => rfl
  | _ :: _, [] => rfl
  | x :: xs, y :: ys => by
    unfold cp
    by_cases h : x = y
    · rw [if_pos h, if_pos h.symm, cp_comm xs ys]
    · rw [if_neg h, if_neg (fun z => h z.symm)]
/-- what the first N items tell, if they differ -/
theorem take_sg : ∀ (N : Nat) (x y : List Int), x.take N ≠ y.take N → sg (x.take N) (y.take N) = sg x y ∧ cp (x.take N) (y.take N) = cp x y ∧ x ≠ y
  | 0, x, y, h => absurd (by simp) h
  | N + 1, [], [], h => absurd rfl h
  | N + 1, [], y :: ys, _ => ⟨by rw [List.take_nil, List.take_succ_cons, sg_nil_cons, sg_nil_cons], rfl, fun z => by cases z⟩
  | N + 1, x :: xs, [], _ => ⟨by rw [List.take_nil, List.take_succ_cons, sg_cons_nil, sg_cons_nil], rfl, fun z => by cases z⟩
  | N + 1, x :: xs, y :: ys, h => by
    rw [List.take_succ_cons, List.take_succ_cons] at h ⊢
    rw [sg_cons, sg_cons]
    unfold cp
    by_cases c : x = y
    · subst c
      have ih := take_sg N xs ys fun z => h (by rw [z])
      rw [if_pos rfl, if_pos rfl, if_pos rfl, if_pos rfl]
      exact ⟨ih.1, congrArg (· + 1) ih.2.1, fun z => ih.2.2 (List.cons.inj z).2⟩
    · rw [if_neg c, if_neg c, if_neg c, if_neg c]
      exact ⟨rfl, rfl, fun z => c (List.cons.inj z).1⟩
/-- the letters from the end -/
def far : Ht → Nat → List Int
  | .w a, n => a.reverse.take n
  | .e r t, n => (EW.lastW r t n).reverse
/-- rings have letters -/
def Ok : Ht → Prop
  | .w _ => True
  | .e r _ => r ≠ []
/-- as it is kept -/
def kp : Ht → Ht
  | .w a => .w a
  | .e r t => .e (EW.kept r t).1 (EW.kept r t).2
def size : Ht → Nat
  | .w a => a.length
  | .e r t => r.length + t.length
theorem kp_ok {h : Ht} (o : Ok h) : Ok (kp h) := by
  cases h with
  | w a => trivial
  | e r t => exact EW.kept_ne o t
theorem far_kp {h : Ht} (o : Ok h) (n : Nat) : far (kp h) n = far h n := by
  cases h with
  | w a => rfl
  | e r t =>
    show (EW.lastW (EW.kept r t).1 (EW.kept r t).2 n).reverse = (EW.lastW r t n).reverse
    rw [EW.kept_last o]
theorem far_take {h : Ht} (o : Ok h) {n m : Nat} (l : n ≤ m) : (far h m).take n = far h n := by
  cases h with
  | w a =>
    show (a.reverse.take m).take n = a.reverse.take n
    rw [List.take_take, Nat.min_eq_left l]
  | e r t =>
    show ((EW.lastW r t m).reverse).take n = (EW.lastW r t n).reverse
    refine List.ext_getElem? fun i => ?_
    rcases Nat.lt_or_ge i n with c | c
    · rw [List.getElem?_take_of_lt c, EW.last_at o t (Nat.lt_of_lt_of_le c l), EW.last_at o t c]
    · rw [List.getElem?_eq_none (by rw [List.length_take]; omega), List.getElem?_eq_none (by rw [List.length_reverse, EW.last_len o]; exact c)]
theorem far_len {h : Ht} (o : Ok h) (n : Nat) : (far h n).length = match h with | .w a => min n a.length | .e _ _ => n := by
  cases h with
  | w a =>
    show (a.reverse.take n).length = _
    rw [List.length_take, List.length_reverse]
  | e r t =>
    show (EW.lastW r t n).reverse.length = _
    rw [List.length_reverse, EW.last_len o]
/-- what is kept is one exactly if the telling ends are -/
theorem far_eq {h g : Ht} (oh : Ok h) (og : Ok g) {n : Nat} (l : size (kp h) + size (kp g) ≤ n) : far h n = far g n ↔ kp h = kp g := by
  constructor
  · intro e
    cases h with
    | w a =>
      cases g with
      | w b =>
        have e : a.reverse.take n = b.reverse.take n := e
        have la : a.length + b.length ≤ n := l
        rw [List.take_of_length_le (by rw [List.length_reverse]; omega), List.take_of_length_le (by rw [List.length_reverse]; omega), List.reverse_inj] at e
        rw [e]
      | e s u =>
        have := congrArg List.length e
        rw [far_len oh, far_len og] at this
        have l : a.length + ((EW.kept s u).1.length + (EW.kept s u).2.length) ≤ n := l
        have := List.length_pos_iff.mpr (EW.kept_ne og u)
        simp only at *
        omega
    | e r t =>
      cases g with
      | w b =>
        have := congrArg List.length e
        rw [far_len oh, far_len og] at this
        have l : ((EW.kept r t).1.length + (EW.kept r t).2.length) + b.length ≤ n := l
        have := List.length_pos_iff.mpr (EW.kept_ne oh t)
        simp only at *
        omega
      | e s u =>
        have l : ((EW.kept r t).1.length + (EW.kept r t).2.length) + ((EW.kept s u).1.length + (EW.kept s u).2.length) ≤ n := l
        have e2 : far (.e r t) (max (EW.kept r t).2.length (EW.kept s u).2.length + (EW.kept r t).1.length + (EW.kept s u).1.length) = far (.e s u) (max (EW.kept r t).2.length (EW.kept s u).2.length + (EW.kept r t).1.length + (EW.kept s u).1.length) := by
          rw [← far_take oh (m := n) (by omega), ← far_take og (m := n) (by omega), e]
        have e3 := List.reverse_inj.mp e2
        rw [← EW.kept_last oh, ← EW.kept_last og] at e3
        have := (EW.kept_iff oh og t u).mpr e3
        show Ht.e _ _ = Ht.e _ _
        rw [this]
  · intro e
    rw [← far_kp oh, ← far_kp og, e]
/-- the order of heights, and in how many letters they agree -/
def ord (h g : Ht) : Int := sg (far h (size (kp h) + size (kp g))) (far g (size (kp h) + size (kp g)))
def com (h g : Ht) : Nat := cp (far h (size (kp h) + size (kp g))) (far g (size (kp h) + size (kp g)))
theorem ord_far {h g : Ht} (oh : Ok h) (og : Ok g) {n : Nat} (l : size (kp h) + size (kp g) ≤ n) : sg (far h n) (far g n) = ord h g := by
  unfold ord
  rw [← far_take oh l, ← far_take og l]
  by_cases c : (far h n).take (size (kp h) + size (kp g)) = (far g n).take (size (kp h) + size (kp g))
  · rw [c, sg_self]
    rw [far_take oh l, far_take og l] at c
    have := (far_eq oh og l).mpr ((far_eq oh og (Nat.le_refl _)).mp c)
    rw [this, sg_self]
  · exact (take_sg _ _ _ c).1.symm
theorem cp_self_w {a b : List Int} {n : Nat} (l : a.length + b.length ≤ n) : far (.w a) n = a.reverse ∧ far (.w b) n = b.reverse :=
  ⟨List.take_of_length_le (by rw [List.length_reverse]; omega), List.take_of_length_le (by rw [List.length_reverse]; omega)⟩
theorem com_far {h g : Ht} (oh : Ok h) (og : Ok g) (hn : kp h ≠ kp g ∨ ∃ a, h = .w a) {n : Nat} (l : size (kp h) + size (kp g) ≤ n) : cp (far h n) (far g n) = com h g := by
  unfold com
  by_cases c : far h (size (kp h) + size (kp g)) = far g (size (kp h) + size (kp g))
  · have k := (far_eq oh og (Nat.le_refl _)).mp c
    rcases hn with hn | ⟨a, rfl⟩
    · exact absurd k hn
    · cases g with
      | w b =>
        have l : a.length + b.length ≤ n := l
        have := cp_self_w l
        have := cp_self_w (a := a) (b := b) (Nat.le_refl _)
        show _ = cp (far (.w a) (a.length + b.length)) (far (.w b) (a.length + b.length))
        simp only [*]
      | e s u => cases k
  · rw [← far_take oh l, ← far_take og l] at c
    rw [← far_take oh l, ← far_take og l]
    exact (take_sg _ _ _ c).2.1.symm
theorem ord_neg {h g : Ht} (oh : Ok h) (og : Ok g) : ord g h = 0 - ord h g := by
  unfold ord
  rw [Nat.add_comm (size (kp g))]
  exact sg_neg _ _
theorem com_comm (h g : Ht) : com g h = com h g := by
  unfold com
  rw [Nat.add_comm (size (kp g))]
  exact cp_comm _ _
/-- a word behind -/
def app : Ht → List Int → Ht
  | .w a, b => .w (a ++ b)
  | .e r t, b => .e r (t ++ b)
theorem app_ok {h : Ht} (o : Ok h) (b : List Int) : Ok (app h b) := by
  cases h <;> exact o
theorem far_app {h : Ht} (o : Ok h) (b : List Int) (n : Nat) : far (app h b) (b.length + n) = b.reverse ++ far h n := by
  cases h with
  | w a =>
    show (a ++ b).reverse.take (b.length + n) = b.reverse ++ a.reverse.take n
    have := List.take_length_add_append n (l₁ := b.reverse) (l₂ := a.reverse)
    rw [List.length_reverse] at this
    rw [List.reverse_append, this]
  | e r t =>
    show (EW.lastW r (t ++ b) (b.length + n)).reverse = b.reverse ++ (EW.lastW r t n).reverse
    refine List.ext_getElem? fun i => ?_
    rcases Nat.lt_or_ge i (b.length + n) with c | c
    · rw [EW.last_at o _ c, List.reverse_append]
      unfold EW.E
      rw [List.length_append, List.length_reverse, List.length_reverse]
      rcases Nat.lt_or_ge i b.length with d | d
      · rw [if_pos (by omega), List.getElem?_append_left (by rw [List.length_reverse]; exact d), List.getElem?_append_left (by rw [List.length_reverse]; exact d)]
      · rw [List.getElem?_append_right (l₂ := (EW.lastW r t n).reverse) (by rw [List.length_reverse]; exact d), List.length_reverse (as := b), EW.last_at o t (show i - b.length < n by omega)]
        unfold EW.E
        rw [List.length_reverse, List.length_reverse]
        by_cases z : i - b.length < t.length
        · rw [if_pos (by omega), if_pos z, List.getElem?_append_right (by rw [List.length_reverse]; exact d), List.length_reverse]
        · rw [if_neg (by omega), if_neg z]
          have : i - (b.length + t.length) = i - b.length - t.length := by omega
          rw [this]
    · rw [List.getElem?_eq_none (by rw [List.length_reverse, EW.last_len o]; exact c), List.getElem?_eq_none (by rw [List.length_append, List.length_reverse, List.length_reverse, EW.last_len o]; exact c)]
theorem ord_app {h g : Ht} (oh : Ok h) (og : Ok g) (b : List Int) : ord (app h b) (app g b) = ord h g := by
  have e := ord_far (app_ok oh b) (app_ok og b) (n := b.length + (size (kp h) + size (kp g) + (size (kp (app h b)) + size (kp (app g b))))) (by omega)
  rw [← e, far_app oh, far_app og, sg_pre]
  exact ord_far oh og (by omega)
/-- a shorter end is ahead -/
theorem sg_take : ∀ (n m : Nat) (x : List Int), n < m → n < x.length → sg (x.take n) (x.take m) = -1
  | _, 0, _, h, _ => absurd h (Nat.not_lt_zero _)
  | n, m + 1, [], _, h => absurd h (Nat.not_lt_zero _)
  | 0, m + 1, c :: x, _, _ => by rw [List.take_zero, List.take_succ_cons, sg_nil_cons]
  | n + 1, m + 1, c :: x, h, k => by
    rw [List.take_succ_cons, List.take_succ_cons, sg_cons, if_pos rfl]
    exact sg_take n m x (by omega) (by simpa using k)
end EH
/-! K05a -/
set_option Elab.async false
set_option linter.all false
set_option maxRecDepth 100000
set_option maxHeartbeats 2000000
namespace K05
open PySem PySem.Spec PyProof.Rows L2 PpSet RL
def topS (i : Nat) : Stmt := PySem.Challenge.pw_roomlines_k05_whole_heights_in_order.main.body.getD i (.Pass ⟨0, 0, 0, 0⟩)
abbrev s_is_number : Stmt := topS 7
theorem sc_is_number : FnScope ["value", "least", "most"] ["value", "least", "most"] (defScope s_is_number) := ⟨rfl, rfl, rfl, by decide +kernel, rfl, by decide +kernel, by decide +kernel⟩
abbrev s_check_number : Stmt := topS 8
theorem sc_check_number : FnScope ["value", "least", "most"] ["value", "least", "most"] (defScope s_check_number) := ⟨rfl, rfl, rfl, by decide +kernel, rfl, by decide +kernel, by decide +kernel⟩
abbrev s_check_letters : Stmt := topS 12
theorem sc_check_letters : FnScope ["letters"] ["letters"] (defScope s_check_letters) := ⟨rfl, rfl, rfl, by decide +kernel, rfl, by decide +kernel, by decide +kernel⟩
abbrev s_is_spelled : Stmt := topS 13
theorem sc_is_spelled : FnScope ["letters", "value", "most", "letter"] ["letters", "value", "most"] (defScope s_is_spelled) := ⟨rfl, rfl, rfl, by decide +kernel, rfl, by decide +kernel, by decide +kernel⟩
abbrev s_check_word : Stmt := topS 14
theorem sc_check_word : FnScope ["letters", "word"] ["letters", "word"] (defScope s_check_word) := ⟨rfl, rfl, rfl, by decide +kernel, rfl, by decide +kernel, by decide +kernel⟩
abbrev s_order_words : Stmt := topS 15
theorem sc_order_words : FnScope ["one", "other"] ["one", "other"] (defScope s_order_words) := ⟨rfl, rfl, rfl, by decide +kernel, rfl, by decide +kernel, by decide +kernel⟩
abbrev s_count_common : Stmt := topS 16
theorem sc_count_common : FnScope ["one", "other", "most", "many"] ["one", "other"] (defScope s_count_common) := ⟨rfl, rfl, rfl, by decide +kernel, rfl, by decide +kernel, by decide +kernel⟩
abbrev s__root : Stmt := topS 20
theorem sc__root : FnScope ["word", "many"] ["word"] (defScope s__root) := ⟨rfl, rfl, rfl, by decide +kernel, rfl, by decide +kernel, by decide +kernel⟩
abbrev s__kept : Stmt := topS 21
theorem sc__kept : FnScope ["ring", "tail", "root", "many", "turned"] ["ring", "tail"] (defScope s__kept) := ⟨rfl, rfl, rfl, by decide +kernel, rfl, by decide +kernel, by decide +kernel⟩
abbrev s_Endless___init__ : Stmt := inClass (topS 24) 0
theorem sc_Endless___init__ : FnScope ["self", "letters", "ring", "tail", "kept_ring", "kept_tail"] ["self", "letters", "ring", "tail"] (defScope s_Endless___init__) := ⟨rfl, rfl, rfl, by decide +kernel, rfl, by decide +kernel, by decide +kernel⟩
abbrev s_Endless_letters : Stmt := inClass (topS 24) 1
theorem sc_Endless_letters : FnScope ["self"] ["self"] (defScope s_Endless_letters) := ⟨rfl, rfl, rfl, by decide +kernel, rfl, by decide +kernel, by decide +kernel⟩
abbrev s_Endless_ring : Stmt := inClass (topS 24) 2
theorem sc_Endless_ring : FnScope ["self"] ["self"] (defScope s_Endless_ring) := ⟨rfl, rfl, rfl, by decide +kernel, rfl, by decide +kernel, by decide +kernel⟩
abbrev s_Endless_tail : Stmt := inClass (topS 24) 3
theorem sc_Endless_tail : FnScope ["self"] ["self"] (defScope s_Endless_tail) := ⟨rfl, rfl, rfl, by decide +kernel, rfl, by decide +kernel, by decide +kernel⟩
abbrev s_Endless___len__ : Stmt := inClass (topS 24) 7
theorem sc_Endless___len__ : FnScope ["self"] ["self"] (defScope s_Endless___len__) := ⟨rfl, rfl, rfl, by decide +kernel, rfl, by decide +kernel, by decide +kernel⟩
abbrev s_endless_of : Stmt := topS 25
theorem sc_endless_of : FnScope ["letters", "ring", "tail", "made", "kept_ring", "kept_tail"] ["letters", "ring", "tail"] (defScope s_endless_of) := ⟨rfl, rfl, rfl, by decide +kernel, rfl, by decide +kernel, by decide +kernel⟩
abbrev s_last_letters : Stmt := topS 26
theorem sc_last_letters : FnScope ["height", "many", "repeats", "word"] ["height", "many"] (defScope s_last_letters) := ⟨rfl, rfl, rfl, by decide +kernel, rfl, by decide +kernel, by decide +kernel⟩
abbrev s_Endless___add__ : Stmt := inClass (topS 24) 5
theorem sc_Endless___add__ : FnScope ["self", "other"] ["self", "other"] (defScope s_Endless___add__) := ⟨rfl, rfl, rfl, by decide +kernel, rfl, by decide +kernel, by decide +kernel⟩
abbrev s_Endless___eq__ : Stmt := inClass (topS 24) 6
theorem sc_Endless___eq__ : FnScope ["self", "other"] ["self", "other"] (defScope s_Endless___eq__) := ⟨rfl, rfl, rfl, by decide +kernel, rfl, by decide +kernel, by decide +kernel⟩
abbrev s__telling_ends : Stmt := topS 27
theorem sc__telling_ends : FnScope ["one", "other", "many"] ["one", "other"] (defScope s__telling_ends) := ⟨rfl, rfl, rfl, by decide +kernel, rfl, by decide +kernel, by decide +kernel⟩
abbrev s_order_heights : Stmt := topS 28
theorem sc_order_heights : FnScope ["one", "other", "first", "second"] ["one", "other"] (defScope s_order_heights) := ⟨rfl, rfl, rfl, by decide +kernel, rfl, by decide +kernel, by decide +kernel⟩
abbrev s_count_agreeing : Stmt := topS 29
theorem sc_count_agreeing : FnScope ["one", "other", "first", "second"] ["one", "other"] (defScope s_count_agreeing) := ⟨rfl, rfl, rfl, by decide +kernel, rfl, by decide +kernel, by decide +kernel⟩
abbrev s__is_height_of : Stmt := topS 30
theorem sc__is_height_of : FnScope ["letters", "value"] ["letters", "value"] (defScope s__is_height_of) := ⟨rfl, rfl, rfl, by decide +kernel, rfl, by decide +kernel, by decide +kernel⟩
abbrev s__check_height : Stmt := topS 31
theorem sc__check_height : FnScope ["letters", "height"] ["letters", "height"] (defScope s__check_height) := ⟨rfl, rfl, rfl, by decide +kernel, rfl, by decide +kernel, by decide +kernel⟩
abbrev s__check_heights : Stmt := topS 32
theorem sc__check_heights : FnScope ["letters", "one", "other"] ["letters", "one", "other"] (defScope s__check_heights) := ⟨rfl, rfl, rfl, by decide +kernel, rfl, by decide +kernel, by decide +kernel⟩
abbrev s_is_height : Stmt := topS 33
theorem sc_is_height : FnScope ["letters", "value"] ["letters", "value"] (defScope s_is_height) := ⟨rfl, rfl, rfl, by decide +kernel, rfl, by decide +kernel, by decide +kernel⟩
abbrev s_compare : Stmt := topS 34
theorem sc_compare : FnScope ["letters", "one", "other"] ["letters", "one", "other"] (defScope s_compare) := ⟨rfl, rfl, rfl, by decide +kernel, rfl, by decide +kernel, by decide +kernel⟩
abbrev s_ends_with : Stmt := topS 35
theorem sc_ends_with : FnScope ["letters", "height", "word"] ["letters", "height", "word"] (defScope s_ends_with) := ⟨rfl, rfl, rfl, by decide +kernel, rfl, by decide +kernel, by decide +kernel⟩
abbrev s_agree : Stmt := topS 36
theorem sc_agree : FnScope ["letters", "one", "other"] ["letters", "one", "other"] (defScope s_agree) := ⟨rfl, rfl, rfl, by decide +kernel, rfl, by decide +kernel, by decide +kernel⟩
abbrev s_each_end : Stmt := topS 37
theorem sc_each_end : GScope ["letters", "height", "many", "longest", "length"] ["letters", "height", "many"] (defScope s_each_end) := ⟨rfl, rfl, rfl, by decide +kernel, rfl, by decide +kernel, by decide +kernel⟩
abbrev s__law_bag : Stmt := topS 39
theorem sc__law_bag : FnScope ["script", "spot", "cell", "great", "mixed"] ["script", "spot"] (defScope s__law_bag) := ⟨rfl, rfl, rfl, by decide +kernel, rfl, by decide +kernel, by decide +kernel⟩
abbrev s__law_grab : Stmt := topS 40
theorem sc__law_grab : FnScope ["bag", "total", "found", "one", "two"] ["bag", "total"] (defScope s__law_grab) := ⟨rfl, rfl, rfl, by decide +kernel, rfl, by decide +kernel, by decide +kernel⟩
abbrev s__law_word_drawn : Stmt := topS 41
theorem sc__law_word_drawn : FnScope ["bag", "letters", "most", "lap"] ["bag", "letters", "most"] (defScope s__law_word_drawn) := ⟨rfl, rfl, rfl, by decide +kernel, rfl, by decide +kernel, by decide +kernel⟩
abbrev s__law_last : Stmt := topS 44
theorem sc__law_last : FnScope ["ring", "rest", "many", "whole"] ["ring", "rest", "many"] (defScope s__law_last) := ⟨rfl, rfl, rfl, by decide +kernel, rfl, by decide +kernel, by decide +kernel⟩
abbrev s__law_drawn : Stmt := topS 45
theorem sc__law_drawn : FnScope ["bag", "letters", "ring", "lap"] ["bag", "letters"] (defScope s__law_drawn) := ⟨rfl, rfl, rfl, by decide +kernel, rfl, by decide +kernel, by decide +kernel⟩
abbrev s__law_near : Stmt := topS 46
theorem sc__law_near : FnScope ["bag", "letters", "height", "word", "ring", "rest", "many", "end", "found"] ["bag", "letters", "height"] (defScope s__law_near) := ⟨rfl, rfl, rfl, by decide +kernel, rfl, by decide +kernel, by decide +kernel⟩
abbrev s__law_made : Stmt := topS 47
theorem sc__law_made : FnScope ["letters", "height"] ["letters", "height"] (defScope s__law_made) := ⟨rfl, rfl, rfl, by decide +kernel, rfl, by decide +kernel, by decide +kernel⟩
abbrev s__law_far : Stmt := topS 48
theorem sc__law_far : FnScope ["height"] ["height"] (defScope s__law_far) := ⟨rfl, rfl, rfl, by decide +kernel, rfl, by decide +kernel, by decide +kernel⟩
abbrev s__law_sign : Stmt := topS 49
theorem sc__law_sign : FnScope ["one", "other", "left", "right"] ["one", "other"] (defScope s__law_sign) := ⟨rfl, rfl, rfl, by decide +kernel, rfl, by decide +kernel, by decide +kernel⟩
abbrev s__law_common : Stmt := topS 50
theorem sc__law_common : FnScope ["one", "other", "left", "right", "found"] ["one", "other"] (defScope s__law_common) := ⟨rfl, rfl, rfl, by decide +kernel, rfl, by decide +kernel, by decide +kernel⟩
abbrev s__law_behind : Stmt := topS 51
theorem sc__law_behind : FnScope ["letters", "height", "word"] ["letters", "height", "word"] (defScope s__law_behind) := ⟨rfl, rfl, rfl, by decide +kernel, rfl, by decide +kernel, by decide +kernel⟩
abbrev s__law_two_right : Stmt := topS 52
theorem sc__law_two_right : FnScope ["bag", "letters", "one", "other", "first", "second", "due", "word"] ["bag", "letters", "one", "other"] (defScope s__law_two_right) := ⟨rfl, rfl, rfl, by decide +kernel, rfl, by decide +kernel, by decide +kernel⟩
abbrev s__law_ends_right : Stmt := topS 53
theorem sc__law_ends_right : FnScope ["bag", "letters", "height", "here", "letters_from", "many", "due", "told", "some", "word", "size", "one", "two"] ["bag", "letters", "height"] (defScope s__law_ends_right) := ⟨rfl, rfl, rfl, by decide +kernel, rfl, by decide +kernel, by decide +kernel⟩
abbrev s__law_judged_right : Stmt := topS 54
theorem sc__law_judged_right : FnScope ["letters", "here", "far", "some", "due", "value", "one"] ["letters", "here"] (defScope s__law_judged_right) := ⟨rfl, rfl, rfl, by decide +kernel, rfl, by decide +kernel, by decide +kernel⟩
abbrev s__law_right : Stmt := topS 55
theorem sc__law_right : FnScope ["bag", "letters", "one", "other"] ["bag"] (defScope s__law_right) := ⟨rfl, rfl, rfl, by decide +kernel, rfl, by decide +kernel, by decide +kernel⟩
abbrev s_law : Stmt := topS 56
theorem sc_law : FnScope ["script", "spot", "back", "ones", "zeros", "told", "some"] ["script"] (defScope s_law) := ⟨rfl, rfl, rfl, by decide +kernel, rfl, by decide +kernel, by decide +kernel⟩
structure Txt (K : PySem.W.Frag) (mg : Str → Option Value) : Type where
  C_Endless : Addr
  a_is_number : Addr
  d_is_number : FuncData
  F_is_number : Fun K "is_number" "is_number" s_is_number a_is_number d_is_number
  b_is_number : Binds K d_is_number ["value", "least", "most"] []
  m_is_number : mg "is_number" = some (.ref a_is_number)
  a_check_number : Addr
  d_check_number : FuncData
  F_check_number : Fun K "check_number" "check_number" s_check_number a_check_number d_check_number
  b_check_number : Binds K d_check_number ["value", "least", "most"] []
  m_check_number : mg "check_number" = some (.ref a_check_number)
  a_check_letters : Addr
  d_check_letters : FuncData
  F_check_letters : Fun K "check_letters" "check_letters" s_check_letters a_check_letters d_check_letters
  b_check_letters : Binds K d_check_letters ["letters"] []
  m_check_letters : mg "check_letters" = some (.ref a_check_letters)
  a_is_spelled : Addr
  d_is_spelled : FuncData
  F_is_spelled : Fun K "is_spelled" "is_spelled" s_is_spelled a_is_spelled d_is_spelled
  b_is_spelled : Binds K d_is_spelled ["letters", "value", "most"] []
  m_is_spelled : mg "is_spelled" = some (.ref a_is_spelled)
  a_check_word : Addr
  d_check_word : FuncData
  F_check_word : Fun K "check_word" "check_word" s_check_word a_check_word d_check_word
  b_check_word : Binds K d_check_word ["letters", "word"] []
  m_check_word : mg "check_word" = some (.ref a_check_word)
  a_order_words : Addr
  d_order_words : FuncData
  F_order_words : Fun K "order_words" "order_words" s_order_words a_order_words d_order_words
  b_order_words : Binds K d_order_words ["one", "other"] []
  m_order_words : mg "order_words" = some (.ref a_order_words)
  a_count_common : Addr
  d_count_common : FuncData
  F_count_common : Fun K "count_common" "count_common" s_count_common a_count_common d_count_common
  b_count_common : Binds K d_count_common ["one", "other"] []
  m_count_common : mg "count_common" = some (.ref a_count_common)
  a__root : Addr
  d__root : FuncData
  F__root : Fun K "_root" "_root" s__root a__root d__root
  b__root : Binds K d__root ["word"] []
  m__root : mg "_root" = some (.ref a__root)
  a__kept : Addr
  d__kept : FuncData
  F__kept : Fun K "_kept" "_kept" s__kept a__kept d__kept
  b__kept : Binds K d__kept ["ring", "tail"] []
  m__kept : mg "_kept" = some (.ref a__kept)
  a_Endless___init__ : Addr
  d_Endless___init__ : FuncData
  e_Endless___init___tail : Addr
  et_Endless___init___tail : ∀ H, SqT K H e_Endless___init___tail []
  F_Endless___init__ : FunD K "__init__" "Endless.__init__" (defArgs s_Endless___init__) (defBody s_Endless___init__) (defScope s_Endless___init__) [] [("tail", V.ref e_Endless___init___tail)] a_Endless___init__ d_Endless___init__
  b_Endless___init__ : Binds K d_Endless___init__ ["self", "letters", "ring", "tail"] [Value.ref e_Endless___init___tail]
  kb_Endless : KBn K d_Endless___init__ ["self", "letters", "ring", "tail"] 3 ["tail"] (fun us ws => us ++ ws) (fun vs zs => vs ++ zs)
  v_Endless : Vals [V.ref e_Endless___init___tail] [Value.ref e_Endless___init___tail]
  mk_Endless : Mk K C_Endless a_Endless___init__
  a_Endless_letters : Addr
  d_Endless_letters : FuncData
  F_Endless_letters : Fun K "letters" "Endless.letters" s_Endless_letters a_Endless_letters d_Endless_letters
  b_Endless_letters : Binds K d_Endless_letters ["self"] []
  q_Endless_letters : Addr
  p_Endless_letters : PropOf K C_Endless "letters" q_Endless_letters a_Endless_letters
  a_Endless_ring : Addr
  d_Endless_ring : FuncData
  F_Endless_ring : Fun K "ring" "Endless.ring" s_Endless_ring a_Endless_ring d_Endless_ring
  b_Endless_ring : Binds K d_Endless_ring ["self"] []
  q_Endless_ring : Addr
  p_Endless_ring : PropOf K C_Endless "ring" q_Endless_ring a_Endless_ring
  a_Endless_tail : Addr
  d_Endless_tail : FuncData
  F_Endless_tail : Fun K "tail" "Endless.tail" s_Endless_tail a_Endless_tail d_Endless_tail
  b_Endless_tail : Binds K d_Endless_tail ["self"] []
  q_Endless_tail : Addr
  p_Endless_tail : PropOf K C_Endless "tail" q_Endless_tail a_Endless_tail
  a_Endless___len__ : Addr
  d_Endless___len__ : FuncData
  F_Endless___len__ : Fun K "__len__" "Endless.__len__" s_Endless___len__ a_Endless___len__ d_Endless___len__
  b_Endless___len__ : Binds K d_Endless___len__ ["self"] []
  len_Endless : PySem.W.findIn K (.ref C_Endless) "__len__" = some (some (.ref a_Endless___len__))
  lenf_Endless : PySem.W.isFn K (.ref a_Endless___len__) = true
  a_endless_of : Addr
  d_endless_of : FuncData
  F_endless_of : Fun K "endless_of" "endless_of" s_endless_of a_endless_of d_endless_of
  b_endless_of : Binds K d_endless_of ["letters", "ring", "tail"] []
  m_endless_of : mg "endless_of" = some (.ref a_endless_of)
  a_last_letters : Addr
  d_last_letters : FuncData
  F_last_letters : Fun K "last_letters" "last_letters" s_last_letters a_last_letters d_last_letters
  b_last_letters : Binds K d_last_letters ["height", "many"] []
  m_last_letters : mg "last_letters" = some (.ref a_last_letters)
  a_Endless___add__ : Addr
  d_Endless___add__ : FuncData
  F_Endless___add__ : Fun K "__add__" "Endless.__add__" s_Endless___add__ a_Endless___add__ d_Endless___add__
  b_Endless___add__ : Binds K d_Endless___add__ ["self", "other"] []
  add_Endless : PySem.W.findIn K (.ref C_Endless) "__add__" = some (some (.ref a_Endless___add__))
  addf_Endless : PySem.W.isFn K (.ref a_Endless___add__) = true
  a_Endless___eq__ : Addr
  d_Endless___eq__ : FuncData
  F_Endless___eq__ : Fun K "__eq__" "Endless.__eq__" s_Endless___eq__ a_Endless___eq__ d_Endless___eq__
  b_Endless___eq__ : Binds K d_Endless___eq__ ["self", "other"] []
  eq_Endless : PySem.W.findIn K (.ref C_Endless) "__eq__" = some (some (.ref a_Endless___eq__))
  eqf_Endless : PySem.W.isFn K (.ref a_Endless___eq__) = true
  a__telling_ends : Addr
  d__telling_ends : FuncData
  F__telling_ends : Fun K "_telling_ends" "_telling_ends" s__telling_ends a__telling_ends d__telling_ends
  b__telling_ends : Binds K d__telling_ends ["one", "other"] []
  m__telling_ends : mg "_telling_ends" = some (.ref a__telling_ends)
  a_order_heights : Addr
  d_order_heights : FuncData
  F_order_heights : Fun K "order_heights" "order_heights" s_order_heights a_order_heights d_order_heights
  b_order_heights : Binds K d_order_heights ["one", "other"] []
  m_order_heights : mg "order_heights" = some (.ref a_order_heights)
  a_count_agreeing : Addr
  d_count_agreeing : FuncData
  F_count_agreeing : Fun K "count_agreeing" "count_agreeing" s_count_agreeing a_count_agreeing d_count_agreeing
  b_count_agreeing : Binds K d_count_agreeing ["one", "other"] []
  m_count_agreeing : mg "count_agreeing" = some (.ref a_count_agreeing)
  a__is_height_of : Addr
  d__is_height_of : FuncData
  F__is_height_of : Fun K "_is_height_of" "_is_height_of" s__is_height_of a__is_height_of d__is_height_of
  b__is_height_of : Binds K d__is_height_of ["letters", "value"] []
  m__is_height_of : mg "_is_height_of" = some (.ref a__is_height_of)
  a__check_height : Addr
  d__check_height : FuncData
  F__check_height : Fun K "_check_height" "_check_height" s__check_height a__check_height d__check_height
  b__check_height : Binds K d__check_height ["letters", "height"] []
  m__check_height : mg "_check_height" = some (.ref a__check_height)
  a__check_heights : Addr
  d__check_heights : FuncData
  F__check_heights : Fun K "_check_heights" "_check_heights" s__check_heights a__check_heights d__check_heights
  b__check_heights : Binds K d__check_heights ["letters", "one", "other"] []
  m__check_heights : mg "_check_heights" = some (.ref a__check_heights)
  a_is_height : Addr
  d_is_height : FuncData
  F_is_height : Fun K "is_height" "is_height" s_is_height a_is_height d_is_height
  b_is_height : Binds K d_is_height ["letters", "value"] []
  m_is_height : mg "is_height" = some (.ref a_is_height)
  a_compare : Addr
  d_compare : FuncData
  F_compare : Fun K "compare" "compare" s_compare a_compare d_compare
  b_compare : Binds K d_compare ["letters", "one", "other"] []
  m_compare : mg "compare" = some (.ref a_compare)
  a_ends_with : Addr
  d_ends_with : FuncData
  F_ends_with : Fun K "ends_with" "ends_with" s_ends_with a_ends_with d_ends_with
  b_ends_with : Binds K d_ends_with ["letters", "height", "word"] []
  m_ends_with : mg "ends_with" = some (.ref a_ends_with)
  a_agree : Addr
  d_agree : FuncData
  F_agree : Fun K "agree" "agree" s_agree a_agree d_agree
  b_agree : Binds K d_agree ["letters", "one", "other"] []
  m_agree : mg "agree" = some (.ref a_agree)
  a_each_end : Addr
  d_each_end : FuncData
  F_each_end : Fun K "each_end" "each_end" s_each_end a_each_end d_each_end
  b_each_end : Binds K d_each_end ["letters", "height", "many"] []
  m_each_end : mg "each_end" = some (.ref a_each_end)
  a__law_bag : Addr
  d__law_bag : FuncData
  F__law_bag : Fun K "_law_bag" "_law_bag" s__law_bag a__law_bag d__law_bag
  b__law_bag : Binds K d__law_bag ["script", "spot"] []
  m__law_bag : mg "_law_bag" = some (.ref a__law_bag)
  a__law_grab : Addr
  d__law_grab : FuncData
  F__law_grab : Fun K "_law_grab" "_law_grab" s__law_grab a__law_grab d__law_grab
  b__law_grab : Binds K d__law_grab ["bag", "total"] []
  m__law_grab : mg "_law_grab" = some (.ref a__law_grab)
  a__law_word_drawn : Addr
  d__law_word_drawn : FuncData
  F__law_word_drawn : Fun K "_law_word_drawn" "_law_word_drawn" s__law_word_drawn a__law_word_drawn d__law_word_drawn
  b__law_word_drawn : Binds K d__law_word_drawn ["bag", "letters", "most"] []
  m__law_word_drawn : mg "_law_word_drawn" = some (.ref a__law_word_drawn)
  a__law_last : Addr
  d__law_last : FuncData
  F__law_last : Fun K "_law_last" "_law_last" s__law_last a__law_last d__law_last
  b__law_last : Binds K d__law_last ["ring", "rest", "many"] []
  m__law_last : mg "_law_last" = some (.ref a__law_last)
  a__law_drawn : Addr
  d__law_drawn : FuncData
  F__law_drawn : Fun K "_law_drawn" "_law_drawn" s__law_drawn a__law_drawn d__law_drawn
  b__law_drawn : Binds K d__law_drawn ["bag", "letters"] []
  m__law_drawn : mg "_law_drawn" = some (.ref a__law_drawn)
  a__law_near : Addr
  d__law_near : FuncData
  F__law_near : Fun K "_law_near" "_law_near" s__law_near a__law_near d__law_near
  b__law_near : Binds K d__law_near ["bag", "letters", "height"] []
  m__law_near : mg "_law_near" = some (.ref a__law_near)
  a__law_made : Addr
  d__law_made : FuncData
  F__law_made : Fun K "_law_made" "_law_made" s__law_made a__law_made d__law_made
  b__law_made : Binds K d__law_made ["letters", "height"] []
  m__law_made : mg "_law_made" = some (.ref a__law_made)
  a__law_far : Addr
  d__law_far : FuncData
  F__law_far : Fun K "_law_far" "_law_far" s__law_far a__law_far d__law_far
  b__law_far : Binds K d__law_far ["height"] []
  m__law_far : mg "_law_far" = some (.ref a__law_far)
  a__law_sign : Addr
  d__law_sign : FuncData
  F__law_sign : Fun K "_law_sign" "_law_sign" s__law_sign a__law_sign d__law_sign
  b__law_sign : Binds K d__law_sign ["one", "other"] []
  m__law_sign : mg "_law_sign" = some (.ref a__law_sign)
  a__law_common : Addr
  d__law_common : FuncData
  F__law_common : Fun K "_law_common" "_law_common" s__law_common a__law_common d__law_common
  b__law_common : Binds K d__law_common ["one", "other"] []
  m__law_common : mg "_law_common" = some (.ref a__law_common)
  a__law_behind : Addr
  d__law_behind : FuncData
  F__law_behind : Fun K "_law_behind" "_law_behind" s__law_behind a__law_behind d__law_behind
  b__law_behind : Binds K d__law_behind ["letters", "height", "word"] []
  m__law_behind : mg "_law_behind" = some (.ref a__law_behind)
  a__law_two_right : Addr
  d__law_two_right : FuncData
  F__law_two_right : Fun K "_law_two_right" "_law_two_right" s__law_two_right a__law_two_right d__law_two_right
  b__law_two_right : Binds K d__law_two_right ["bag", "letters", "one", "other"] []
  m__law_two_right : mg "_law_two_right" = some (.ref a__law_two_right)
  a__law_ends_right : Addr
  d__law_ends_right : FuncData
  F__law_ends_right : Fun K "_law_ends_right" "_law_ends_right" s__law_ends_right a__law_ends_right d__law_ends_right
  b__law_ends_right : Binds K d__law_ends_right ["bag", "letters", "height"] []
  m__law_ends_right : mg "_law_ends_right" = some (.ref a__law_ends_right)
  a__law_judged_right : Addr
  d__law_judged_right : FuncData
  F__law_judged_right : Fun K "_law_judged_right" "_law_judged_right" s__law_judged_right a__law_judged_right d__law_judged_right
  b__law_judged_right : Binds K d__law_judged_right ["letters", "here"] []
  m__law_judged_right : mg "_law_judged_right" = some (.ref a__law_judged_right)
  a__law_right : Addr
  d__law_right : FuncData
  F__law_right : Fun K "_law_right" "_law_right" s__law_right a__law_right d__law_right
  b__law_right : Binds K d__law_right ["bag"] []
  m__law_right : mg "_law_right" = some (.ref a__law_right)
  a_law : Addr
  d_law : FuncData
  F_law : Fun K "law" "law" s_law a_law d_law
  b_law : Binds K d_law ["script"] []
  m_law : mg "law" = some (.ref a_law)
  mC_Endless : mg "Endless" = some (.ref C_Endless)
  c_Endless : Cls K C_Endless
  na_Endless_letters : NoAttr K C_Endless "_letters"
  na_Endless_ring : NoAttr K C_Endless "_ring"
  na_Endless_tail : NoAttr K C_Endless "_tail"
  ob_Endless : PySem.W.mroIn K C_Endless (.type "object") = some true
  ne_Endless : PySem.W.findIn K (.ref C_Endless) "__ne__" = some (some (.builtin "object.__ne__"))
  sf_Endless : PySem.W.selfFirst K C_Endless = true
  ca_Endless : PySem.W.findIn K (.ref C_Endless) "__class__" = some (some (.builtin "object.__class__"))
  cn_Endless : PySem.W.specialIn K (.builtin "object.__class__") "__get__" = some (some (.builtin "getset_descriptor.__get__"))
  ct_Endless : PySem.W.takesIn K (.builtin "object.__class__") = some true
  ks_Endless : PySem.W.kitOne K (.ref C_Endless) (.ref C_Endless) = some true
  nf_Endless : PySem.W.notFirst K C_Endless (.ref C_Endless) = true
  ktuple_Endless : PySem.W.kitOne K (.type "tuple") (.ref C_Endless) = some false
  kint_Endless : PySem.W.kitOne K (.type "int") (.ref C_Endless) = some false
  kstr_Endless : PySem.W.kitOne K (.type "str") (.ref C_Endless) = some false
  klist_Endless : PySem.W.kitOne K (.type "list") (.ref C_Endless) = some false
  kdict_Endless : PySem.W.kitOne K (.type "dict") (.ref C_Endless) = some false
  kNoneType_Endless : PySem.W.kitOne K (.type "NoneType") (.ref C_Endless) = some false
  nftuple_Endless : PySem.W.notFirst K C_Endless (.type "tuple") = true
  t_MAX_LETTERS : Tok
  g_MAX_LETTERS : mg "MAX_LETTERS" = some (.int 4 t_MAX_LETTERS)
  t_MAX_WORD : Tok
  g_MAX_WORD : mg "MAX_WORD" = some (.int 200 t_MAX_WORD)
  t_MAX_END : Tok
  g_MAX_END : mg "MAX_END" = some (.int 1000 t_MAX_END)
  t_MOST_ENDS : Tok
  g_MOST_ENDS : mg "MOST_ENDS" = some (.int 60 t_MOST_ENDS)
  n_len : mg "len" = none
  n_min : mg "min" = none
  n_max : mg "max" = none
  n_abs : mg "abs" = none
  n_int : mg "int" = none
  n_isinstance : mg "isinstance" = none
  n_tuple : mg "tuple" = none
  n_list : mg "list" = none
  n_bool : mg "bool" = none
  n_all : mg "all" = none
  n_range : mg "range" = none
  n_repr : mg "repr" = none
  n_zip : mg "zip" = none
theorem tyx_sqt {K : PySem.W.Frag} {H : Hp} {a : Addr} {xs : List V} (h : SqT K H a xs) : TyX K H (.ref a) (.type "tuple") := by
  rcases h with (h | ⟨o, h⟩) | h
  · exact .base (.tup h)
  · exact .fTuple h
  · obtain ⟨o, vs, n, hl, hc, _⟩ := h
    exact .kTuple hl hc
/-! ### the mirrors -/
/-- k letters -/
def okW (k : Int) (ws : List Int) : Prop := ws.length ≤ 200 ∧ ∀ n ∈ ws, 0 ≤ n ∧ n < k
def ordW (a b : List Int) : Int := if a = b then 0 else if HT.lexLt a.reverse b.reverse = true then -1 else 1
/-- how many first items agree -/
def cpl : List Int → List Int → Nat
  | x :: xs, y :: ys => if x = y then cpl xs ys + 1 else 0
  | _, _ => 0
theorem cpl_le : ∀ a b : List Int, cpl a b ≤ min a.length b.length
  | [], b => by simp [cpl]
  | x :: xs, [] => by simp [cpl]
  | x :: xs, y :: ys => by
    have ih := cpl_le xs ys
    simp only [cpl, List.length_cons]
    split <;> omega
theorem cpl_at : ∀ (a b : List Int) (i : Nat), i < cpl a b → a[i]? = b[i]?
  | [], b, i, h => by simp [cpl] at h
  | x :: xs, [], i, h => by simp [cpl] at h
  | x :: xs, y :: ys, i, h => by
    simp only [cpl] at h
    split at h
    · rename_i e
      cases i with
      | zero => simp [e]
      | succ i =>
        simp only [List.getElem?_cons_succ]
        exact cpl_at xs ys i (by omega)
    · omega
theorem cpl_ne : ∀ (a b : List Int), cpl a b < min a.length b.length → a[cpl a b]? ≠ b[cpl a b]?
  | [], b, h => by simp at h
  | x :: xs, [], h => by simp at h
  | x :: xs, y :: ys, h => by
    simp only [cpl, List.length_cons] at h ⊢
    split at h
    · rename_i e
      rw [if_pos e]
      simp only [List.getElem?_cons_succ]
      exact cpl_ne xs ys (by omega)
    · rename_i e
      rw [if_neg e]
      simpa using e
def spelled (xs : List V) (k most : Int) : Bool := decide ((xs.length : Int) ≤ most) && xs.all fun x => numB x 0 (k - 1)
theorem spelled_ok {k most : Int} {ws : List Int} (h : okW k ws) (hm : 200 ≤ most) : spelled (ws.map V.int) k most = true := by
  unfold spelled
  rw [Bool.and_eq_true]
  refine ⟨decide_eq_true (by have := h.1; rw [List.length_map]; omega), List.all_eq_true.mpr fun x hx => ?_⟩
  obtain ⟨n, hn, rfl⟩ := List.mem_map.mp hx
  have := h.2 n hn
  simp only [numB, Bool.and_eq_true, decide_eq_true_eq]
  omega
/-! ### the promises -/
def sp_is_number (K : PySem.W.Frag) : Sp := fun vs H Q _ => ∃ v lo hi, vs = [v, .int lo, .int hi] ∧ NumV K H v ∧ Q (.bl (numB v lo hi)) H
def sp_check_number (K : PySem.W.Frag) : Sp := fun vs H Q _ => ∃ v lo hi, vs = [v, .int lo, .int hi] ∧ NumV K H v ∧ numB v lo hi = true ∧ Q .non H
def sp_check_letters : Sp := fun vs H Q _ => ∃ k : Int, vs = [.int k] ∧ 1 ≤ k ∧ k ≤ 4 ∧ Q .non H
def sp_is_spelled (K : PySem.W.Frag) : Sp := fun vs H Q _ => ∃ (k most : Int) (v : V), vs = [.int k, v, .int most] ∧
  (((∃ t, TyX K H v t ∧ PySem.W.kitOne K t (.type "tuple") = some false) ∧ Q (.bl false) H) ∨
    ∃ a xs, v = .ref a ∧ SqT K H a xs ∧ xs.length < sizeLine ∧ (∀ x ∈ xs, ∀ H', Same H H' → NumV K H' x) ∧ ∀ H', Same H H' → Q (.bl (spelled xs k most)) H')
def sp_check_word (K : PySem.W.Frag) : Sp := fun vs H Q _ => ∃ (k : Int) (v : V) (ws : List Int), vs = [.int k, v] ∧ IsW K H v ws ∧ okW k ws ∧ ∀ H', Same H H' → Q .non H'
def sp_check_both (K : PySem.W.Frag) : Sp := fun vs H Q _ => ∃ (k : Int) (v u : V) (a b : List Int), vs = [.int k, v, u] ∧ 1 ≤ k ∧ k ≤ 4 ∧ IsW K H v a ∧ IsW K H u b ∧ okW k a ∧ okW k b ∧ ∀ H', Same H H' → Q .non H'
def sp_order_words (K : PySem.W.Frag) : Sp := fun vs H Q _ => ∃ (v u : V) (a b : List Int), vs = [v, u] ∧ IsW K H v a ∧ IsW K H u b ∧ ∀ H', Same H H' → Q (.int (ordW a b)) H'
def sp_count_common (K : PySem.W.Frag) : Sp := fun vs H Q _ => ∃ (v u : V) (a b : List Int), vs = [v, u] ∧ IsW K H v a ∧ IsW K H u b ∧ Q (.int (cpl a.reverse b.reverse)) H
def sp_is_word (K : PySem.W.Frag) : Sp := fun vs H Q _ => ∃ (k : Int) (v : V), vs = [.int k, v] ∧ 1 ≤ k ∧ k ≤ 4 ∧
  (((∃ t, TyX K H v t ∧ PySem.W.kitOne K t (.type "tuple") = some false) ∧ Q (.bl false) H) ∨
    ∃ a xs, v = .ref a ∧ SqT K H a xs ∧ xs.length < sizeLine ∧ (∀ x ∈ xs, ∀ H', Same H H' → NumV K H' x) ∧ ∀ H', Same H H' → Q (.bl (spelled xs k 200)) H')
theorem numV_int {K : PySem.W.Frag} {H : Hp} (i : Int) : NumV K H (.int i) := .inl ⟨i, rfl⟩
theorem numV_ints {K : PySem.W.Frag} {H : Hp} {ws : List Int} : ∀ x ∈ ws.map V.int, ∀ H', Same H H' → NumV K H' x := fun x hx H' _ => by
  obtain ⟨n, _, rfl⟩ := List.mem_map.mp hx
  exact .inl ⟨n, rfl⟩
theorem len_small {ws : List Int} (h : ws.length ≤ 100000) : (ws.map V.int).length < sizeLine := by rw [List.length_map, sizeLine_eq]; omega
theorem seqT {K : PySem.W.Frag} {H : Hp} {a : Addr} {xs : List V} (h : SqT K H a xs) : SqL K H a xs ∨ SqT K H a xs := .inr h
section
variable {P : Program} {w : World} {K : PySem.W.Frag} {mg : Str → Option Value} {base : Heap}
theorem ok_is_number (T : Txt K mg) : FnOk P w K mg base CX0 1 T.a_is_number T.d_is_number ["value", "least", "most"] (sp_is_number K) := by
  refine T.F_is_number.ok sc_is_number (fun vs H Q E h => ?_) (fun cdv A outer s H vs Q E hr h => ?_)
  · obtain ⟨v, lo, hi, rfl, _⟩ := h
    rfl
  · obtain ⟨v, lo, hi, rfl, hv, q⟩ := h
    refine ⟨_, (pss_one (ps_ret (pe_and (pe_callB (call_isiK (K := K) rfl) rfl T.n_isinstance (by decide +kernel) (pa_cons (pv 0) (pa_cons (pe_bltn (v := .ty "int") (u := .type "int") rfl T.n_int (by decide +kernel) rfl) pa_nil))) (pe_and (pe_not (pe_callB (call_isiK (K := K) rfl) rfl T.n_isinstance (by decide +kernel) (pa_cons (pv 0) (pa_cons (pe_bltn (v := .ty "bool") (u := .type "bool") rfl T.n_bool (by decide +kernel) rfl) pa_nil)))) (pe_one (pe_chain op_le op_le (pv 1) (pv 0) (pv 2))))))), ?_⟩
    rcases hv with ⟨i, rfl⟩ | ⟨b, rfl⟩ | ⟨n1, n2, t, ht, hk⟩
    · refine ⟨_, rfl, _, _, _, _, true, rfl, .ty _, .base (.int i), kit_ty (by decide +kernel), _, rfl, iteT ?_⟩
      refine ⟨_, rfl, _, _, _, _, false, rfl, .ty _, .base (.int i), kit_ty (by decide +kernel), _, rfl, _, rfl, iteT ?_⟩
      refine ⟨_, rfl, _, rfl, _, _, rfl, rfl, _, rfl, ?_⟩
      by_cases c : lo ≤ i
      · rw [if_pos (decide_eq_true c)]
        refine ⟨_, rfl, _, _, rfl, rfl, ?_⟩
        have e : numB (.int i) lo hi = decide (i ≤ hi) := by simp [numB, c]
        rw [e] at q
        exact q
      · rw [if_neg (by rw [decide_eq_false c]; exact Bool.false_ne_true)]
        have e : numB (.int i) lo hi = false := by simp [numB, c]
        rw [e] at q
        exact q
    · refine ⟨_, rfl, _, _, _, _, true, rfl, .ty _, .base (.bl b), kit_ty (by decide +kernel), _, rfl, iteT ?_⟩
      exact ⟨_, rfl, _, _, _, _, true, rfl, .ty _, .base (.bl b), kit_ty (by decide +kernel), _, rfl, _, rfl, iteF q⟩
    · refine ⟨_, rfl, _, _, _, _, false, rfl, .ty _, ht, hk, _, rfl, iteF ?_⟩
      have e : numB v lo hi = false := by
        cases v with
        | int i => exact absurd rfl (n1 i)
        | _ => rfl
      rw [e] at q
      exact q
theorem ok_check_number (T : Txt K mg) : FnOk P w K mg base CX0 2 T.a_check_number T.d_check_number ["value", "least", "most"] (sp_check_number K) := by
  refine T.F_check_number.ok sc_check_number (fun vs H Q E h => ?_) (fun cdv A outer s H vs Q E hr h => ?_)
  · obtain ⟨v, lo, hi, rfl, _⟩ := h
    rfl
  · obtain ⟨v, lo, hi, rfl, hv, hb, q⟩ := h
    refine ⟨_, (pss_one (ps_if (pt_not (pt_val (pe_call (ok_is_number T) (hr.mono (by decide)) rfl T.m_is_number T.F_is_number.kp T.b_is_number .nil pass0 (pa_cons (pv 0) (pa_cons (pv 1) (pa_cons (pv 2) pa_nil)))))) (pss_one ps_never) pss_nil)), ?_⟩
    refine ⟨_, rfl, _, rfl, _, rfl, v, lo, hi, rfl, hv, _, rfl, ?_⟩
    rw [hb]
    exact iteF q
theorem ok_check_letters (T : Txt K mg) : FnOk P w K mg base CX0 3 T.a_check_letters T.d_check_letters ["letters"] sp_check_letters := by
  refine T.F_check_letters.ok sc_check_letters (fun vs H Q E h => ?_) (fun cdv A outer s H vs Q E hr h => ?_)
  · obtain ⟨k, rfl, _⟩ := h
    rfl
  · obtain ⟨k, rfl, h1, h2, q⟩ := h
    refine ⟨_, (pss_one (ps_expr (pe_call (ok_check_number T) (hr.mono (by decide)) rfl T.m_check_number T.F_check_number.kp T.b_check_number .nil pass0 (pa_cons (pv 0) (pa_cons pe_int (pa_cons (pe_glob (v := .int 4) rfl T.g_MAX_LETTERS ⟨_, rfl⟩) pa_nil)))))), ?_⟩
    exact ⟨_, rfl, _, _, _, rfl, .inl ⟨k, rfl⟩, by simp [numB, h1, h2], q⟩
theorem ok_is_spelled (T : Txt K mg) : FnOk P w K mg base CX0 2 T.a_is_spelled T.d_is_spelled ["letters", "value", "most"] (sp_is_spelled K) := by
  refine T.F_is_spelled.ok sc_is_spelled (fun vs H Q E h => ?_) (fun cdv A outer s H vs Q E hr h => ?_)
  · obtain ⟨k, most, v, rfl, _⟩ := h
    rfl
  · obtain ⟨k, most, v, rfl, h⟩ := h
    refine ⟨_, (pss_cons (ps_if (PW.pt (pw_or (pt_not (pt_val (pe_callB (call_isiK (K := K) rfl) rfl T.n_isinstance (by decide +kernel) (pa_cons (pv 1) (pa_cons (pe_bltn (v := .ty "tuple") (u := .type "tuple") rfl T.n_tuple (by decide +kernel) rfl) pa_nil))))) (pw_or1 (pt_cmpR op_gt (pe_callB call_len_seq rfl T.n_len (by decide +kernel) (pa_cons (pv 1) pa_nil)) (pv 2) (nomark _))))) (pss_one (ps_ret pe_bl)) pss_nil) (pss_one (ps_ret (pe_callB (cr_all rfl) rfl T.n_all (by decide +kernel) (pa_cons (pe_lc (own := [("letter", 3)]) rfl sc_is_spelled.nd (pi_tup (pv 1)) (blkOk_by (own := [("letter", 3)]) (N := ["letters", "value", "most", "letter"]) (sc := defScope s_is_spelled) (by decide +kernel)) (fun _ _ _ _ _ => (pg_name (i := 3) sc_is_spelled.nd rfl (Or.inl rfl))) (fun _ _ _ _ _ => pts_nil) (fun _ _ _ _ _ => (pe_call (ok_is_number T) (hr.mono (by decide)) rfl T.m_is_number T.F_is_number.kp T.b_is_number .nil pass0 (pa_cons (pv 3) (pa_cons pe_int (pa_cons (pe_op op_sub (pv 0) pe_int) pa_nil)))))) pa_nil))))), ?_⟩
    rcases h with ⟨⟨t, ht, hk⟩, q⟩ | ⟨a, xs, rfl, hx, hz, hn, q⟩
    · exact ⟨_, rfl, _, _, _, _, false, rfl, .ty _, ht, hk, _, rfl, iteT (iteT q)⟩
    · refine ⟨_, rfl, _, _, _, _, true, rfl, .ty _, tyx_sqt hx, kit_ty (by decide +kernel), _, rfl, iteF ?_⟩
      refine ⟨_, rfl, _, _, rfl, .inr hx, _, rfl, _, _, rfl, rfl, _, rfl, ?_⟩
      by_cases c : (xs.length : Int) > most
      · refine ifT (decide_eq_true c) ?_
        have e : spelled xs k most = false := by
          unfold spelled
          rw [decide_eq_false (by omega), Bool.false_and]
        rw [e] at q
        exact q H (Same.refl H)
      · refine ifF (decide_eq_false c) ?_
        refine ⟨_, rfl, a, rfl, ⟨_, hx⟩, ?_⟩
        refine lc_tupF (i := 3) (f := fun x => .bl (numB x 0 (k - 1))) hx hz (fun x hm H2 Q2 s2 q2 => ?_) fun H2 p s2 _ hp => ?_
        · exact ⟨_, rfl, _, rfl, _, _, rfl, rfl, _, _, _, rfl, hn x hm H2 s2, q2 H2 (Same.refl H2)⟩
        · refine ⟨p, xs.map fun x => numB x 0 (k - 1), rfl, SqL.of (by rw [List.map_map]; exact hp), ?_⟩
          have e : spelled xs k most = (xs.map fun x => numB x 0 (k - 1)).all id := by
            unfold spelled
            rw [decide_eq_true (by omega), Bool.true_and, List.all_map]
            rfl
          rw [← e]
          exact q H2 s2
theorem ok_check_word (T : Txt K mg) : FnOk P w K mg base CX0 3 T.a_check_word T.d_check_word ["letters", "word"] (sp_check_word K) := by
  refine T.F_check_word.ok sc_check_word (fun vs H Q E h => ?_) (fun cdv A outer s H vs Q E hr h => ?_)
  · obtain ⟨k, v, ws, rfl, _⟩ := h
    rfl
  · obtain ⟨k, v, ws, rfl, ⟨a, rfl, ha⟩, hk, q⟩ := h
    refine ⟨_, (pss_one (ps_if (pt_not (pt_val (pe_call (ok_is_spelled T) (hr.mono (by decide)) rfl T.m_is_spelled T.F_is_spelled.kp T.b_is_spelled .nil pass0 (pa_cons (pv 0) (pa_cons (pv 1) (pa_cons (pe_glob (v := .int 200) rfl T.g_MAX_WORD ⟨_, rfl⟩) pa_nil)))))) (pss_one ps_never) pss_nil)), ?_⟩
    refine ⟨_, rfl, _, rfl, k, 200, _, rfl, .inr ⟨a, _, rfl, ha, len_small (by have := hk.1; omega), numV_ints, fun H2 s2 => ⟨_, rfl, ?_⟩⟩⟩
    rw [spelled_ok hk (Int.le_refl _)]
    exact iteF (q H2 s2)
end
end K05
/-! K05w -/
set_option Elab.async false
set_option linter.all false
set_option maxRecDepth 100000
set_option maxHeartbeats 2000000
namespace K05
open PySem PySem.Spec PyProof.Rows L2 PpSet RL
theorem from_end (ws : List Int) (i : Nat) (h : i < ws.length) : ws[((ws.length : Int) - 1 - (i : Int)).toNat]? = ws.reverse[i]? := by
  have e : ((ws.length : Int) - 1 - (i : Int)).toNat = ws.length - 1 - i := by omega
  rw [e, List.getElem?_reverse h]
section
variable {P : Program} {w : World} {K : PySem.W.Frag} {mg : Str → Option Value} {base : Heap}
theorem ok_order_words (T : Txt K mg) : FnOk P w K mg base CX0 1 T.a_order_words T.d_order_words ["one", "other"] (sp_order_words K) := by
  refine T.F_order_words.ok sc_order_words (fun vs H Q E h => ?_) (fun cdv A outer s H vs Q E hr h => ?_)
  · obtain ⟨v, u, a, b, rfl, _⟩ := h
    rfl
  · obtain ⟨v, u, a, b, rfl, ha, hb, q⟩ := h
    refine ⟨_, (pss_cons (ps_if (pt_cmpR (op_eqD hr.units) (pv 0) (pv 1) (nomark _)) (pss_one (ps_ret pe_int)) pss_nil) (pss_one (ps_ret (pe_ifExp (pt_cmpR (op_ltT hr.units0) (pe_revK (K := K) rfl (pv 0)) (pe_revK (K := K) rfl (pv 1)) (nomark _)) (pe_un un_neg pe_int) pe_int)))), ?_⟩
    refine ⟨_, rfl, _, rfl, _, _, ha.dp, hb.dp, shaped_tup a, shaped_tup b, _, rfl, ?_⟩
    rw [eqv_tup]
    obtain ⟨x, rfl, hx⟩ := ha
    obtain ⟨y, rfl, hy⟩ := hb
    by_cases c : a = b
    · refine ifT (decide_eq_true c) ?_
      have e : ordW a b = 0 := by simp [ordW, c]
      rw [e] at q
      exact q H (Same.refl H)
    · refine ifF (decide_eq_false c) ?_
      refine ⟨_, rfl, x, _, rfl, hx, fun H2 p s2 hp => ⟨_, rfl, y, _, rfl, Same.sqt s2 hy, fun H3 r s3 hr => ⟨p, r, a.reverse, b.reverse, rfl, rfl, by rw [List.map_reverse]; exact Same.sqt s3 hp, by rw [List.map_reverse]; exact hr, _, rfl, ?_⟩⟩⟩
      have e : ordW a b = if HT.lexLt a.reverse b.reverse = true then -1 else 1 := by simp [ordW, c]
      rw [e] at q
      cases hl : HT.lexLt a.reverse b.reverse with
      | true =>
        rw [hl, if_pos rfl] at q
        exact iteT ⟨_, rfl, q H3 (Same.trans s2 s3)⟩
      | false =>
        rw [hl, if_neg Bool.false_ne_true] at q
        exact iteF (q H3 (Same.trans s2 s3))
theorem ok_count_common (T : Txt K mg) : FnOk P w K mg base CX0 1 T.a_count_common T.d_count_common ["one", "other"] (sp_count_common K) := by
  refine T.F_count_common.ok sc_count_common (fun vs H Q E h => ?_) (fun cdv A outer s H vs Q E hr h => ?_)
  · obtain ⟨v, u, a, b, rfl, _⟩ := h
    rfl
  · obtain ⟨v, u, a, b, rfl, ⟨x, rfl, hx⟩, ⟨y, rfl, hy⟩, q⟩ := h
    refine ⟨_, (pss_cons (ps_set (i := 2) sc_count_common.nd rfl (Or.inl rfl) (pe_callB (call_min2 rfl) rfl T.n_min (by decide +kernel) (pa_cons (pe_callB call_len_seq rfl T.n_len (by decide +kernel) (pa_cons (pv 0) pa_nil)) (pa_cons (pe_callB call_len_seq rfl T.n_len (by decide +kernel) (pa_cons (pv 1) pa_nil)) pa_nil)))) (pss_cons (ps_set (i := 3) sc_count_common.nd rfl (Or.inl rfl) pe_int) (pss_cons (ps_while PassesOwn.never (PW.pt (pw_and (pt_cmpR op_lt (pv 3) (pv 2) (nomark _)) (pw_and1 (pt_cmpR op_eq (pe_ix ix_tup (pv 0) (pe_op op_sub (pe_op op_sub (pe_callB call_len_seq rfl T.n_len (by decide +kernel) (pa_cons (pv 0) pa_nil)) pe_int) (pv 3)) (fun _ _ => rfl)) (pe_ix ix_tup (pv 1) (pe_op op_sub (pe_op op_sub (pe_callB call_len_seq rfl T.n_len (by decide +kernel) (pa_cons (pv 1) pa_nil)) pe_int) (pv 3)) (fun _ _ => rfl)) (nomark _))))) (pss_one (ps_aug (i := 3) sc_count_common.nd rfl (Or.inl rfl) pe_int ip_add))) (pss_one (ps_ret (pv 3)))))), ?_⟩
    have la : (a.map V.int).length = a.length := List.length_map _
    have lb : (b.map V.int).length = b.length := List.length_map _
    have cl := cpl_le a.reverse b.reverse
    rw [List.length_reverse, List.length_reverse] at cl
    refine ⟨_, rfl, _, _, rfl, .inr hx, _, rfl, _, _, rfl, .inr hy, _, _, rfl, ?_⟩
    rw [la, lb]
    have em : (if (b.length : Int) < (a.length : Int) then (b.length : Int) else (a.length : Int)) = ((min a.length b.length : Nat) : Int) := by split <;> omega
    rw [em]
    refine ⟨fun m σ H2 => H2 = H ∧ ∃ i : Nat, i ≤ cpl a.reverse b.reverse ∧ m = min a.length b.length - i ∧ σ = [some (.ref x), some (.ref y), some (.int ((min a.length b.length : Nat) : Int)), some (.int (i : Int))], ⟨_, rfl, 0, Nat.zero_le _, rfl, rfl⟩, ?_⟩
    rintro m σ H2 ⟨rfl, i, hi, rfl, rfl⟩
    refine ⟨_, rfl, _, rfl, _, _, rfl, rfl, _, rfl, ?_⟩
    by_cases c : (i : Int) < ((min a.length b.length : Nat) : Int)
    · refine ifT (decide_eq_true c) ?_
      have ia : i < a.length := by omega
      have ib : i < b.length := by omega
      have ea := from_end a i ia
      have eb := from_end b i ib
      have ra : i < a.reverse.length := by rw [List.length_reverse]; exact ia
      have rb : i < b.reverse.length := by rw [List.length_reverse]; exact ib
      rw [List.getElem?_eq_getElem ra] at ea
      rw [List.getElem?_eq_getElem rb] at eb
      refine ⟨_, rfl, _, rfl, _, _, rfl, .inr hx, _, _, rfl, rfl, _, rfl, _, _, rfl, rfl, x, _, _, _, rfl, rfl, hx, at_int (by rw [la]; omega) (by rw [la]; exact ea), ?_⟩
      refine ⟨_, rfl, _, rfl, _, _, rfl, .inr hy, _, _, rfl, rfl, _, rfl, _, _, rfl, rfl, y, _, _, _, rfl, rfl, hy, at_int (by rw [lb]; omega) (by rw [lb]; exact eb), ?_⟩
      refine ⟨rfl, _, rfl, ?_⟩
      by_cases d : a.reverse[i] = b.reverse[i]
      · refine ifT (decide_eq_true (by rw [d])) ⟨_, fun σ' H' z => z, ?_⟩
        refine ⟨_, rfl, _, _, rfl, rfl, ?_⟩
        refine ⟨min a.length b.length - (i + 1), by omega, rfl, i + 1, ?_, rfl, rfl⟩
        refine Nat.lt_of_le_of_ne hi fun z => ?_
        have n := cpl_ne a.reverse b.reverse (by rw [List.length_reverse, List.length_reverse]; omega)
        rw [← z, List.getElem?_eq_getElem ra, List.getElem?_eq_getElem rb, d] at n
        exact n rfl
      · refine ifF (decide_eq_false (fun z => d (by injection z))) ?_
        have e : cpl a.reverse b.reverse = i := by
          refine Nat.le_antisymm (Nat.le_of_not_lt fun z => ?_) hi
          have n := cpl_at _ _ _ z
          rw [List.getElem?_eq_getElem ra, List.getElem?_eq_getElem rb] at n
          exact d (Option.some.inj n)
        rw [e] at q
        exact ⟨_, rfl, q⟩
    · refine ifF (decide_eq_false c) ?_
      have e : cpl a.reverse b.reverse = i := by omega
      rw [e] at q
      exact ⟨_, rfl, q⟩
end
end K05
/-! K05b -/
set_option Elab.async false
set_option linter.all false
set_option maxRecDepth 100000
set_option maxHeartbeats 2000000
namespace K05
open PySem PySem.Spec PyProof.Rows L2 PpSet RL
/-- the bag: three whole numbers -/
def Bag (b : Addr) (H : Hp) : Prop := ∃ x y z : Int, H b = some (.lst [.int x, .int y, .int z])
/-- all but the bag stands -/
def Kp (b : Addr) (H H' : Hp) : Prop := Bag b H' ∧ ∀ a u, a ≠ b → H a = some u → H' a = some u
theorem Kp.refl {b : Addr} {H : Hp} (h : Bag b H) : Kp b H H := ⟨h, fun _ _ _ z => z⟩
theorem Kp.trans {b : Addr} {H H1 H2 : Hp} (h : Kp b H H1) (k : Kp b H1 H2) : Kp b H H2 := ⟨k.1, fun a u n z => k.2 a u n (h.2 a u n z)⟩
theorem Bag.same {b : Addr} {H H' : Hp} (h : Bag b H) (s : Same H H') : Bag b H' := let ⟨x, y, z, e⟩ := h; ⟨x, y, z, s _ _ e⟩
theorem Kp.of {b : Addr} {H H' : Hp} (h : Bag b H) (s : Same H H') : Kp b H H' := ⟨h.same s, fun a u _ z => s a u z⟩
theorem Kp.more {b : Addr} {H H1 H2 : Hp} (h : Kp b H H1) (s : Same H1 H2) : Kp b H H2 := h.trans (Kp.of h.1 s)
theorem Kp.stay {b : Addr} {H H' : Hp} (h : Bag b H) (k : Kp b H H') : Stay H H' := by
  obtain ⟨x, y, z, e⟩ := h
  exact ⟨fun a xs q => k.2 a _ (fun c => by subst c; rw [e] at q; cases q) q, fun a o u q => k.2 a _ (fun c => by subst c; rw [e] at q; cases q) q⟩
theorem Bag.upd {b D : Addr} {H : Hp} {o : HO} (h : Bag b H) (n : D ≠ b) : Bag b (upd H D o) := by
  obtain ⟨x, y, z, e⟩ := h
  exact ⟨x, y, z, by rw [upd_ne (Ne.symm n)]; exact e⟩
theorem Kp.mut {b D : Addr} {H H' : Hp} {o : HO} (hD : H D = none) (n : D ≠ b) (k : Kp b H H') : Kp b H (upd H' D o) :=
  ⟨k.1.upd n, fun a u na z => by rw [upd_ne (fun c => by subst c; rw [hD] at z; cases z)]; exact k.2 a u na z⟩
theorem Kp.set {b : Addr} {H : Hp} {x y z : Int} : Kp b H (upd H b (.lst [.int x, .int y, .int z])) := ⟨⟨x, y, z, upd_same⟩, fun a u n e => by rw [upd_ne n]; exact e⟩
theorem ne_bag {b p : Addr} {H : Hp} (h : Bag b H) (hp : H p = none) : p ≠ b := fun e => by
  obtain ⟨x, y, z, q⟩ := h
  rw [← e, hp] at q
  cases q
/-- [e for _ in range(n)], e draws from the bag -/
theorem lc_rngB {te : TE} {σ : L2.St} {H1 : Hp} {i : Nat} {b : Addr} {Qd : Addr → Hp → Prop} {lo : Int} {n : Nat} (R : Hp → V → Prop) (mono : ∀ H H' y, Stay H H' → R H y → R H' y) (hb : Bag b H1) (hz : n < sizeLine)
    (el : ∀ j, j < n → ∀ (H : Hp) (Q : VK), Kp b H1 H → (∀ H' y, Kp b H H' → R H' y → Q y H') → te ((wipe σ [i]).set i (some (.int (lo + j)))) H Q)
    (fin : ∀ H' p ys, Kp b H1 H' → H1 p = none → H' p = some (.lst ys) → ys.length = n → (∀ y ∈ ys, R H' y) → Qd p H') :
    ∀ D, H1 D = none → ∃ W : Nat → Nat → Hp → Prop, (∃ m, W 0 m (upd H1 D (.lst []))) ∧ ∀ j m H, W j m H →
      ((Itr lo n).stop j H ∧ Qd D H) ∨ ((Itr lo n).go j H ∧ ∃ Nx : Hp → Prop, (∀ H', Nx H' → ∃ m', m' < m ∧ W (j + 1) m' H') ∧ ∀ x H', (Itr lo n).yld j H x H' → gName i x (wipe σ [i]) H' fun σ2 H2 => wipe σ2 [i] = wipe σ [i] ∧ tYes σ2 H2 fun b H3 =>
        if b = true then te σ2 H3 fun y H4 => ∃ acc, H4 D = some (.lst acc) ∧ acc.length < sizeLine ∧ Nx (upd H4 D (.lst (acc ++ [y]))) else Nx H3) := by
  intro D hD
  have nD := ne_bag hb hD
  refine lc_range (Qd := fun H => Qd D H) (fun j H => j ≤ n ∧ Kp b H1 H ∧ ∃ ys, H D = some (.lst ys) ∧ ys.length = j ∧ ∀ y ∈ ys, R H y) ⟨Nat.zero_le _, Kp.of hb (same_upd hD _), [], upd_same, rfl, fun y hy => by cases hy⟩ (fun j H hj p => ?_) fun H p => ?_
  · obtain ⟨_, s, ys, hys, hl, e⟩ := p
    refine ⟨wipe_one _ _ _, ?_⟩
    dsimp only [tYes]
    rw [if_pos rfl]
    refine el j hj H _ s fun H' y s2 r => ?_
    have h := s2.2 _ _ nD hys
    have st := stay_lst (o' := .lst (ys ++ [y])) h
    refine ⟨ys, h, by omega, hj, (Kp.trans s s2).mut hD nD, _, upd_same, by simp [hl], fun z hz => ?_⟩
    rcases List.mem_append.mp hz with hz | hz
    · exact mono _ _ _ (Stay.trans (Kp.stay s.1 s2) st) (e z hz)
    · rw [List.mem_singleton.mp hz]
      exact mono _ _ _ st r
  · obtain ⟨_, s, ys, hys, hl, e⟩ := p
    exact fin H D ys s hD hys hl e
theorem ints_of {ys : List V} {P : Int → Prop} (h : ∀ y ∈ ys, ∃ r, y = .int r ∧ P r) : ∃ ws : List Int, ys = ws.map V.int ∧ ∀ x ∈ ws, P x := by
  induction ys with
  | nil => exact ⟨[], rfl, fun x hx => by cases hx⟩
  | cons y ys ih =>
    obtain ⟨ws, rfl, hw⟩ := ih fun z hz => h z (List.mem_cons_of_mem _ hz)
    obtain ⟨r, rfl, hr⟩ := h y List.mem_cons_self
    exact ⟨r :: ws, rfl, fun x hx => (List.mem_cons.mp hx).elim (fun e => e ▸ hr) (hw x)⟩
def sp__law_bag (K : PySem.W.Frag) : Sp := fun vs H Q _ => ∃ (a : Addr) (xs : List Int) (j : Nat), vs = [.ref a, .int j] ∧ SqL K H a (xs.map V.int) ∧ j < 1000 ∧ ∀ H' p, Same H H' → Bag p H' → H p = none → Q (.ref p) H'
def sp__law_grab : Sp := fun vs H Q _ => ∃ (b : Addr) (n : Int), vs = [.ref b, .int n] ∧ Bag b H ∧ 0 < n ∧ n < 2 ^ 64 ∧ ∀ H' r, Kp b H H' → 0 ≤ r → r < n → Q (.int r) H'
def sp__law_word_drawn (K : PySem.W.Frag) : Sp := fun vs H Q _ => ∃ (b : Addr) (k most : Int), vs = [.ref b, .int k, .int most] ∧ Bag b H ∧ 1 ≤ k ∧ k ≤ 4 ∧ 0 ≤ most ∧ most ≤ 100 ∧ ∀ H' v ws, Kp b H H' → IsW K H' v ws → ws.length ≤ most → (∀ x ∈ ws, 0 ≤ x ∧ x < k) → Q v H'
section
variable {P : Program} {w : World} {K : PySem.W.Frag} {mg : Str → Option Value} {base : Heap}
theorem ok__law_bag (T : Txt K mg) : FnOk P w K mg base CX0 1 T.a__law_bag T.d__law_bag ["script", "spot"] (sp__law_bag K) := by
  refine T.F__law_bag.ok sc__law_bag (fun vs H Q E h => ?_) (fun cdv A outer s H vs Q E hr h => ?_)
  · obtain ⟨a, xs, j, rfl, _⟩ := h
    rfl
  · obtain ⟨a, xs, j, rfl, hx, hj, q⟩ := h
    refine ⟨_, (pss_cons (ps_set (i := 2) sc__law_bag.nd rfl (Or.inl rfl) (pe_ifExp (pt_cmpR op_lt (pv 1) (pe_callB call_len_seq rfl T.n_len (by decide +kernel) (pa_cons (pv 0) pa_nil)) (nomark _)) (pe_ix ix_list (pv 0) (pv 1) (fun _ _ => rfl)) (pe_op op_add (pe_op op_mul pe_int (pv 1)) pe_int))) (pss_cons (ps_set (i := 3) sc__law_bag.nd rfl (Or.inl rfl) (pe_op op_mod (pe_callTy call_int1 rfl T.n_int (by decide +kernel) (pa_cons (pe_callB call_abs rfl T.n_abs (by decide +kernel) (pa_cons (pv 2) pa_nil)) pa_nil)) (pe_op op_mulW (pe_op op_pow pe_int pe_int) (pe_op op_pow pe_int pe_int)))) (pss_cons (ps_set (i := 4) sc__law_bag.nd rfl (Or.inl rfl) (pe_op op_add (pe_op op_add (pe_op op_add (pe_op op_mul (pe_op op_mod (pv 3) pe_int) pe_int) (pe_op op_mul pe_int (pv 1))) (pe_op op_mul pe_int (pe_callTy call_int1 rfl T.n_int (by decide +kernel) (pa_cons (pe_cmpR op_lt (pv 2) pe_int (nomark _)) pa_nil)))) pe_int)) (pss_one (ps_ret (pe_lstS (pa_cons (pe_callB (call_max2 rfl) rfl T.n_max (by decide +kernel) (pa_cons pe_int (pa_cons (pe_op op_sub (pv 3) (pe_op op_pow pe_int pe_int)) pa_nil))) (pa_cons (pe_op op_mod (pe_callTy call_int1 rfl T.n_int (by decide +kernel) (pa_cons (pv 4) pa_nil)) pe_int) (pa_cons pe_int pa_nil))))))))), ?_⟩
    have pw : ∀ n : Nat, n ≤ 60 → CPow 10 n := fun n hn => ⟨by omega, by omega, by decide⟩
    refine ⟨_, rfl, _, rfl, _, _, rfl, .inl hx, _, _, rfl, rfl, _, rfl, ?_⟩
    by_cases c : j < xs.length
    · refine ifT (decide_eq_true (by rw [List.length_map]; omega)) ⟨_, rfl, _, rfl, a, _, _, _, rfl, rfl, hx, at_int (by omega) (by rw [Int.toNat_natCast]; exact List.getElem?_eq_getElem c), ?_⟩
      refine ⟨_, rfl, _, rfl, .inl ⟨_, rfl, _, _, rfl, rfl, pw _ (by decide), _, _, rfl, rfl, pw _ (by decide), _, _, rfl, rfl, (by show _ < 1000000; decide +kernel), _, _, rfl, rfl, (by show (0 : Int) < _; decide +kernel), ?_⟩⟩
      refine ⟨_, rfl, _, _, rfl, rfl, (by show (0 : Int) < _; decide), _, _, rfl, rfl, .inr (by decide), _, rfl, _, _, rfl, rfl, .inl (by decide), _, _, rfl, rfl, ?_⟩
      refine ⟨_, rfl, _, _, rfl, rfl, .inr ⟨_, rfl, _, _, rfl, rfl, .inl (by decide), _, _, rfl, rfl, _, _, rfl, rfl, ?_⟩⟩
      refine ⟨_, rfl, _, _, rfl, rfl, pw _ (by decide), _, _, rfl, rfl, _, _, rfl, ?_⟩
      refine ⟨_, rfl, .inl ⟨_, rfl, _, _, rfl, rfl, (by show (0 : Int) < _; decide), (by show 3 ≤ sizeLine; decide), fun H2 p s2 hp h2 => q H2 p s2 ⟨_, _, _, h2⟩ hp⟩⟩
    · refine ifF (decide_eq_false (by rw [List.length_map]; omega)) ?_
      refine ⟨_, rfl, _, _, rfl, rfl, .inl (by decide), _, _, rfl, rfl, ?_⟩
      refine ⟨_, rfl, _, rfl, .inl ⟨_, rfl, _, _, rfl, rfl, pw _ (by decide), _, _, rfl, rfl, pw _ (by decide), _, _, rfl, rfl, (by show _ < 1000000; decide +kernel), _, _, rfl, rfl, (by show (0 : Int) < _; decide +kernel), ?_⟩⟩
      refine ⟨_, rfl, _, _, rfl, rfl, (by show (0 : Int) < _; decide), _, _, rfl, rfl, .inr (by decide), _, rfl, _, _, rfl, rfl, .inl (by decide), _, _, rfl, rfl, ?_⟩
      refine ⟨_, rfl, _, _, rfl, rfl, .inr ⟨_, rfl, _, _, rfl, rfl, .inl (by decide), _, _, rfl, rfl, _, _, rfl, rfl, ?_⟩⟩
      refine ⟨_, rfl, _, _, rfl, rfl, pw _ (by decide), _, _, rfl, rfl, _, _, rfl, ?_⟩
      refine ⟨_, rfl, .inl ⟨_, rfl, _, _, rfl, rfl, (by show (0 : Int) < _; decide), (by show 3 ≤ sizeLine; decide), fun H2 p s2 hp h2 => q H2 p s2 ⟨_, _, _, h2⟩ hp⟩⟩
theorem ok__law_grab (T : Txt K mg) : FnOk P w K mg base CX0 1 T.a__law_grab T.d__law_grab ["bag", "total"] sp__law_grab := by
  refine T.F__law_grab.ok sc__law_grab (fun vs H Q E h => ?_) (fun cdv A outer s H vs Q E hr h => ?_)
  · obtain ⟨b, n, rfl, _⟩ := h
    rfl
  · obtain ⟨b, n, rfl, ⟨x, y, z, hb⟩, h0, h1, q⟩ := h
    refine ⟨_, (pss_cons (ps_if (pt_cmpR op_gt (pe_ix ix_list (pv 0) pe_int (fun _ _ => rfl)) pe_int (nomark _)) (pss_cons (ps_set (i := 2) sc__law_grab.nd rfl (Or.inl rfl) (pe_op op_mod (pe_callTy call_int1 rfl T.n_int (by decide +kernel) (pa_cons (pe_ix ix_list (pv 0) pe_int (fun _ _ => rfl)) pa_nil)) (pv 1))) (pss_cons (ps_asg (pe_op op_fdivW (pe_ix ix_list (pv 0) pe_int (fun _ _ => rfl)) (pv 1)) (pg_sub (pv 0) pe_int set_list)) (pss_one (ps_ret (pv 2))))) pss_nil) (pss_cons (ps_asg (pe_op op_add (pe_ix ix_list (pv 0) pe_int (fun _ _ => rfl)) pe_int) (pg_sub (pv 0) pe_int set_list)) (pss_cons (ps_set (i := 3) sc__law_grab.nd rfl (Or.inl rfl) (pe_op op_mod (pe_callTy call_int1 rfl T.n_int (by decide +kernel) (pa_cons (pe_op op_add (pe_ix ix_list (pv 0) pe_int (fun _ _ => rfl)) (pe_op op_mul pe_int (pe_ix ix_list (pv 0) pe_int (fun _ _ => rfl)))) pa_nil)) pe_int)) (pss_cons (ps_set (i := 4) sc__law_grab.nd rfl (Or.inl rfl) (pe_op op_add (pe_op op_mul (pe_op op_mod (pe_callTy call_int1 rfl T.n_int (by decide +kernel) (pa_cons (pe_op op_add (pe_op op_mul (pv 3) (pv 3)) (pe_op op_mul pe_int (pe_ix ix_list (pv 0) pe_int (fun _ _ => rfl)))) pa_nil)) pe_int) pe_int) (pv 3))) (pss_one (ps_ret (pe_op op_mod (pe_callTy call_int1 rfl T.n_int (by decide +kernel) (pa_cons (pe_op op_fdivW (pv 4) pe_int) pa_nil)) (pv 1)))))))), ?_⟩
    have hl := SqL.of (K := K) hb
    refine ⟨_, rfl, b, _, _, _, rfl, rfl, hl, rfl, _, _, rfl, rfl, _, rfl, ?_⟩
    by_cases c : x > 0
    · refine ifT (decide_eq_true c) ?_
      refine ⟨_, rfl, b, _, _, _, rfl, rfl, hl, rfl, .inl ⟨_, rfl, _, rfl, _, _, rfl, rfl, h0, ?_⟩⟩
      refine ⟨_, rfl, b, _, _, _, rfl, rfl, hl, rfl, _, rfl, _, _, rfl, rfl, wide_div (b := 64) h0 (by omega) (by decide) (by decide), ?_⟩
      refine ⟨_, rfl, b, _, _, _, rfl, rfl, hb, rfl, _, rfl, ?_⟩
      exact q _ _ Kp.set (Int.emod_nonneg _ (by omega)) (Int.emod_lt_of_pos _ h0)
    · refine ifF (decide_eq_false c) ?_
      refine ⟨_, rfl, b, _, _, _, rfl, rfl, hl, rfl, _, _, rfl, rfl, ?_⟩
      refine ⟨_, rfl, b, _, _, _, rfl, rfl, hb, rfl, ?_⟩
      have hl2 : SqL K (upd H b (.lst [.int x, .int y, .int (z + 1)])) b [.int x, .int y, .int (z + 1)] := SqL.of upd_same
      refine ⟨_, rfl, b, _, _, _, rfl, rfl, hl2, rfl, _, rfl, b, _, _, _, rfl, rfl, hl2, rfl, _, _, rfl, rfl, .inl (by decide), _, _, rfl, rfl, .inl ⟨_, rfl, _, _, rfl, rfl, (by show (0 : Int) < _; decide), ?_⟩⟩
      generalize ho : (y + 67867967 * (z + 1)) % 2305843009213693951 = one
      have o0 : 0 ≤ one := ho ▸ Int.emod_nonneg _ (by decide)
      have o1 : one < 2305843009213693951 := ho ▸ Int.emod_lt_of_pos _ (by decide)
      refine ⟨_, rfl, _, rfl, _, _, rfl, rfl, .inl (by omega), _, rfl, b, _, _, _, rfl, rfl, hl2, rfl, _, _, rfl, rfl, .inl (by decide), _, _, rfl, rfl, .inl ⟨_, rfl, _, _, rfl, rfl, (by show (0 : Int) < _; decide), ?_⟩⟩
      refine ⟨_, _, rfl, rfl, .inr (by decide), _, rfl, _, _, rfl, rfl, ?_⟩
      refine ⟨_, rfl, _, _, rfl, rfl, wide_div (b := 64) (by decide) (by decide) (by decide) (by decide), .inl ⟨_, rfl, _, rfl, _, _, rfl, rfl, h0, ?_⟩⟩
      exact q _ _ Kp.set (Int.emod_nonneg _ (by omega)) (Int.emod_lt_of_pos _ h0)
theorem ok__law_word_drawn (T : Txt K mg) : FnOk P w K mg base CX0 2 T.a__law_word_drawn T.d__law_word_drawn ["bag", "letters", "most"] (sp__law_word_drawn K) := by
  refine T.F__law_word_drawn.ok sc__law_word_drawn (fun vs H Q E h => ?_) (fun cdv A outer s H vs Q E hr h => ?_)
  · obtain ⟨b, k, most, rfl, _⟩ := h
    rfl
  · obtain ⟨b, k, most, rfl, hb, k1, k4, m0, m1, q⟩ := h
    refine ⟨_, (pss_one (ps_ret (pe_callTy call_tupS rfl T.n_tuple (by decide +kernel) (pa_cons (pe_lc (own := [("lap", 3)]) rfl sc__law_word_drawn.nd (pi_range1 rfl T.n_range (pa_cons (pe_call (ok__law_grab T) (hr.mono (by decide)) rfl T.m__law_grab T.F__law_grab.kp T.b__law_grab .nil pass0 (pa_cons (pv 0) (pa_cons (pe_op op_add (pv 2) pe_int) pa_nil))) pa_nil)) (blkOk_by (own := [("lap", 3)]) (N := ["bag", "letters", "most", "lap"]) (sc := defScope s__law_word_drawn) (by decide +kernel)) (fun _ _ _ _ _ => (pg_name (i := 3) sc__law_word_drawn.nd rfl (Or.inl rfl))) (fun _ _ _ _ _ => pts_nil) (fun _ _ _ _ _ => (pe_call (ok__law_grab T) (hr.mono (by decide)) rfl T.m__law_grab T.F__law_grab.kp T.b__law_grab .nil pass0 (pa_cons (pv 0) (pa_cons (pv 1) pa_nil))))) pa_nil)))), ?_⟩
    refine ⟨_, rfl, _, rfl, _, _, rfl, rfl, b, _, rfl, hb, by omega, by omega, fun H1 r k2 r0 r1 => ?_⟩
    refine ⟨r, rfl, by omega, by omega, lc_rngB (i := 3) (fun _ y => ∃ r, y = .int r ∧ 0 ≤ r ∧ r < k) (fun _ _ _ _ r => r) k2.1 (by rw [sizeLine_eq]; omega) (fun j hj H3 Q3 k3 q3 => ?_) fun H4 p ys k4 hp4 hp hl hy => ?_⟩
    · exact ⟨_, rfl, _, rfl, b, _, rfl, k3.1, by omega, by omega, fun H5 r' k5 a0 a1 => q3 H5 _ k5 ⟨_, rfl, a0, a1⟩⟩
    · obtain ⟨ws, rfl, hw⟩ := ints_of hy
      refine ⟨p, _, rfl, .inl (SqL.of hp), fun H5 p5 s5 hp5 => q H5 (.ref p5) ws (k2.trans (k4.more s5)) ⟨p5, rfl, hp5⟩ ?_ hw⟩
      rw [List.length_map] at hl
      omega
end
end K05
/-! K05c -/
set_option Elab.async false
set_option linter.all false
set_option maxRecDepth 100000
set_option maxHeartbeats 2000000
namespace K05
open PySem PySem.Spec PyProof.Rows L2 PpSet RL
theorem lt_at {α : Type} {l : List α} {i : Nat} {x : α} (h : l[i]? = some x) : i < l.length := (List.getElem?_eq_some_iff.mp h).1
theorem mod_nat (m n : Nat) : ((m : Int) % (n : Int)) = ((m % n : Nat) : Int) := by norm_cast
theorem div_nat (m n : Nat) : ((m : Int) / (n : Int)) = ((m / n : Nat) : Int) := by norm_cast
theorem root_is {ws : List Int} {m : Nat} (hw : ws ≠ []) (m0 : 0 < m) (h : EW.hasP ws m = true) (hl : ∀ d, 0 < d → d < m → EW.hasP ws d = false) : EW.rootL ws = m := by
  have hs := EW.rootL_spec hw
  rcases Nat.lt_trichotomy (EW.rootL ws) m with l | l | l
  · rw [hl _ hs.1 l] at hs
    exact absurd hs.2.2.1 Bool.false_ne_true
  · exact l
  · rw [hs.2.2.2 m m0 l] at h
    cases h
def sp__root (K : PySem.W.Frag) : Sp := fun vs H Q _ => ∃ (v : V) (ws : List Int), vs = [v] ∧ IsW K H v ws ∧ ws ≠ [] ∧ ws.length ≤ 1000 ∧ ∀ H' u, Same H H' → IsW K H' u (EW.root ws) → Q u H'
section
variable {P : Program} {w : World} {K : PySem.W.Frag} {mg : Str → Option Value} {base : Heap}
theorem ok__root (T : Txt K mg) : FnOk P w K mg base CX0 1 T.a__root T.d__root ["word"] (sp__root K) := by
  refine T.F__root.ok sc__root (fun vs H Q E h => ?_) (fun cdv A outer s H vs Q E hr h => ?_)
  · obtain ⟨v, ws, rfl, _⟩ := h
    rfl
  · obtain ⟨v, ws, rfl, ⟨x, rfl, hx⟩, hne, hz, q⟩ := h
    refine ⟨_, (pss_cons (ps_for PassesOwn.never rfl (pi_range2 rfl T.n_range (pa_cons pe_int (pa_cons (pe_callB call_len_seq rfl T.n_len (by decide +kernel) (pa_cons (pv 0) pa_nil)) pa_nil))) (pg_name (i := 1) sc__root.nd rfl (Or.inl rfl)) (pss_one (ps_if (PW.pt (pw_and (pt_cmpR op_eq (pe_op op_mod (pe_callB call_len_seq rfl T.n_len (by decide +kernel) (pa_cons (pv 0) pa_nil)) (pv 1)) pe_int (nomark _)) (pw_and1 (pt_cmpR (op_eqD hr.units) (pe_op op_repS (pe_slice sl_tupU (pv 0) po_none (po_some (pv 1))) (pe_op op_fdivW (pe_callB call_len_seq rfl T.n_len (by decide +kernel) (pa_cons (pv 0) pa_nil)) (pv 1))) (pv 0) (nomark _))))) (pss_one (ps_ret (pe_slice sl_tupU (pv 0) po_none (po_some (pv 1))))) pss_nil))) (pss_one (ps_ret (pv 0)))), ?_⟩
    have la : (ws.map V.int).length = ws.length := List.length_map _
    have l0 : 0 < ws.length := List.length_pos_iff.mpr hne
    refine ⟨_, rfl, _, _, rfl, .inr hx, ?_⟩
    rw [la]
    refine ⟨_, _, rfl, by omega, for_range (fun i σ H2 => Same H H2 ∧ (∀ d, 0 < d → d < 1 + i → EW.hasP ws d = false) ∧ ∃ u, σ = [some (.ref x), u]) ⟨Same.refl H, fun d h0 h1 => by omega, _, rfl⟩ ?_ ?_⟩
    · rintro i σ H2 hi ⟨s2, hno, u, rfl⟩
      have hx2 := Same.sqt s2 hx
      have hi2 : 1 + i < ws.length := by omega
      have e1 : (1 : Int) + (i : Int) = ((1 + i : Nat) : Int) := by omega
      have hm0 : (0 : Int) < ((1 + i : Nat) : Int) := by omega
      show gName 1 (V.int (1 + (i : Int))) _ _ _
      rw [e1]
      generalize hm : 1 + i = m at hi2 hm0 hno ⊢
      refine ⟨_, rfl, _, _, rfl, .inr hx2, _, rfl, _, _, rfl, rfl, hm0, rfl, _, rfl, ?_⟩
      have em : ((ws.map V.int).length : Int) % (m : Int) = ((ws.length % m : Nat) : Int) := by rw [la, mod_nat]
      have ed : ((ws.map V.int).length : Int) / (m : Int) = ((ws.length / m : Nat) : Int) := by rw [la, div_nat]
      have no : EW.hasP ws m = false → ∀ d, 0 < d → d < 1 + (i + 1) → EW.hasP ws d = false := fun hh d h0 h1 => by
        rcases Nat.lt_or_ge d m with l | l
        · exact hno d h0 l
        · have : d = m := by omega
          rw [this]; exact hh
      by_cases c : ws.length % m = 0
      · refine ifT (decide_eq_true (congrArg V.int (by rw [em, c]; rfl))) ?_
        refine ⟨_, rfl, _, rfl, _, rfl, x, _, rfl, hx2, fun H3 p s3 hp => ?_⟩
        rw [cut_to ws (by omega), Int.toNat_natCast] at hp
        have hx3 := Same.sqt s3 hx2
        refine ⟨_, rfl, _, _, rfl, .inr hx3, _, rfl, _, _, rfl, rfl, wide_div (b := 64) hm0 (by omega) (by decide) (by decide), ?_⟩
        have hq : ws.length / m ≤ ws.length := Nat.div_le_self _ _
        have ed0 := ed
        generalize hdv : ws.length / m = dv at hq ed0
        refine ⟨p, _, _, rfl, rfl, hp, by show -(2 ^ 62) ≤ ((ws.map V.int).length : Int) / (m : Int); rw [ed0]; omega, by show ((ws.map V.int).length : Int) / (m : Int) ≤ 1000; rw [ed0]; omega, by rw [List.length_map, List.length_take]; omega, fun H4 p4 s4 hp4 => ?_⟩
        rw [ed, Int.toNat_natCast, rep_int] at hp4
        have hw4 : IsW K H4 (.ref p4) (EW.rep (ws.length / m) (ws.take m)) := ⟨p4, rfl, hp4⟩
        have hx4 := Same.sqt s4 hx3
        refine ⟨_, rfl, _, _, hw4.dp, IsW.dp ⟨x, rfl, hx4⟩, shaped_tup _, shaped_tup _, _, rfl, ?_⟩
        rw [eqv_tup]
        have s24 := Same.trans s3 s4
        by_cases d : EW.rep (ws.length / m) (ws.take m) = ws
        · refine ifT (decide_eq_true d) ?_
          have hh : EW.hasP ws m = true := by
            unfold EW.hasP
            rw [decide_eq_true c, decide_eq_true d]; rfl
          have er := root_is hne (by omega) hh fun d h0 h1 => hno d h0 h1
          refine ⟨_, rfl, _, rfl, _, rfl, x, _, rfl, hx4, fun H5 p5 s5 hp5 => q H5 (.ref p5) (Same.trans s2 (Same.trans s24 s5)) ⟨p5, rfl, ?_⟩⟩
          rw [cut_to ws (by omega), Int.toNat_natCast] at hp5
          unfold EW.root
          rw [er]
          exact hp5
        · refine ifF (decide_eq_false d) ⟨Same.trans s2 s24, no ?_, _, rfl⟩
          unfold EW.hasP
          rw [decide_eq_false d, Bool.and_false]
      · refine ifF (decide_eq_false (fun z => c (by have z2 : ((ws.map V.int).length : Int) % (m : Int) = 0 := V.int.inj z; omega))) ⟨s2, no ?_, _, rfl⟩
        unfold EW.hasP
        rw [decide_eq_false c, Bool.false_and]
    · rintro σ H2 ⟨s2, hno, u, rfl⟩
      have er := root_is hne l0 (EW.hasP_all hne) fun d h0 h1 => hno d h0 (by omega)
      refine ⟨_, rfl, q H2 (.ref x) s2 ⟨x, rfl, ?_⟩⟩
      unfold EW.root
      rw [er, List.take_length]
      exact Same.sqt s2 hx
end
end K05
/-! K05d -/
set_option Elab.async false
set_option linter.all false
set_option maxRecDepth 100000
set_option maxHeartbeats 2000000
namespace K05
open PySem PySem.Spec PyProof.Rows L2 PpSet RL
def sp__kept (K : PySem.W.Frag) : Sp := fun vs H Q _ => ∃ (v u : V) (r t : List Int), vs = [v, u] ∧ IsW K H v r ∧ IsW K H u t ∧ r ≠ [] ∧ r.length ≤ 1000 ∧ t.length ≤ 1000 ∧ ∀ H' p rv tv, Same H H' → SqT K H' p [rv, tv] → IsW K H' rv (EW.kept r t).1 → IsW K H' tv (EW.kept r t).2 → Q (.ref p) H'
/-- the letters' texts -/
def txts (ws : List Int) : List Str := ws.map fun i => toString i
def sp_text (K : PySem.W.Frag) (f : List Int → Str) : Sp := fun vs H Q _ => ∃ (v : V) (ws : List Int), vs = [v] ∧ IsW K H v ws ∧ ws.length ≤ 1000 ∧ (∀ x ∈ ws, 0 ≤ x ∧ x < 4) ∧ ∀ H', Same H H' → Q (.str (f ws)) H'
theorem txt_len {i : Int} (h : 0 ≤ i ∧ i < 4) : (toString i : Str).length = 1 := by
  have : i = 0 ∨ i = 1 ∨ i = 2 ∨ i = 3 := by omega
  rcases this with rfl | rfl | rfl | rfl <;> decide +kernel
def sp1 (i : Int) : Str := Str.empty ++ " " ++ toString i
theorem sp1_len {i : Int} (h : 0 ≤ i ∧ i < 4) : (sp1 i).length = 2 := by
  have : i = 0 ∨ i = 1 ∨ i = 2 ∨ i = 3 := by omega
  rcases this with rfl | rfl | rfl | rfl <;> decide +kernel
theorem sum_of {f : Int → Str} {c : Nat} : ∀ {ws : List Int}, (∀ x ∈ ws, (f x).length = c) → ((ws.map f).map (·.length)).sum = ws.length * c
  | [], _ => by simp
  | x :: ws, h => by
    have ih := sum_of (f := f) (c := c) (ws := ws) fun y hy => h y (List.mem_cons_of_mem _ hy)
    rw [List.map_cons, List.map_cons, List.sum_cons, ih, h x List.mem_cons_self, List.length_cons, Nat.succ_mul]
    omega
theorem log_small {i : Int} (h : 0 ≤ i ∧ i < 4) : i.natAbs.log2 < 1920 := by
  have : i = 0 ∨ i = 1 ∨ i = 2 ∨ i = 3 := by omega
  rcases this with rfl | rfl | rfl | rfl <;> decide +kernel
def liftS (f : Int → Str) : V → V
  | .int i => .str (f i)
  | v => v
theorem lift_map (f : Int → Str) (ws : List Int) : (ws.map V.int).map (liftS f) = (ws.map f).map V.str := by
  rw [List.map_map, List.map_map]
  rfl
theorem seq_mid {t2 t3 : TS} {D : Ends} {σ : L2.St} {H : Hp} (Mid : L2.St → Hp → Prop) (h2 : ∀ σ H, Mid σ H → t3 D σ H) (h1 : ∀ nx : L2.St → Hp → Prop, (∀ σ H, Mid σ H → nx σ H) → t2 { D with nx := nx } σ H) : tSeq t2 t3 D σ H := h1 _ h2
theorem seq_mid2 {t1 t2 t3 : TS} {D : Ends} {σ : L2.St} {H : Hp} (Mid : L2.St → Hp → Prop) (h2 : ∀ σ H, Mid σ H → t3 D σ H) (h1 : ∀ nx : L2.St → Hp → Prop, (∀ σ H, Mid σ H → nx σ H) → tSeq t1 t2 { D with nx := nx } σ H) : tSeq t1 (tSeq t2 t3) D σ H := h1 _ h2
section
variable {P : Program} {w : World} {K : PySem.W.Frag} {mg : Str → Option Value} {base : Heap}
theorem ok__kept (T : Txt K mg) : FnOk P w K mg base CX0 2 T.a__kept T.d__kept ["ring", "tail"] (sp__kept K) := by
  refine T.F__kept.ok sc__kept (fun vs H Q E h => ?_) (fun cdv A outer s H vs Q E hr h => ?_)
  · obtain ⟨v, u, r, t, rfl, _⟩ := h
    rfl
  · obtain ⟨v, u, r, t, rfl, hrr, ht, hne, zr, zt, q⟩ := h
    refine ⟨_, (pss_cons (ps_set (i := 2) sc__kept.nd rfl (Or.inl rfl) (pe_call (ok__root T) (hr.mono (by decide)) rfl T.m__root T.F__root.kp T.b__root .nil pass0 (pa_cons (pv 0) pa_nil))) (pss_cons (ps_set (i := 3) sc__kept.nd rfl (Or.inl rfl) pe_int) (pss_cons (ps_while PassesOwn.never (PW.pt (pw_and (pt_cmpR op_lt (pv 3) (pe_callB call_len_seq rfl T.n_len (by decide +kernel) (pa_cons (pv 1) pa_nil)) (nomark _)) (pw_and1 (pt_cmpR op_eq (pe_ix ix_tup (pv 1) (pv 3) (fun _ _ => rfl)) (pe_ix ix_tup (pv 2) (pe_op op_mod (pv 3) (pe_callB call_len_seq rfl T.n_len (by decide +kernel) (pa_cons (pv 2) pa_nil))) (fun _ _ => rfl)) (nomark _))))) (pss_one (ps_aug (i := 3) sc__kept.nd rfl (Or.inl rfl) pe_int ip_add))) (pss_cons (ps_set (i := 4) sc__kept.nd rfl (Or.inl rfl) (pe_op op_mod (pv 3) (pe_callB call_len_seq rfl T.n_len (by decide +kernel) (pa_cons (pv 2) pa_nil)))) (pss_one (ps_ret (pe_tupK (K := K) rfl (pa_cons (pe_op (op_catK (K := K) rfl) (pe_slice sl_tupU (pv 2) (po_some (pv 4)) po_none) (pe_slice sl_tupU (pv 2) po_none (po_some (pv 4)))) (pa_cons (pe_slice sl_tupU (pv 1) (po_some (pv 3)) po_none) pa_nil))))))))), ?_⟩
    refine ⟨_, rfl, v, r, rfl, hrr, hne, zr, fun H1 rv s1 hrv => ?_⟩
    obtain ⟨x, rfl, hx⟩ := hrv
    obtain ⟨y, rfl, hy⟩ := ht.same s1
    generalize hroot : EW.root r = ro at hx
    have rne : ro ≠ [] := hroot ▸ EW.root_ne hne
    have rl : ro.length ≤ 1000 := by
      rw [← hroot, EW.root_len hne]
      have := (EW.rootL_spec hne).2.1
      omega
    have r0 : 0 < ro.length := List.length_pos_iff.mpr rne
    have lx : (ro.map V.int).length = ro.length := List.length_map _
    have ly : (t.map V.int).length = t.length := List.length_map _
    dsimp only [gName]
    refine seq_mid2 (t2 := tWhile _ _) (fun σ H2 => Same H H2 ∧ Same H1 H2 ∧ ∃ i : Nat, i ≤ t.length ∧ EW.absorb ro t = (EW.rotl ro i, t.drop i) ∧ σ = [some v, some (.ref y), some (.ref x), some (.int (i : Int)), none]) ?_ fun nx hnx => ?_
    · rintro σ H2 ⟨s2, s12, i, hi, e, rfl⟩
      have hx2 := Same.sqt s12 hx
      have hy2 := Same.sqt s12 hy
      have em : ((i : Int) % (ro.length : Int)) = ((i % ro.length : Nat) : Int) := mod_nat _ _
      have hml := Nat.mod_lt i r0
      refine ⟨_, rfl, _, rfl, _, _, rfl, .inr hx2, _, _, rfl, rfl, by rw [lx]; omega, ?_⟩
      show gName 4 (V.int ((i : Int) % ((ro.map V.int).length : Int))) _ _ _
      rw [lx, em]
      generalize hm : i % ro.length = m at hml em
      refine ⟨_, rfl, _, rfl, _, rfl, x, _, rfl, hx2, fun H3 p3 s3 hp3 => ?_⟩
      rw [cut_from ro (by omega), Int.toNat_natCast] at hp3
      refine ⟨_, rfl, _, rfl, _, rfl, x, _, rfl, Same.sqt s3 hx2, fun H4 p4 s4 hp4 => ?_⟩
      rw [cut_to ro (by omega), Int.toNat_natCast] at hp4
      refine ⟨p3, p4, _, _, rfl, rfl, Same.sqt s4 hp3, hp4, ?_, fun H5 p5 s5 hp5 => ?_⟩
      · rw [List.length_map, List.length_map, List.length_drop, List.length_take, sizeLine_eq]
        omega
      have s25 := Same.trans s3 (Same.trans s4 s5)
      refine ⟨_, rfl, _, rfl, _, rfl, y, _, rfl, Same.sqt s25 hy2, fun H6 p6 s6 hp6 => ?_⟩
      rw [cut_from t (by omega), Int.toNat_natCast] at hp6
      refine ⟨by show 2 ≤ sizeLine; decide, fun H7 p7 s7 hp7 => ?_⟩
      have ek : EW.kept r t = (EW.rotl ro i, t.drop i) := by
        unfold EW.kept
        rw [hroot]
        exact e
      refine q H7 p7 (.ref p5) (.ref p6) (Same.trans s2 (Same.trans s25 (Same.trans s6 s7))) hp7 ⟨p5, rfl, ?_⟩ ⟨p6, rfl, ?_⟩
      · rw [ek]
        unfold EW.rotl
        rw [hm, List.map_append]
        exact Same.sqt s7 (Same.sqt s6 hp5)
      · rw [ek]
        exact Same.sqt s7 hp6
    · refine ⟨fun m σ H2 => Same H1 H2 ∧ ∃ i : Nat, i ≤ t.length ∧ m = t.length - i ∧ EW.absorb ro t = EW.absorb (EW.rotl ro i) (t.drop i) ∧ σ = [some v, some (.ref y), some (.ref x), some (.int (i : Int)), none], ⟨_, Same.refl _, 0, Nat.zero_le _, rfl, by rw [EW.rotl_0, List.drop_zero], rfl⟩, ?_⟩
      rintro m σ H2 ⟨s2, i, hi, rfl, e, rfl⟩
      have hx2 := Same.sqt s2 hx
      have hy2 := Same.sqt s2 hy
      have em : ((i : Int) % (ro.length : Int)) = ((i % ro.length : Nat) : Int) := mod_nat _ _
      have hml := Nat.mod_lt i r0
      refine ⟨_, rfl, _, rfl, _, _, rfl, .inr hy2, _, _, rfl, rfl, _, rfl, ?_⟩
      by_cases c : i < t.length
      · refine ifT (decide_eq_true (by rw [ly]; omega)) ?_
        refine ⟨_, rfl, _, rfl, y, _, _, _, rfl, rfl, hy2, at_int (k := t) (by omega) (by rw [Int.toNat_natCast]; exact List.getElem?_eq_getElem c), ?_⟩
        refine ⟨_, rfl, _, rfl, _, rfl, _, _, rfl, .inr hx2, _, _, rfl, rfl, by rw [lx]; omega, x, _, _, _, rfl, rfl, hx2, at_int (k := ro) (x := ro[i % ro.length]) (by rw [lx, em]; omega) (by rw [lx, em, Int.toNat_natCast]; exact List.getElem?_eq_getElem hml), ?_⟩
        refine ⟨rfl, _, rfl, ?_⟩
        by_cases d : t[i] = ro[i % ro.length]
        · refine ifT (decide_eq_true (by rw [d])) ⟨_, fun σ' H' z => z, ?_⟩
          refine ⟨_, rfl, _, _, rfl, rfl, t.length - (i + 1), by omega, s2, i + 1, c, rfl, ?_, rfl⟩
          rw [e]
          exact EW.absorb_step rne (y := t[i]) (List.getElem?_eq_getElem c) (by rw [d]; exact List.getElem?_eq_getElem hml)
        · refine ifF (decide_eq_false (fun z => d (by injection z))) (hnx _ _ ⟨Same.trans s1 s2, s2, i, hi, ?_, rfl⟩)
          rw [e]
          refine EW.absorb_stop rne fun z hz hz2 => d ?_
          rw [List.getElem?_eq_getElem c] at hz
          rw [List.getElem?_eq_getElem hml] at hz2
          exact (Option.some.inj hz).trans (Option.some.inj hz2).symm
      · refine ifF (decide_eq_false (by rw [ly]; omega)) (hnx _ _ ⟨Same.trans s1 s2, s2, i, hi, ?_, rfl⟩)
        rw [e]
        refine EW.absorb_stop rne fun z hz => ?_
        rw [List.getElem?_eq_none (by omega)] at hz
        cases hz
end
end K05
/-! K05e -/
set_option Elab.async false
set_option linter.all false
set_option maxRecDepth 100000
set_option maxHeartbeats 2000000
namespace K05
open PySem PySem.Spec PyProof.Rows L2 PpSet RL
theorem lr_ : ¬ (("_letters" : Str) = "_ring") := by decide +kernel
theorem lt_ : ¬ (("_letters" : Str) = "_tail") := by decide +kernel
theorem rl_ : ¬ (("_ring" : Str) = "_letters") := by decide +kernel
theorem rt_ : ¬ (("_ring" : Str) = "_tail") := by decide +kernel
theorem tl_ : ¬ (("_tail" : Str) = "_letters") := by decide +kernel
theorem tr_ : ¬ (("_tail" : Str) = "_ring") := by decide +kernel
/-- the fields of an endless word -/
def fs3 (k : Int) (rv tv : V) : List (Str × V) := putF "_tail" tv (putF "_ring" rv (putF "_letters" (.int k) []))
theorem fs3_l (k : Int) (rv tv : V) : (fs3 k rv tv).lookup ("_letters" : Str) = some (.int k) := by
  unfold fs3
  rw [lookup_putF, if_neg lt_, lookup_putF, if_neg lr_, lookup_putF, if_pos rfl]
theorem fs3_r (k : Int) (rv tv : V) : (fs3 k rv tv).lookup ("_ring" : Str) = some rv := by
  unfold fs3
  rw [lookup_putF, if_neg rt_, lookup_putF, if_pos rfl]
theorem fs3_t (k : Int) (rv tv : V) : (fs3 k rv tv).lookup ("_tail" : Str) = some tv := by
  unfold fs3
  rw [lookup_putF, if_pos rfl]
theorem fs3_no (k : Int) (rv tv : V) {m : Str} (h1 : ¬ m = "_tail") (h2 : ¬ m = "_ring") (h3 : ¬ m = "_letters") : (fs3 k rv tv).lookup m = none := by
  unfold fs3
  rw [lookup_putF, if_neg h1, lookup_putF, if_neg h2, lookup_putF, if_neg h3]
  rfl
theorem fs3_eq (k : Int) (rv tv : V) : fs3 k rv tv = [(("_letters" : Str), V.int k), (("_ring" : Str), rv), (("_tail" : Str), tv)] := by
  have h1 : putF ("_ring" : Str) rv (putF ("_letters" : Str) (.int k) []) = [(("_letters" : Str), V.int k), (("_ring" : Str), rv)] := if_neg lr_
  unfold fs3
  rw [h1]
  show (if ("_letters" : Str) = "_tail" then [(("_letters" : Str), tv), (("_ring" : Str), rv)] else (("_letters" : Str), V.int k) :: (if ("_ring" : Str) = "_tail" then [(("_ring" : Str), tv)] else [(("_ring" : Str), rv), (("_tail" : Str), tv)])) = _
  rw [if_neg lt_, if_neg rt_]
theorem fs3_len (k : Int) (rv tv : V) : (fs3 k rv tv).length = 3 := by rw [fs3_eq]; rfl
theorem fs3_putr (k : Int) (rv tv rv' : V) : putF "_ring" rv' (fs3 k rv tv) = fs3 k rv' tv := by
  rw [fs3_eq, fs3_eq]
  show (if ("_letters" : Str) = "_ring" then _ else (("_letters" : Str), V.int k) :: (if ("_ring" : Str) = "_ring" then [(("_ring" : Str), rv'), (("_tail" : Str), tv)] else _)) = _
  rw [if_neg lr_, if_pos rfl]
theorem fs3_putt (k : Int) (rv tv tv' : V) : putF "_tail" tv' (fs3 k rv tv) = fs3 k rv tv' := by
  rw [fs3_eq, fs3_eq]
  show (if ("_letters" : Str) = "_tail" then _ else (("_letters" : Str), V.int k) :: (if ("_ring" : Str) = "_tail" then _ else (("_ring" : Str), rv) :: (if ("_tail" : Str) = "_tail" then [(("_tail" : Str), tv')] else _))) = _
  rw [if_neg lt_, if_neg rt_, if_pos rfl]
/-- an endless word stands at v -/
def EndAt (K : PySem.W.Frag) (C : Addr) (H : Hp) (v : V) (k : Int) (r t : List Int) : Prop := ∃ p dx rv tv, v = .ref p ∧ H p = some (.ins C dx (fs3 k rv tv)) ∧ IsW K H rv r ∧ IsW K H tv t
theorem EndAt.same {K : PySem.W.Frag} {C : Addr} {H H' : Hp} {v : V} {k : Int} {r t : List Int} (h : EndAt K C H v k r t) (s : Same H H') : EndAt K C H' v k r t := by
  obtain ⟨p, dx, rv, tv, e, h1, h2, h3⟩ := h
  exact ⟨p, dx, rv, tv, e, s _ _ h1, h2.same s, h3.same s⟩
/-- all but one object stands -/
def But (p : Addr) (H H' : Hp) : Prop := ∀ b u, b ≠ p → H b = some u → H' b = some u
theorem But.of {p : Addr} {H H' : Hp} (s : Same H H') : But p H H' := fun b u _ h => s b u h
theorem But.trans {p : Addr} {H H1 H2 : Hp} (h : But p H H1) (k : But p H1 H2) : But p H H2 := fun b u n z => k b u n (h b u n z)
theorem But.put {p : Addr} {H : Hp} {o : HO} : But p H (upd H p o) := fun b u n h => by rw [upd_ne n]; exact h
theorem But.sqt {K : PySem.W.Frag} {p C dx : Addr} {fs : List (Str × V)} {H H' : Hp} (hp : H p = some (.ins C dx fs)) (h : But p H H') {a : Addr} {xs : List V} (q : SqT K H a xs) : SqT K H' a xs := by
  rcases q with (q | ⟨o, q⟩) | q
  · exact .inl (.inl (h _ _ (fun z => by rw [z, hp] at q; cases q) q))
  · exact .inl (.inr ⟨o, h _ _ (fun z => by rw [z, hp] at q; cases q) q⟩)
  · exact .inr q
theorem But.isW {K : PySem.W.Frag} {p C dx : Addr} {fs : List (Str × V)} {H H' : Hp} (hp : H p = some (.ins C dx fs)) (h : But p H H') {v : V} {ws : List Int} (q : IsW K H v ws) : IsW K H' v ws := by
  obtain ⟨a, e, s⟩ := q
  exact ⟨a, e, h.sqt hp s⟩
def sp_init (K : PySem.W.Frag) (C : Addr) : Sp := fun vs H Q _ => ∃ (p dx : Addr) (k : Int) (rv tv : V) (r t : List Int), vs = [.ref p, .int k, rv, tv] ∧ H p = some (.ins C dx []) ∧ 1 ≤ k ∧ k ≤ 4 ∧ IsW K H rv r ∧ IsW K H tv t ∧ okW k r ∧ okW k t ∧ r ≠ [] ∧
  ∀ H' rv' tv', But p H H' → H' p = some (.ins C dx (fs3 k rv' tv')) → IsW K H' rv' (EW.kept r t).1 → IsW K H' tv' (EW.kept r t).2 → Q .non H'
section
variable {P : Program} {w : World} {K : PySem.W.Frag} {mg : Str → Option Value} {base : Heap}
theorem ok_Endless___init__ (T : Txt K mg) : FnOk P w K mg base CX0 4 T.a_Endless___init__ T.d_Endless___init__ ["self", "letters", "ring", "tail"] (sp_init K T.C_Endless) := by
  refine T.F_Endless___init__.ok sc_Endless___init__ (fun vs H Q E h => ?_) (fun cdv A outer s H vs Q E hr h => ?_)
  · obtain ⟨p, dx, k, rv, tv, r, t, rfl, _⟩ := h
    rfl
  · obtain ⟨p, dx, k, rv, tv, r, t, rfl, hp, k1, k4, hrv, htv, or_, ot, hne, q⟩ := h
    refine ⟨_, PSs.nox (pss_cons (ps_expr (pe_call (ok_check_letters T) (hr.mono (by decide)) rfl T.m_check_letters T.F_check_letters.kp T.b_check_letters .nil pass0 (pa_cons (pv 1) pa_nil))) (pss_cons (ps_expr (pe_call (ok_check_word T) (hr.mono (by decide)) rfl T.m_check_word T.F_check_word.kp T.b_check_word .nil pass0 (pa_cons (pv 1) (pa_cons (pv 2) pa_nil)))) (pss_cons (ps_expr (pe_call (ok_check_word T) (hr.mono (by decide)) rfl T.m_check_word T.F_check_word.kp T.b_check_word .nil pass0 (pa_cons (pv 1) (pa_cons (pv 3) pa_nil)))) (pss_cons (ps_if (pt_cmpR (op_eqD hr.units) (pv 2) (pe_tupK (K := K) rfl pa_nil) (nomark _)) (pss_one ps_never) pss_nil) (pss_cons (ps_asg (pe_call (ok__kept T) (hr.mono (by decide)) rfl T.m__kept T.F__kept.kp T.b__kept .nil pass0 (pa_cons (pv 2) (pa_cons (pv 3) pa_nil))) (pg_tupK (K := K) (n := 2) rfl rfl (pgs_cons (pg_name (i := 4) sc_Endless___init__.nd rfl (Or.inl rfl)) (pgs_cons (pg_name (i := 5) sc_Endless___init__.nd rfl (Or.inl rfl)) pgs_nil)))) (pss_cons (ps_fld (pv 0) (pv 1) rfl) (pss_cons (ps_fld (pv 0) (pv 4) rfl) (pss_one (ps_fld (pv 0) (pv 5) rfl))))))))), ?_⟩
    refine ⟨_, rfl, k, rfl, k1, k4, ?_⟩
    refine ⟨_, rfl, _, rfl, k, rv, r, rfl, hrv, or_, fun H1 s1 => ?_⟩
    refine ⟨_, rfl, _, rfl, k, tv, t, rfl, htv.same s1, ot, fun H2 s2 => ?_⟩
    have s02 := Same.trans s1 s2
    refine ⟨_, rfl, by show 0 ≤ sizeLine; decide, fun H3 e3 s3 he3 => ?_⟩
    have s03 := Same.trans s02 s3
    have hr3 := hrv.same s03
    have ht3 := htv.same s03
    refine ⟨_, _, hr3.dp, IsW.dp (k := []) ⟨e3, rfl, he3⟩, shaped_tup r, shaped_tup [], _, rfl, ifF ?_ ?_⟩
    · rw [eqv_tup]
      exact decide_eq_false hne
    refine ⟨_, rfl, _, rfl, rv, tv, r, t, rfl, hr3, ht3, hne, by have := or_.1; omega, by have := ot.1; omega, fun H4 u4 rv' tv' s4 hu4 hrv' htv' => ?_⟩
    refine ⟨u4, _, rfl, hu4, rfl, _, _, rfl, _, _, rfl, rfl, ?_⟩
    have s04 := Same.trans s03 s4
    have hp4 := s04 _ _ hp
    refine ⟨_, rfl, _, rfl, p, _, dx, [], rfl, hp4, T.c_Endless, T.na_Endless_letters, by show 0 < 1000; decide, ?_⟩
    refine ⟨_, rfl, _, rfl, p, _, dx, _, rfl, upd_same, T.c_Endless, T.na_Endless_ring, by show 1 < 1000; decide, ?_⟩
    refine ⟨_, rfl, _, rfl, p, _, dx, _, rfl, upd_same, T.c_Endless, T.na_Endless_tail, ?_, ?_⟩
    · have h1 : putF ("_ring" : Str) rv' (putF ("_letters" : Str) (.int k) []) = [(("_letters" : Str), V.int k), (("_ring" : Str), rv')] := if_neg lr_
      rw [h1]
      show 2 < 1000
      decide
    have b4 : But p H (upd (upd (upd H4 p (.ins T.C_Endless dx (putF "_letters" (.int k) []))) p (.ins T.C_Endless dx (putF "_ring" rv' (putF "_letters" (.int k) [])))) p (.ins T.C_Endless dx (fs3 k rv' tv'))) := (((But.of s04).trans But.put).trans But.put).trans But.put
    have b5 : But p H4 (upd (upd (upd H4 p (.ins T.C_Endless dx (putF "_letters" (.int k) []))) p (.ins T.C_Endless dx (putF "_ring" rv' (putF "_letters" (.int k) [])))) p (.ins T.C_Endless dx (fs3 k rv' tv'))) := (But.put.trans But.put).trans But.put
    exact q _ rv' tv' b4 upd_same (b5.isW hp4 hrv') (b5.isW hp4 htv')
def sp_get (C : Addr) (f : Str) : Sp := fun vs H Q _ => ∃ (p dx : Addr) (fs : List (Str × V)) (v : V), vs = [.ref p] ∧ H p = some (.ins C dx fs) ∧ fs.lookup f = some v ∧ Q v H
theorem ok_Endless_letters (T : Txt K mg) : FnOk P w K mg base CX0 1 T.a_Endless_letters T.d_Endless_letters ["self"] (sp_get T.C_Endless "_letters") := by
  refine T.F_Endless_letters.ok sc_Endless_letters (fun vs H Q E h => ?_) (fun cdv A outer s H vs Q E hr h => ?_)
  · obtain ⟨p, dx, fs, v, rfl, _⟩ := h
    rfl
  · obtain ⟨p, dx, fs, v, rfl, hp, hl, q⟩ := h
    refine ⟨_, (pss_one (ps_ret (pe_fld (pv 0) rfl))), ?_⟩
    exact ⟨_, rfl, p, _, dx, fs, v, rfl, hp, T.c_Endless, T.na_Endless_letters, hl, q⟩
theorem ok_Endless_ring (T : Txt K mg) : FnOk P w K mg base CX0 1 T.a_Endless_ring T.d_Endless_ring ["self"] (sp_get T.C_Endless "_ring") := by
  refine T.F_Endless_ring.ok sc_Endless_ring (fun vs H Q E h => ?_) (fun cdv A outer s H vs Q E hr h => ?_)
  · obtain ⟨p, dx, fs, v, rfl, _⟩ := h
    rfl
  · obtain ⟨p, dx, fs, v, rfl, hp, hl, q⟩ := h
    refine ⟨_, (pss_one (ps_ret (pe_fld (pv 0) rfl))), ?_⟩
    exact ⟨_, rfl, p, _, dx, fs, v, rfl, hp, T.c_Endless, T.na_Endless_ring, hl, q⟩
theorem ok_Endless_tail (T : Txt K mg) : FnOk P w K mg base CX0 1 T.a_Endless_tail T.d_Endless_tail ["self"] (sp_get T.C_Endless "_tail") := by
  refine T.F_Endless_tail.ok sc_Endless_tail (fun vs H Q E h => ?_) (fun cdv A outer s H vs Q E hr h => ?_)
  · obtain ⟨p, dx, fs, v, rfl, _⟩ := h
    rfl
  · obtain ⟨p, dx, fs, v, rfl, hp, hl, q⟩ := h
    refine ⟨_, (pss_one (ps_ret (pe_fld (pv 0) rfl))), ?_⟩
    exact ⟨_, rfl, p, _, dx, fs, v, rfl, hp, T.c_Endless, T.na_Endless_tail, hl, q⟩
end
end K05
/-! K05f -/
set_option Elab.async false
set_option linter.all false
set_option maxRecDepth 100000
set_option maxHeartbeats 2000000
namespace K05
open PySem PySem.Spec PyProof.Rows L2 PpSet RL
def sp_len (K : PySem.W.Frag) (C : Addr) : Sp := fun vs H Q _ => ∃ (v : V) (k : Int) (r t : List Int), vs = [v] ∧ EndAt K C H v k r t ∧ r.length ≤ 1000 ∧ t.length ≤ 1000 ∧ ∀ H', Same H H' → Q (.int ((r.length + t.length : Nat) : Int)) H'
def sp_eof (K : PySem.W.Frag) (C : Addr) : Sp := fun vs H Q _ => ∃ (k : Int) (rv tv : V) (r t : List Int), vs = [.int k, rv, tv] ∧ 1 ≤ k ∧ k ≤ 4 ∧ IsW K H rv r ∧ IsW K H tv t ∧ r ≠ [] ∧ r.length ≤ 1000 ∧ t.length ≤ 1000 ∧
  ∀ H' v, Same H H' → EndAt K C H' v k (EW.kept r t).1 (EW.kept r t).2 → Q v H'
def sp_add (K : PySem.W.Frag) (C : Addr) : Sp := fun vs H Q _ => ∃ (v u : V) (k : Int) (r t ws : List Int), vs = [v, u] ∧ EndAt K C H v k r t ∧ IsW K H u ws ∧ okW k ws ∧ 1 ≤ k ∧ k ≤ 4 ∧ r ≠ [] ∧ r.length ≤ 500 ∧ t.length ≤ 500 ∧ ∀ H' v', Same H H' → EndAt K C H' v' k (EW.kept r (t ++ ws)).1 (EW.kept r (t ++ ws)).2 → Q v' H'
def sp_eq (K : PySem.W.Frag) (C : Addr) : Sp := fun vs H Q _ => ∃ (v u : V) (k : Int) (r t : List Int), vs = [v, u] ∧ EndAt K C H v k r t ∧
  (((∃ y, TyX K H u y ∧ PySem.W.kitOne K y (.ref C) = some false) ∧ Q (.bl false) H) ∨ ∃ k' r' t', EndAt K C H u k' r' t' ∧ Q (.bl (decide (k = k' ∧ r = r' ∧ t = t'))) H)
theorem tyx_end {K : PySem.W.Frag} {mg : Str → Option Value} (T : Txt K mg) {H : Hp} {p dx : Addr} {fs : List (Str × V)} (h : H p = some (.ins T.C_Endless dx fs)) : TyX K H (.ref p) (.ref T.C_Endless) := .base (.ins h T.c_Endless T.ca_Endless T.cn_Endless T.ct_Endless T.ob_Endless)
section
variable {P : Program} {w : World} {K : PySem.W.Frag} {mg : Str → Option Value} {base : Heap}
theorem ok_Endless___len__ (T : Txt K mg) : FnOk P w K mg base CX0 1 T.a_Endless___len__ T.d_Endless___len__ ["self"] (sp_len K T.C_Endless) := by
  refine T.F_Endless___len__.ok sc_Endless___len__ (fun vs H Q E h => ?_) (fun cdv A outer s H vs Q E hr h => ?_)
  · obtain ⟨v, k, r, t, rfl, _⟩ := h
    rfl
  · obtain ⟨v, k, r, t, rfl, ⟨p, dx, rv, tv, rfl, hp, ⟨a, rfl, ha⟩, ⟨b, rfl, hb⟩⟩, zr, zt, q⟩ := h
    refine ⟨_, (pss_one (ps_ret (pe_callB call_len_seq rfl T.n_len (by decide +kernel) (pa_cons (pe_op (op_catK (K := K) rfl) (pe_fld (pv 0) rfl) (pe_fld (pv 0) rfl)) pa_nil)))), ?_⟩
    refine ⟨_, rfl, p, _, dx, _, _, rfl, hp, T.c_Endless, T.na_Endless_ring, fs3_r _ _ _, _, rfl, p, _, dx, _, _, rfl, hp, T.c_Endless, T.na_Endless_tail, fs3_t _ _ _, a, b, _, _, rfl, rfl, ha, hb, ?_, fun H1 d s1 hd => ?_⟩
    · rw [List.length_map, List.length_map, sizeLine_eq]; omega
    refine ⟨d, _, rfl, .inr hd, ?_⟩
    rw [List.length_append, List.length_map, List.length_map]
    exact q H1 s1
theorem ok_endless_of (T : Txt K mg) : FnOk P w K mg base CX0 6 T.a_endless_of T.d_endless_of ["letters", "ring", "tail"] (sp_eof K T.C_Endless) := by
  refine T.F_endless_of.ok sc_endless_of (fun vs H Q E h => ?_) (fun cdv A outer s H vs Q E hr h => ?_)
  · obtain ⟨k, rv, tv, r, t, rfl, _⟩ := h
    rfl
  · obtain ⟨k, rv, tv, r, t, rfl, k1, k4, hr0, ht0, hne, zr, zt, q⟩ := h
    refine ⟨_, (pss_cons (ps_set (i := 3) sc_endless_of.nd rfl (Or.inl rfl) (pe_make (E := E0) T.mk_Endless (ok_Endless___init__ T) (hr.mono (by decide)) rfl T.mC_Endless T.b_Endless___init__ T.v_Endless pass0 (pa_cons (pv 0) (pa_cons (pe_tupK (K := K) rfl (pa_cons pe_int pa_nil)) pa_nil)))) (pss_cons (ps_asg (pe_call (ok__kept T) (hr.mono (by decide)) rfl T.m__kept T.F__kept.kp T.b__kept .nil pass0 (pa_cons (pv 1) (pa_cons (pv 2) pa_nil))) (pg_tupK (K := K) (n := 2) rfl rfl (pgs_cons (pg_name (i := 4) sc_endless_of.nd rfl (Or.inl rfl)) (pgs_cons (pg_name (i := 5) sc_endless_of.nd rfl (Or.inl rfl)) pgs_nil)))) (pss_cons (ps_fld (pv 3) (pv 4) rfl) (pss_cons (ps_fld (pv 3) (pv 5) rfl) (pss_one (ps_ret (pv 3))))))), ?_⟩
    refine ⟨_, rfl, by show 1 ≤ sizeLine; decide, fun H1 z s1 hz => ?_⟩
    intro x dx nx ndx ne
    have sM : Same H1 (upd (upd H1 dx (.own x)) x (.ins T.C_Endless dx [])) := fun b o e => by
      rw [upd_ne (ne_of_none e nx), upd_ne (ne_of_none e ndx)]
      exact e
    refine ⟨x, dx, k, _, _, [0], [], rfl, upd_same, k1, k4, ⟨z, rfl, Same.sqt sM hz⟩, ⟨_, rfl, T.et_Endless___init___tail _⟩, ⟨by decide, fun y hy => by rw [List.mem_singleton.mp hy]; omega⟩, ⟨by decide, fun y hy => by cases hy⟩, by decide, fun H2 rv' tv' b2 h2 _ _ => ⟨rfl, ?_⟩⟩
    have s12 : Same H1 H2 := fun b o e => b2 b o (ne_of_none e nx) (sM b o e)
    have s02 := Same.trans s1 s12
    refine ⟨_, rfl, _, rfl, rv, tv, r, t, rfl, hr0.same s02, ht0.same s02, hne, zr, zt, fun H3 u3 rw3 tw3 s3 hu3 hrw htw => ?_⟩
    refine ⟨u3, _, rfl, hu3, rfl, _, _, rfl, _, _, rfl, rfl, ?_⟩
    have hx3 := s3 _ _ h2
    refine ⟨_, rfl, _, rfl, x, _, dx, _, rfl, hx3, T.c_Endless, T.na_Endless_ring, by rw [fs3_len]; decide, ?_⟩
    rw [fs3_putr]
    refine ⟨_, rfl, _, rfl, x, _, dx, _, rfl, upd_same, T.c_Endless, T.na_Endless_tail, by rw [fs3_len]; decide, ?_⟩
    rw [fs3_putt]
    have b3 : But x H3 (upd (upd H3 x (.ins T.C_Endless dx (fs3 k rw3 tv'))) x (.ins T.C_Endless dx (fs3 k rw3 tw3))) := But.put.trans But.put
    have s04 : Same H (upd (upd H3 x (.ins T.C_Endless dx (fs3 k rw3 tv'))) x (.ins T.C_Endless dx (fs3 k rw3 tw3))) := fun b o e => b3 b o (ne_of_none (s1 b o e) nx) (s3 b o (s02 b o e))
    exact ⟨_, rfl, q _ (.ref x) s04 ⟨x, dx, rw3, tw3, rfl, upd_same, b3.isW hx3 hrw, b3.isW hx3 htw⟩⟩
theorem ok_Endless___add__ (T : Txt K mg) : FnOk P w K mg base CX0 7 T.a_Endless___add__ T.d_Endless___add__ ["self", "other"] (sp_add K T.C_Endless) := by
  refine T.F_Endless___add__.ok sc_Endless___add__ (fun vs H Q E h => ?_) (fun cdv A outer s H vs Q E hr h => ?_)
  · obtain ⟨v, u, k, r, t, ws, rfl, _⟩ := h
    rfl
  · obtain ⟨v, u, k, r, t, ws, rfl, ⟨p, dx, rv, tv, rfl, hp, hr0, ht0⟩, hu, ow, k1, k4, hne, zr, zt, q⟩ := h
    refine ⟨_, (pss_cons (ps_if (pt_not (pt_val (pe_callB (call_isiK (K := K) rfl) rfl T.n_isinstance (by decide +kernel) (pa_cons (pv 1) (pa_cons (pe_bltn (v := .ty "tuple") (u := .type "tuple") rfl T.n_tuple (by decide +kernel) rfl) pa_nil))))) (pss_one ps_never) pss_nil) (pss_cons (ps_expr (pe_call (ok_check_word T) (hr.mono (by decide)) rfl T.m_check_word T.F_check_word.kp T.b_check_word .nil pass0 (pa_cons (pe_fld (pv 0) rfl) (pa_cons (pv 1) pa_nil)))) (pss_one (ps_ret (pe_call (ok_endless_of T) (hr.mono (by decide)) rfl T.m_endless_of T.F_endless_of.kp T.b_endless_of .nil pass0 (pa_cons (pe_fld (pv 0) rfl) (pa_cons (pe_fld (pv 0) rfl) (pa_cons (pe_op (op_catK (K := K) rfl) (pe_fld (pv 0) rfl) (pv 1)) pa_nil)))))))), ?_⟩
    obtain ⟨x, rfl, hx⟩ := hu
    refine ⟨_, rfl, _, _, _, _, true, rfl, .ty _, tyx_sqt hx, kit_ty (by decide +kernel), _, rfl, iteF ?_⟩
    refine ⟨_, rfl, p, _, dx, _, _, rfl, hp, T.c_Endless, T.na_Endless_letters, fs3_l _ _ _, _, rfl, k, _, ws, rfl, ⟨x, rfl, hx⟩, ow, fun H1 s1 => ?_⟩
    have hp1 := s1 _ _ hp
    obtain ⟨b, rfl, hb⟩ := ht0.same s1
    refine ⟨_, rfl, p, _, dx, _, _, rfl, hp1, T.c_Endless, T.na_Endless_letters, fs3_l _ _ _, _, rfl, p, _, dx, _, _, rfl, hp1, T.c_Endless, T.na_Endless_ring, fs3_r _ _ _, _, rfl, p, _, dx, _, _, rfl, hp1, T.c_Endless, T.na_Endless_tail, fs3_t _ _ _, _, rfl, b, x, _, _, rfl, rfl, hb, Same.sqt s1 hx, ?_, fun H2 d s2 hd => ?_⟩
    · have := ow.1
      rw [List.length_map, List.length_map, sizeLine_eq]
      omega
    rw [← List.map_append] at hd
    have s02 := Same.trans s1 s2
    refine ⟨k, rv, _, r, t ++ ws, rfl, k1, k4, hr0.same s02, ⟨d, rfl, hd⟩, hne, by omega, by have := ow.1; rw [List.length_append]; omega, fun H3 v' s3 hv' => q H3 v' (Same.trans s02 s3) hv'⟩
theorem ok_Endless___eq__ (T : Txt K mg) : FnOk P w K mg base CX0 1 T.a_Endless___eq__ T.d_Endless___eq__ ["self", "other"] (sp_eq K T.C_Endless) := by
  refine T.F_Endless___eq__.ok sc_Endless___eq__ (fun vs H Q E h => ?_) (fun cdv A outer s H vs Q E hr h => ?_)
  · obtain ⟨v, u, k, r, t, rfl, _⟩ := h
    rfl
  · obtain ⟨v, u, k, r, t, rfl, ⟨p, dx, rv, tv, rfl, hp, hr0, ht0⟩, h⟩ := h
    refine ⟨_, (pss_one (ps_ret (pe_and (pe_callB (call_isiK (K := K) rfl) rfl T.n_isinstance (by decide +kernel) (pa_cons (pv 1) (pa_cons (pe_glob (v := .ref T.C_Endless) rfl T.mC_Endless rfl) pa_nil))) (pe_and (pe_cmpR op_eq (pe_fld (pv 0) rfl) (pe_fld (pv 1) rfl) (nomark _)) (pe_and (pe_cmpR (op_eqD hr.units) (pe_fld (pv 0) rfl) (pe_fld (pv 1) rfl) (nomark _)) (pe_one (pe_cmpR (op_eqD hr.units) (pe_fld (pv 0) rfl) (pe_fld (pv 1) rfl) (nomark _)))))))), ?_⟩
    rcases h with ⟨⟨y, hy, hk⟩, q⟩ | ⟨k', r', t', ⟨p', dx', rv', tv', rfl, hp', hr', ht'⟩, q⟩
    · exact ⟨_, rfl, _, _, _, _, false, rfl, .own _, hy, hk, _, rfl, iteF q⟩
    · refine ⟨_, rfl, _, _, _, _, true, rfl, .own _, tyx_end T hp', T.ks_Endless, _, rfl, iteT ?_⟩
      refine ⟨_, rfl, p, _, dx, _, _, rfl, hp, T.c_Endless, T.na_Endless_letters, fs3_l _ _ _, _, rfl, p', _, dx', _, _, rfl, hp', T.c_Endless, T.na_Endless_letters, fs3_l _ _ _, rfl, _, rfl, ?_⟩
      by_cases ck : k = k'
      · refine ifT (decide_eq_true (by rw [ck])) ?_
        refine ⟨_, rfl, p, _, dx, _, _, rfl, hp, T.c_Endless, T.na_Endless_ring, fs3_r _ _ _, _, rfl, p', _, dx', _, _, rfl, hp', T.c_Endless, T.na_Endless_ring, fs3_r _ _ _, _, _, hr0.dp, hr'.dp, shaped_tup _, shaped_tup _, _, rfl, ?_⟩
        rw [eqv_tup]
        by_cases cr : r = r'
        · refine ifT (decide_eq_true cr) ?_
          refine ⟨_, rfl, p, _, dx, _, _, rfl, hp, T.c_Endless, T.na_Endless_tail, fs3_t _ _ _, _, rfl, p', _, dx', _, _, rfl, hp', T.c_Endless, T.na_Endless_tail, fs3_t _ _ _, _, _, ht0.dp, ht'.dp, shaped_tup _, shaped_tup _, ?_⟩
          rw [eqv_tup]
          have e : decide (k = k' ∧ r = r' ∧ t = t') = decide (t = t') := by simp [ck, cr]
          rw [e] at q
          exact q
        · refine ifF (decide_eq_false cr) ?_
          have e : decide (k = k' ∧ r = r' ∧ t = t') = false := decide_eq_false fun z => cr z.2.1
          rw [e] at q
          exact q
      · refine ifF (decide_eq_false fun z => ck (by injection z)) ?_
        have e : decide (k = k' ∧ r = r' ∧ t = t') = false := decide_eq_false fun z => ck z.1
        rw [e] at q
        exact q
end
end K05
/-! K05h -/
set_option Elab.async false
set_option linter.all false
set_option maxRecDepth 100000
set_option maxHeartbeats 2000000
namespace K05
open PySem PySem.Spec PyProof.Rows L2 PpSet RL
def sp__law_last (K : PySem.W.Frag) : Sp := fun vs H Q _ => ∃ (v u : V) (r t : List Int) (n : Nat), vs = [v, u, .int n] ∧ IsW K H v r ∧ IsW K H u t ∧ r ≠ [] ∧ r.length ≤ 1000 ∧ t.length ≤ 1000 ∧ n ≤ 1000 ∧ ∀ H' u, Same H H' → IsW K H' u (EW.lastW r t n) → Q u H'
section
variable {P : Program} {w : World} {K : PySem.W.Frag} {mg : Str → Option Value} {base : Heap}
theorem ok__law_last (T : Txt K mg) : FnOk P w K mg base CX0 1 T.a__law_last T.d__law_last ["ring", "rest", "many"] (sp__law_last K) := by
  refine T.F__law_last.ok sc__law_last (fun vs H Q E h => ?_) (fun cdv A outer s H vs Q E hr h => ?_)
  · obtain ⟨v, u, r, t, n, rfl, _⟩ := h
    rfl
  · obtain ⟨v, u, r, t, n, rfl, ⟨a, rfl, ha⟩, ⟨b, rfl, hb⟩, hne, zr, zt, hn, q⟩ := h
    refine ⟨_, (pss_cons (ps_set (i := 3) sc__law_last.nd rfl (Or.inl rfl) (pe_op (op_catK (K := K) rfl) (pe_op op_repW (pv 0) (pe_op op_add (pe_op op_fdivW (pv 2) (pe_callB call_len_seq rfl T.n_len (by decide +kernel) (pa_cons (pv 0) pa_nil))) pe_int)) (pv 1))) (pss_one (ps_ret (pe_slice sl_tupU (pv 3) (po_some (pe_op op_sub (pe_callB call_len_seq rfl T.n_len (by decide +kernel) (pa_cons (pv 3) pa_nil)) (pv 2))) po_none)))), ?_⟩
    have la : (r.map V.int).length = r.length := List.length_map _
    have lb : (t.map V.int).length = t.length := List.length_map _
    have r0 : 0 < r.length := List.length_pos_iff.mpr hne
    have ed : ((n : Int) / ((r.map V.int).length : Int)) + 1 = ((n / r.length + 1 : Nat) : Int) := by
      rw [la, div_nat]
      omega
    have hq : n / r.length ≤ n := Nat.div_le_self _ _
    have hbig : (EW.rep (n / r.length + 1) r).length ≤ 2001 := by
      rw [EW.rep_len, Nat.succ_mul]
      have := Nat.div_mul_le_self n r.length
      omega
    have hwhole : EW.lastW r t n = (EW.rep (n / r.length + 1) r ++ t).drop ((EW.rep (n / r.length + 1) r ++ t).length - n) := rfl
    have hlong := EW.last_long hne t n
    generalize hm : n / r.length + 1 = m at hbig hwhole hlong ed
    have hm1 : m ≤ 1001 := by omega
    have rn : r.map V.int ≠ [] := fun z => hne (List.map_eq_nil_iff.mp z)
    refine ⟨_, rfl, _, rfl, _, rfl, _, _, rfl, .inr ha, _, _, rfl, rfl, wide_div (b := 64) (by rw [la]; omega) (by rw [la]; omega) (by decide) (by decide), _, _, rfl, rfl, a, (m : Int), _, rfl, congrArg V.int ed, ha, rn, by omega, by omega, by rw [la]; exact zr, ?_, fun H1 e s1 he => ?_⟩
    · rw [la, Int.toNat_natCast, Nat.mul_comm, ← EW.rep_len]
      omega
    rw [Int.toNat_natCast, rep_int] at he
    refine ⟨_, rfl, e, b, _, _, rfl, rfl, he, Same.sqt s1 hb, ?_, fun H2 f s2 hf => ?_⟩
    · have : ((List.replicate m r).flatten).length ≤ 2001 := hbig
      rw [List.length_map, List.length_map, sizeLine_eq]
      omega
    rw [← List.map_append] at hf
    have lf : (((List.replicate m r).flatten ++ t).map V.int).length = (EW.rep m r ++ t).length := List.length_map _
    refine ⟨_, rfl, _, rfl, _, _, rfl, .inr hf, _, rfl, _, _, rfl, rfl, _, rfl, f, _, rfl, hf, fun H3 g s3 hg => ?_⟩
    have ec : (((((List.replicate m r).flatten ++ t).map V.int).length : Int) - (n : Int)) = (((EW.rep m r ++ t).length - n : Nat) : Int) := by
      rw [lf]
      omega
    rw [ec, cut_from _ (by omega), Int.toNat_natCast] at hg
    refine q H3 (.ref g) (Same.trans s1 (Same.trans s2 s3)) ⟨g, rfl, ?_⟩
    rw [hwhole]
    exact hg
end
end K05
/-! K05g -/
set_option Elab.async false
set_option linter.all false
set_option maxRecDepth 100000
set_option maxHeartbeats 2000000
namespace K05
open PySem PySem.Spec PyProof.Rows L2 PpSet RL EH
theorem cpl_cp : ∀ a b : List Int, cpl a b = cp a b
  | [], [] => rfl
  | [], _ :: _ => rfl
  | _ :: _, [] => rfl
  | x :: xs, y :: ys => by
    unfold cpl cp
    rw [cpl_cp xs ys]
theorem ordW_sg (x y : List Int) : ordW x.reverse y.reverse = sg x y := by
  unfold ordW sg
  rw [List.reverse_reverse, List.reverse_reverse]
  by_cases h : x = y
  · rw [if_pos h, if_pos (by rw [h])]
  · rw [if_neg h, if_neg (fun z => h (List.reverse_inj.mp z))]
def okR (k : Int) (ws : List Int) : Prop := ∀ x ∈ ws, 0 ≤ x ∧ x < k
theorem okR_app {k : Int} {a b : List Int} (h1 : okR k a) (h2 : okR k b) : okR k (a ++ b) := fun x hx => (List.mem_append.mp hx).elim (h1 x) (h2 x)
/-- a height as the program has it -/
def HtAt (K : PySem.W.Frag) (C : Addr) (k : Int) (H : Hp) (v : V) : Ht → Prop
  | .w a => IsW K H v a
  | .e r t => EndAt K C H v k (EW.kept r t).1 (EW.kept r t).2
theorem HtAt.same {K : PySem.W.Frag} {C : Addr} {k : Int} {H H' : Hp} {v : V} {h : Ht} (x : HtAt K C k H v h) (s : Same H H') : HtAt K C k H' v h := by
  cases h with
  | w a => exact IsW.same s x
  | e r t => exact EndAt.same x s
/-- letters, and at most m of them at each place -/
def OkH (k : Int) (m : Nat) : Ht → Prop
  | .w a => a.length ≤ m ∧ okR k a
  | .e r t => r ≠ [] ∧ r.length ≤ m ∧ t.length ≤ m ∧ okR k r ∧ okR k t
theorem OkH.ok {k : Int} {m : Nat} {h : Ht} (o : OkH k m h) : Ok h := by
  cases h with
  | w a => trivial
  | e r t => exact o.1
theorem OkH.size {k : Int} {m : Nat} {h : Ht} (o : OkH k m h) : size (kp h) ≤ 2 * m := by
  cases h with
  | w a =>
    have := o.1
    show a.length ≤ 2 * m
    omega
  | e r t =>
    have := EW.kept_len o.1 t
    have := o.2.1
    have := o.2.2.1
    show (EW.kept r t).1.length + (EW.kept r t).2.length ≤ 2 * m
    omega
theorem OkH.more {k : Int} {m m' : Nat} {h : Ht} (o : OkH k m h) (l : m ≤ m') : OkH k m' h := by
  cases h with
  | w a => exact ⟨Nat.le_trans o.1 l, o.2⟩
  | e r t => exact ⟨o.1, Nat.le_trans o.2.1 l, Nat.le_trans o.2.2.1 l, o.2.2.2⟩
/-- in how many letters: None if in all, without an end -/
def agr (h g : Ht) : V := match h with
  | .w _ => .int (com h g)
  | .e .. => if kp h = kp g then .non else .int (com h g)
def sp_last (K : PySem.W.Frag) (C : Addr) : Sp := fun vs H Q _ => ∃ (v : V) (k : Int) (h : Ht) (n : Nat), vs = [v, .int n] ∧ HtAt K C k H v h ∧ OkH k 300 h ∧ n ≤ 1000 ∧ ∀ H' u, Same H H' → IsW K H' u (far h n).reverse → Q u H'
def sp_tell (K : PySem.W.Frag) (C : Addr) : Sp := fun vs H Q _ => ∃ (v u : V) (k l : Int) (h g : Ht), vs = [v, u] ∧ HtAt K C k H v h ∧ HtAt K C l H u g ∧ OkH k 200 h ∧ OkH l 200 g ∧
  ∀ H' p x y, Same H H' → SqT K H' p [x, y] → IsW K H' x (far h (size (kp h) + size (kp g))).reverse → IsW K H' y (far g (size (kp h) + size (kp g))).reverse → Q (.ref p) H'
def sp_two (K : PySem.W.Frag) (C : Addr) (f : Ht → Ht → V) : Sp := fun vs H Q _ => ∃ (v u : V) (k : Int) (h g : Ht), vs = [v, u] ∧ HtAt K C k H v h ∧ HtAt K C k H u g ∧ OkH k 200 h ∧ OkH k 200 g ∧ ∀ H', Same H H' → Q (f h g) H'
section
variable {P : Program} {w : World} {K : PySem.W.Frag} {mg : Str → Option Value} {base : Heap}
theorem ok_last_letters (T : Txt K mg) : FnOk P w K mg base CX0 3 T.a_last_letters T.d_last_letters ["height", "many"] (sp_last K T.C_Endless) := by
  refine T.F_last_letters.ok sc_last_letters (fun vs H Q E h => ?_) (fun cdv A outer s H vs Q E hr h => ?_)
  · obtain ⟨v, k, h, n, rfl, _⟩ := h
    rfl
  · obtain ⟨v, k, h, n, rfl, hh, oh, hn, q⟩ := h
    refine ⟨_, (pss_cons (ps_if (pt_not (pt_val (pe_callB (call_isiK (K := K) rfl) rfl T.n_isinstance (by decide +kernel) (pa_cons (pv 0) (pa_cons (pe_glob (v := .ref T.C_Endless) rfl T.mC_Endless rfl) pa_nil))))) (pss_one (ps_ret (pe_slice sl_tupU (pv 0) (po_some (pe_callB (call_max2 rfl) rfl T.n_max (by decide +kernel) (pa_cons pe_int (pa_cons (pe_op op_sub (pe_callB call_len_seq rfl T.n_len (by decide +kernel) (pa_cons (pv 0) pa_nil)) (pv 1)) pa_nil)))) po_none))) pss_nil) (pss_cons (ps_set (i := 2) sc_last_letters.nd rfl (Or.inl rfl) (pe_op op_add (pe_op op_fdivW (pv 1) (pe_callB call_len_seq rfl T.n_len (by decide +kernel) (pa_cons (pe_prop (E := E0) (pv 0) T.c_Endless T.p_Endless_ring (ok_Endless_ring T) (hr.mono (by decide)) T.b_Endless_ring .nil pass0 rfl) pa_nil))) pe_int)) (pss_cons (ps_set (i := 3) sc_last_letters.nd rfl (Or.inl rfl) (pe_op (op_catK (K := K) rfl) (pe_op op_repW (pe_prop (E := E0) (pv 0) T.c_Endless T.p_Endless_ring (ok_Endless_ring T) (hr.mono (by decide)) T.b_Endless_ring .nil pass0 rfl) (pv 2)) (pe_prop (E := E0) (pv 0) T.c_Endless T.p_Endless_tail (ok_Endless_tail T) (hr.mono (by decide)) T.b_Endless_tail .nil pass0 rfl))) (pss_one (ps_ret (pe_slice sl_tupU (pv 3) (po_some (pe_op op_sub (pe_callB call_len_seq rfl T.n_len (by decide +kernel) (pa_cons (pv 3) pa_nil)) (pv 1))) po_none)))))), ?_⟩
    cases h with
    | w a =>
      obtain ⟨x, rfl, hx⟩ := hh
      have la : (a.map V.int).length = a.length := List.length_map _
      refine ⟨_, rfl, _, _, _, _, false, rfl, .own _, tyx_sqt hx, T.ktuple_Endless, _, rfl, iteT ?_⟩
      refine ⟨_, rfl, _, rfl, _, _, rfl, .inr hx, _, rfl, _, _, rfl, rfl, _, _, rfl, _, rfl, x, _, rfl, hx, fun H2 p s2 hp => ?_⟩
      have e : (if ((a.map V.int).length : Int) - (n : Int) > 0 then ((a.map V.int).length : Int) - (n : Int) else 0) = ((a.length - n : Nat) : Int) := by
        rw [la]
        split <;> omega
      rw [e, cut_from a (by omega), Int.toNat_natCast] at hp
      refine q H2 (.ref p) s2 ⟨p, rfl, ?_⟩
      have f : (far (.w a) n).reverse = a.drop (a.length - n) := by
        show (a.reverse.take n).reverse = _
        rw [List.take_reverse, List.reverse_reverse]
      rw [f]
      exact hp
    | e r t =>
      have hne := oh.1
      have e0 : (far (.e r t) n).reverse = EW.lastW (EW.kept r t).1 (EW.kept r t).2 n := by
        show (EW.lastW r t n).reverse.reverse = _
        rw [List.reverse_reverse, EW.kept_last hne]
      rw [e0] at q
      have kl := EW.kept_len hne t
      have kn := EW.kept_ne hne t
      have o1 := oh.2.1
      have o2 := oh.2.2.1
      have hh : EndAt K T.C_Endless H v k (EW.kept r t).1 (EW.kept r t).2 := hh
      generalize (EW.kept r t).2 = t' at hh q kl
      generalize (EW.kept r t).1 = r' at hh q kl kn
      obtain ⟨p, dx, rv, tv, rfl, hp, ⟨a, rfl, ha⟩, ⟨b, rfl, hb⟩⟩ := hh
      have la : (r'.map V.int).length = r'.length := List.length_map _
      have lb : (t'.map V.int).length = t'.length := List.length_map _
      have r0 : 0 < r'.length := List.length_pos_iff.mpr kn
      refine ⟨_, rfl, _, _, _, _, true, rfl, .own _, tyx_end T hp, T.ks_Endless, _, rfl, iteF ?_⟩
      refine ⟨_, rfl, _, rfl, p, dx, _, rfl, hp, p, dx, _, _, rfl, hp, fs3_r _ _ _, a, _, rfl, .inr ha, _, _, rfl, rfl, wide_div (b := 64) (by rw [la]; omega) (by rw [la]; omega) (by decide) (by decide), _, _, rfl, rfl, ?_⟩
      have ed : ((n : Int) / ((r'.map V.int).length : Int)) + 1 = ((n / r'.length + 1 : Nat) : Int) := by
        rw [la, div_nat]
        omega
      show gName 2 (V.int ((n : Int) / ((r'.map V.int).length : Int) + 1)) _ _ _
      rw [ed]
      have hq : n / r'.length ≤ n := Nat.div_le_self _ _
      have hbig : (EW.rep (n / r'.length + 1) r').length ≤ 2001 := by
        rw [EW.rep_len, Nat.succ_mul]
        have := Nat.div_mul_le_self n r'.length
        omega
      have hwhole : EW.lastW r' t' n = (EW.rep (n / r'.length + 1) r' ++ t').drop ((EW.rep (n / r'.length + 1) r' ++ t').length - n) := rfl
      have hlong := EW.last_long kn t' n
      generalize hm : n / r'.length + 1 = m at hbig hwhole hlong
      have hm1 : m ≤ 1001 := by omega
      have rn : r'.map V.int ≠ [] := fun z => kn (List.map_eq_nil_iff.mp z)
      refine ⟨_, rfl, p, dx, _, rfl, hp, p, dx, _, _, rfl, hp, fs3_r _ _ _, _, rfl, a, _, _, rfl, rfl, ha, rn, by omega, by omega, by rw [la]; omega, ?_, fun H1 e s1 he => ?_⟩
      · rw [la, Int.toNat_natCast, Nat.mul_comm, ← EW.rep_len]
        omega
      rw [Int.toNat_natCast, rep_int] at he
      have hp1 := s1 _ _ hp
      refine ⟨_, rfl, p, dx, _, rfl, hp1, p, dx, _, _, rfl, hp1, fs3_t _ _ _, e, b, _, _, rfl, rfl, he, Same.sqt s1 hb, ?_, fun H2 f s2 hf => ?_⟩
      · have : ((List.replicate m r').flatten).length ≤ 2001 := hbig
        rw [List.length_map, List.length_map, sizeLine_eq]
        omega
      rw [← List.map_append] at hf
      have lf : (((List.replicate m r').flatten ++ t').map V.int).length = (EW.rep m r' ++ t').length := List.length_map _
      refine ⟨_, rfl, _, rfl, _, _, rfl, .inr hf, _, rfl, _, _, rfl, rfl, _, rfl, f, _, rfl, hf, fun H3 g s3 hg => ?_⟩
      have ec : (((((List.replicate m r').flatten ++ t').map V.int).length : Int) - (n : Int)) = (((EW.rep m r' ++ t').length - n : Nat) : Int) := by
        rw [lf]
        omega
      rw [ec, cut_from _ (by omega), Int.toNat_natCast] at hg
      refine q H3 (.ref g) (Same.trans s1 (Same.trans s2 s3)) ⟨g, rfl, ?_⟩
      rw [hwhole]
      exact hg
/-- len of a height as it is kept -/
theorem len_ht (T : Txt K mg) {k : Int} {H : Hp} {v : V} {h : Ht} {Q : VK} {E : XK} (hh : HtAt K T.C_Endless k H v h) (o : OkH k 200 h) (q : ∀ H', Same H H' → Q (.int (size (kp h) : Nat)) H') :
    rLenE K T.C_Endless (sp_len K T.C_Endless) E [v] H Q := by
  cases h with
  | w a =>
    obtain ⟨x, rfl, hx⟩ := hh
    refine .inl ⟨x, _, rfl, .inr hx, ?_⟩
    rw [List.length_map]
    exact q H (Same.refl H)
  | e r t =>
    have hh : EndAt K T.C_Endless H v k (EW.kept r t).1 (EW.kept r t).2 := hh
    have kl := EW.kept_len o.1 t
    have o1 := o.2.1
    have o2 := o.2.2.1
    obtain ⟨p, dx, rv, tv, rfl, hp, hr, ht⟩ := id hh
    exact .inr ⟨p, dx, _, rfl, hp, .ref p, k, _, _, rfl, hh, by omega, by omega, fun H' s => ⟨_, rfl, by omega, by omega, q H' s⟩⟩
theorem ok__telling_ends (T : Txt K mg) : FnOk P w K mg base CX0 4 T.a__telling_ends T.d__telling_ends ["one", "other"] (sp_tell K T.C_Endless) := by
  refine T.F__telling_ends.ok sc__telling_ends (fun vs H Q E h => ?_) (fun cdv A outer s H vs Q E hr h => ?_)
  · obtain ⟨v, u, k, l, h, g, rfl, _⟩ := h
    rfl
  · obtain ⟨v, u, k, l, h, g, rfl, hh, hg, oh, og, q⟩ := h
    refine ⟨_, (pss_cons (ps_set (i := 2) sc__telling_ends.nd rfl (Or.inl rfl) (pe_op op_add (pe_callB (call_lenE (K := K) (E := E0) rfl T.len_Endless T.lenf_Endless (ok_Endless___len__ T) (hr.mono (by decide)) T.b_Endless___len__ pass0) rfl T.n_len (by decide +kernel) (pa_cons (pv 0) pa_nil)) (pe_callB (call_lenE (K := K) (E := E0) rfl T.len_Endless T.lenf_Endless (ok_Endless___len__ T) (hr.mono (by decide)) T.b_Endless___len__ pass0) rfl T.n_len (by decide +kernel) (pa_cons (pv 1) pa_nil)))) (pss_one (ps_ret (pe_tupK (K := K) rfl (pa_cons (pe_call (ok_last_letters T) (hr.mono (by decide)) rfl T.m_last_letters T.F_last_letters.kp T.b_last_letters .nil pass0 (pa_cons (pv 0) (pa_cons (pv 2) pa_nil))) (pa_cons (pe_call (ok_last_letters T) (hr.mono (by decide)) rfl T.m_last_letters T.F_last_letters.kp T.b_last_letters .nil pass0 (pa_cons (pv 1) (pa_cons (pv 2) pa_nil))) pa_nil)))))), ?_⟩
    have z1 := oh.size
    have z2 := og.size
    refine ⟨_, rfl, ?_⟩
    dsimp only [tNil]
    refine len_ht T hh oh fun H1 s1 => ⟨_, rfl, ?_⟩
    dsimp only [tNil]
    refine len_ht T (hg.same s1) og fun H2 s2 => ⟨_, _, rfl, rfl, ?_⟩
    have s02 := Same.trans s1 s2
    have en : ((size (kp h) : Nat) : Int) + ((size (kp g) : Nat) : Int) = ((size (kp h) + size (kp g) : Nat) : Int) := by omega
    show gName 2 (V.int (((size (kp h) : Nat) : Int) + ((size (kp g) : Nat) : Int))) _ _ _
    rw [en]
    refine ⟨_, rfl, _, rfl, v, k, h, _, rfl, hh.same s02, oh.more (by decide), by omega, fun H3 x s3 hx => ⟨_, rfl, _, rfl, u, l, g, _, rfl, hg.same (Same.trans s02 s3), og.more (by decide), by omega, fun H4 y s4 hy => ⟨by show 2 ≤ sizeLine; decide, fun H5 p s5 hp => ?_⟩⟩⟩
    exact q H5 p x y (Same.trans s02 (Same.trans s3 (Same.trans s4 s5))) hp (hx.same (Same.trans s4 s5)) (hy.same s5)
theorem ok_order_heights (T : Txt K mg) : FnOk P w K mg base CX0 5 T.a_order_heights T.d_order_heights ["one", "other"] (sp_two K T.C_Endless fun h g => .int (ord h g)) := by
  refine T.F_order_heights.ok sc_order_heights (fun vs H Q E h => ?_) (fun cdv A outer s H vs Q E hr h => ?_)
  · obtain ⟨v, u, k, h, g, rfl, _⟩ := h
    rfl
  · obtain ⟨v, u, k, h, g, rfl, hh, hg, oh, og, q⟩ := h
    refine ⟨_, (pss_cons (ps_asg (pe_call (ok__telling_ends T) (hr.mono (by decide)) rfl T.m__telling_ends T.F__telling_ends.kp T.b__telling_ends .nil pass0 (pa_cons (pv 0) (pa_cons (pv 1) pa_nil))) (pg_tupK (K := K) (n := 2) rfl rfl (pgs_cons (pg_name (i := 2) sc_order_heights.nd rfl (Or.inl rfl)) (pgs_cons (pg_name (i := 3) sc_order_heights.nd rfl (Or.inl rfl)) pgs_nil)))) (pss_one (ps_ret (pe_call (ok_order_words T) (hr.mono (by decide)) rfl T.m_order_words T.F_order_words.kp T.b_order_words .nil pass0 (pa_cons (pv 2) (pa_cons (pv 3) pa_nil)))))), ?_⟩
    refine ⟨_, rfl, _, rfl, v, u, k, k, h, g, rfl, hh, hg, oh, og, fun H1 p x y s1 hp hx hy => ⟨p, _, rfl, hp, rfl, _, _, rfl, _, _, rfl, rfl, ?_⟩⟩
    refine ⟨_, rfl, _, rfl, x, y, _, _, rfl, hx, hy, fun H2 s2 => ?_⟩
    rw [ordW_sg]
    exact q H2 (Same.trans s1 s2)
theorem ok_count_agreeing (T : Txt K mg) : FnOk P w K mg base CX0 5 T.a_count_agreeing T.d_count_agreeing ["one", "other"] (sp_two K T.C_Endless agr) := by
  refine T.F_count_agreeing.ok sc_count_agreeing (fun vs H Q E h => ?_) (fun cdv A outer s H vs Q E hr h => ?_)
  · obtain ⟨v, u, k, h, g, rfl, _⟩ := h
    rfl
  · obtain ⟨v, u, k, h, g, rfl, hh, hg, oh, og, q⟩ := h
    refine ⟨_, (pss_cons (ps_if (PW.pt (pw_and (pt_val (pe_callB (call_isiK (K := K) rfl) rfl T.n_isinstance (by decide +kernel) (pa_cons (pv 0) (pa_cons (pe_glob (v := .ref T.C_Endless) rfl T.mC_Endless rfl) pa_nil)))) (pw_and1 (pt_cmpR (op_eqO (E := E0) T.eq_Endless T.eqf_Endless (ok_Endless___eq__ T) (hr.mono (by decide)) T.b_Endless___eq__ pass0) (pv 0) (pv 1) (nomark _))))) (pss_one (ps_ret pe_non)) pss_nil) (pss_cons (ps_asg (pe_call (ok__telling_ends T) (hr.mono (by decide)) rfl T.m__telling_ends T.F__telling_ends.kp T.b__telling_ends .nil pass0 (pa_cons (pv 0) (pa_cons (pv 1) pa_nil))) (pg_tupK (K := K) (n := 2) rfl rfl (pgs_cons (pg_name (i := 2) sc_count_agreeing.nd rfl (Or.inl rfl)) (pgs_cons (pg_name (i := 3) sc_count_agreeing.nd rfl (Or.inl rfl)) pgs_nil)))) (pss_one (ps_ret (pe_call (ok_count_common T) (hr.mono (by decide)) rfl T.m_count_common T.F_count_common.kp T.b_count_common .nil pass0 (pa_cons (pv 2) (pa_cons (pv 3) pa_nil))))))), ?_⟩
    cases h with
    | w a =>
      obtain ⟨x, rfl, hx⟩ := id hh
      refine ⟨_, rfl, _, _, _, _, false, rfl, .own _, tyx_sqt hx, T.ktuple_Endless, _, rfl, iteF ?_⟩
      refine ⟨_, rfl, _, rfl, .ref x, u, k, k, .w a, g, rfl, hh, hg, oh, og, fun H1 p x y s1 hp hx hy => ⟨p, _, rfl, hp, rfl, _, _, rfl, _, _, rfl, rfl, ?_⟩⟩
      refine ⟨_, rfl, _, rfl, x, y, _, _, rfl, hx, hy, ?_⟩
      rw [List.reverse_reverse, List.reverse_reverse, cpl_cp]
      exact q H1 s1
    | e r t =>
      have hh' : EndAt K T.C_Endless H v k (EW.kept r t).1 (EW.kept r t).2 := hh
      obtain ⟨p0, dx, rv, tv, rfl, hp0, hr0, ht0⟩ := id hh'
      refine ⟨_, rfl, _, _, _, _, true, rfl, .own _, tyx_end T hp0, T.ks_Endless, _, rfl, iteT ?_⟩
      cases g with
      | w b =>
        obtain ⟨y0, rfl, hy0⟩ := id hg
        have hk : kp (.e r t) ≠ kp (.w b) := fun z => by cases z
        refine ⟨_, rfl, _, rfl, p0, dx, _, _, rfl, hp0, tyx_sqt hy0, T.nftuple_Endless, .ref p0, .ref y0, k, _, _, rfl, hh', .inl ⟨⟨_, tyx_sqt hy0, T.ktuple_Endless⟩, ?_⟩⟩
        refine ⟨_, rfl, iteF ?_⟩
        refine ⟨_, rfl, _, rfl, .ref p0, .ref y0, k, k, .e r t, (.w b), rfl, hh, hg, oh, og, fun H1 p x y s1 hp hx hy => ⟨p, _, rfl, hp, rfl, _, _, rfl, _, _, rfl, rfl, ?_⟩⟩
        refine ⟨_, rfl, _, rfl, x, y, _, _, rfl, hx, hy, ?_⟩
        rw [List.reverse_reverse, List.reverse_reverse, cpl_cp]
        have q1 := q H1 s1
        unfold agr at q1
        rw [if_neg hk] at q1
        exact q1
      | e r2 t2 =>
        have hg' : EndAt K T.C_Endless H u k (EW.kept r2 t2).1 (EW.kept r2 t2).2 := hg
        obtain ⟨p1, dx1, rv1, tv1, rfl, hp1, hr1, ht1⟩ := id hg'
        refine ⟨_, rfl, _, rfl, p0, dx, _, _, rfl, hp0, tyx_end T hp1, T.nf_Endless, .ref p0, .ref p1, k, _, _, rfl, hh', .inr ⟨k, _, _, hg', ?_⟩⟩
        refine ⟨_, rfl, ?_⟩
        by_cases hk : kp (.e r t) = kp (.e r2 t2)
        · have hk2 : (EW.kept r t).1 = (EW.kept r2 t2).1 ∧ (EW.kept r t).2 = (EW.kept r2 t2).2 := by
            injection hk with z1 z2
            exact ⟨z1, z2⟩
          refine ifT (decide_eq_true ⟨rfl, hk2⟩) ?_
          have q1 := q H (Same.refl H)
          unfold agr at q1
          rw [if_pos hk] at q1
          exact q1
        · have hk2 : ¬ (k = k ∧ (EW.kept r t).1 = (EW.kept r2 t2).1 ∧ (EW.kept r t).2 = (EW.kept r2 t2).2) := fun z => hk (by show Ht.e _ _ = Ht.e _ _; rw [z.2.1, z.2.2])
          refine ifF (decide_eq_false hk2) ?_
          refine ⟨_, rfl, _, rfl, .ref p0, .ref p1, k, k, .e r t, (.e r2 t2), rfl, hh, hg, oh, og, fun H1 p x y s1 hp hx hy => ⟨p, _, rfl, hp, rfl, _, _, rfl, _, _, rfl, rfl, ?_⟩⟩
          refine ⟨_, rfl, _, rfl, x, y, _, _, rfl, hx, hy, ?_⟩
          rw [List.reverse_reverse, List.reverse_reverse, cpl_cp]
          have q1 := q H1 s1
          unfold agr at q1
          rw [if_neg hk] at q1
          exact q1
end
end K05
/-! K05i -/
set_option Elab.async false
set_option linter.all false
set_option maxRecDepth 100000
set_option maxHeartbeats 2000000
namespace K05
open PySem PySem.Spec PyProof.Rows L2 PpSet RL EH
/-- rows of ints stand at the values -/
inductive IsWs (K : PySem.W.Frag) (H : Hp) : List V → List (List Int) → Prop
  | nil : IsWs K H [] []
  | cons {v : V} {k : List Int} {vs : List V} {ks : List (List Int)} : IsW K H v k → IsWs K H vs ks → IsWs K H (v :: vs) (k :: ks)
theorem IsWs.same {K : PySem.W.Frag} {H H' : Hp} (e : Same H H') : ∀ {vs ks}, IsWs K H vs ks → IsWs K H' vs ks
  | _, _, .nil => .nil
  | _, _, .cons h t => .cons (h.same e) (IsWs.same e t)
theorem IsWs.snoc {K : PySem.W.Frag} {H : Hp} {v : V} {k : List Int} (h : IsW K H v k) : ∀ {vs ks}, IsWs K H vs ks → IsWs K H (vs ++ [v]) (ks ++ [k])
  | _, _, .nil => .cons h .nil
  | _, _, .cons q t => .cons q (IsWs.snoc h t)
theorem IsWs.length {K : PySem.W.Frag} {H : Hp} : ∀ {vs ks}, IsWs K H vs ks → vs.length = ks.length
  | _, _, .nil => rfl
  | _, _, .cons _ t => congrArg (· + 1) (IsWs.length t)
theorem IsWs.at {K : PySem.W.Frag} {H : Hp} : ∀ {vs ks} {i : Nat} {v : V}, IsWs K H vs ks → vs[i]? = some v → ∃ k, ks[i]? = some k ∧ IsW K H v k
  | _, _, i, v, .nil, e => by simp at e
  | _, _, 0, v, .cons h _, e => by
    cases Option.some.inj e
    exact ⟨_, rfl, h⟩
  | _, _, i + 1, v, .cons _ t, e => by
    obtain ⟨k, e1, h⟩ := IsWs.at (i := i) t (by simpa using e)
    exact ⟨k, by simpa using e1, h⟩
theorem IsWs.get {K : PySem.W.Frag} {H : Hp} : ∀ {vs ks} {i : Nat} {k : List Int}, IsWs K H vs ks → ks[i]? = some k → ∃ v, vs[i]? = some v ∧ IsW K H v k
  | _, _, i, k, .nil, e => by simp at e
  | _, _, 0, k, .cons h _, e => by
    cases Option.some.inj e
    exact ⟨_, rfl, h⟩
  | _, _, i + 1, k, .cons _ t, e => by
    obtain ⟨v, e1, h⟩ := IsWs.get (i := i) t (by simpa using e)
    exact ⟨v, by simpa using e1, h⟩
theorem IsWs.stay {K : PySem.W.Frag} {H H' : Hp} (e : Stay H H') : ∀ {vs ks}, IsWs K H vs ks → IsWs K H' vs ks
  | _, _, .nil => .nil
  | _, _, .cons h t => .cons (IsW.stay e h) (IsWs.stay e t)
/-- THE RULE for a generator def of the text -/
theorem fun_gen {P : Program} {w : World} {K : PySem.W.Frag} {mg : Str → Option Value} {base : Heap} {x qual : Str} {st : Stmt} {f : Addr} {fd : FuncData} {N ps : List Str} {k : Nat} {sp : SpG} (F : Fun K x qual st f fd) (S : GScope N ps (defScope st)) (len : ∀ vs H Q E, sp vs H Q E → vs.length = ps.length)
    (hbody : ∀ (cdv : Value) (A : Around) (outer : List Env) (s : Shared) (H : Hp) (vs : List V) (Q : List V → Hp → Prop) (E : XK) (pn : List (Addr × Obj)), Room k (A.deeper (envOfC qual (defScope st) s.heap.objs.size f cdv)) → sp vs H Q E →
      ∃ t, GSs (gcxOf P w K mg base N qual (defScope st) f cdv A outer s H E pn) (defBody st) t ∧ t { nx := fun ys _ H' => Q ys H', rt := fun ys v H' => v = .non ∧ Q ys H' } [] (start N vs) H) :
    GFn P w K mg base (k + 1) f fd ps sp := by
  obtain ⟨oc, od, kV, doc, pm, an, cdv, ct, osl, rfl, lk, hcd⟩ := F.ex
  exact gfn_of lk hcd S len fun A outer s H vs Q E pn hr hsp => hbody cdv A outer s H vs Q E pn hr hsp
/-- the ends of a height, shorter ones first -/
def endsOf (h : Ht) (n : Nat) : List (List Int) := (List.range ((far h n).length + 1)).map fun i => ((far h n).take i).reverse
/-- no endless word: by its kind, or a tuple -/
def HAsk (K : PySem.W.Frag) (C : Addr) (k : Int) (v : V) (H : Hp) (Q : VK) : Prop :=
  ((∃ k' r t, EndAt K C H v k' r t ∧ ∀ H', Same H H' → Q (.bl (decide (k' = k))) H') ∨
   ((∃ t, TyX K H v t ∧ PySem.W.kitOne K t (.ref C) = some false) ∧
    (((∃ t, TyX K H v t ∧ PySem.W.kitOne K t (.type "tuple") = some false) ∧ Q (.bl false) H) ∨
      ∃ a xs, v = .ref a ∧ SqT K H a xs ∧ xs.length < sizeLine ∧ (∀ x ∈ xs, ∀ H', Same H H' → NumV K H' x) ∧ ∀ H', Same H H' → Q (.bl (spelled xs k 200)) H')))
def sp_isH (K : PySem.W.Frag) (C : Addr) : Sp := fun vs H Q _ => ∃ (k : Int) (v : V), vs = [.int k, v] ∧ 1 ≤ k ∧ k ≤ 4 ∧ HAsk K C k v H Q
def sp_chk (K : PySem.W.Frag) (C : Addr) : Sp := fun vs H Q _ => ∃ (k : Int) (v : V) (h : Ht), vs = [.int k, v] ∧ 1 ≤ k ∧ k ≤ 4 ∧ HtAt K C k H v h ∧ OkH k 200 h ∧ ∀ H', Same H H' → Q .non H'
def sp_chk2 (K : PySem.W.Frag) (C : Addr) : Sp := fun vs H Q _ => ∃ (k : Int) (v u : V) (h g : Ht), vs = [.int k, v, u] ∧ 1 ≤ k ∧ k ≤ 4 ∧ HtAt K C k H v h ∧ HtAt K C k H u g ∧ OkH k 200 h ∧ OkH k 200 g ∧ ∀ H', Same H H' → Q .non H'
def sp_three (K : PySem.W.Frag) (C : Addr) (f : Ht → Ht → V) : Sp := fun vs H Q _ => ∃ (k : Int) (v u : V) (h g : Ht), vs = [.int k, v, u] ∧ 1 ≤ k ∧ k ≤ 4 ∧ HtAt K C k H v h ∧ HtAt K C k H u g ∧ OkH k 200 h ∧ OkH k 200 g ∧ ∀ H', Same H H' → Q (f h g) H'
def sp_ends (K : PySem.W.Frag) (C : Addr) : Sp := fun vs H Q _ => ∃ (k : Int) (v u : V) (h : Ht) (ws : List Int), vs = [.int k, v, u] ∧ 1 ≤ k ∧ k ≤ 4 ∧ HtAt K C k H v h ∧ OkH k 200 h ∧ IsW K H u ws ∧ okW k ws ∧ ∀ H', Same H H' → Q (.bl (decide ((far h ws.length).reverse = ws))) H'
def sp_each (K : PySem.W.Frag) (C : Addr) : SpG := fun vs H Q _ => ∃ (k : Int) (v : V) (h : Ht) (n : Nat), vs = [.int k, v, .int n] ∧ 1 ≤ k ∧ k ≤ 4 ∧ HtAt K C k H v h ∧ OkH k 200 h ∧ n ≤ 60 ∧ ∀ H' ys, Same H H' → IsWs K H' ys (endsOf h n) → Q ys H'
section
variable {P : Program} {w : World} {K : PySem.W.Frag} {mg : Str → Option Value} {base : Heap}
theorem ok__is_height_of (T : Txt K mg) : FnOk P w K mg base CX0 3 T.a__is_height_of T.d__is_height_of ["letters", "value"] (sp_isH K T.C_Endless) := by
  refine T.F__is_height_of.ok sc__is_height_of (fun vs H Q E h => ?_) (fun cdv A outer s H vs Q E hr h => ?_)
  · obtain ⟨k, v, rfl, _⟩ := h
    rfl
  · obtain ⟨k, v, rfl, k1, k4, h⟩ := h
    refine ⟨_, (pss_cons (ps_if (pt_val (pe_callB (call_isiK (K := K) rfl) rfl T.n_isinstance (by decide +kernel) (pa_cons (pv 1) (pa_cons (pe_glob (v := .ref T.C_Endless) rfl T.mC_Endless rfl) pa_nil)))) (pss_one (ps_ret (pe_cmpR op_eq (pe_prop (E := E0) (pv 1) T.c_Endless T.p_Endless_letters (ok_Endless_letters T) (hr.mono (by decide)) T.b_Endless_letters .nil pass0 rfl) (pv 0) (nomark _)))) pss_nil) (pss_one (ps_ret (pe_call (ok_is_spelled T) (hr.mono (by decide)) rfl T.m_is_spelled T.F_is_spelled.kp T.b_is_spelled .nil pass0 (pa_cons (pv 0) (pa_cons (pv 1) (pa_cons (pe_glob (v := .int 200) rfl T.g_MAX_WORD ⟨_, rfl⟩) pa_nil))))))), ?_⟩
    rcases h with ⟨k', r, t, ⟨p, dx, rv, tv, rfl, hp, _, _⟩, q⟩ | ⟨⟨y, hy, hk⟩, q⟩
    · refine ⟨_, rfl, _, _, _, _, true, rfl, .own _, tyx_end T hp, T.ks_Endless, _, rfl, iteT ?_⟩
      refine ⟨_, rfl, p, dx, _, rfl, hp, p, dx, _, _, rfl, hp, fs3_l _ _ _, _, rfl, rfl, ?_⟩
      have e : decide (V.int k' = V.int k) = decide (k' = k) := by
        by_cases c : k' = k
        · rw [c, decide_eq_true rfl, decide_eq_true rfl]
        · rw [decide_eq_false c, decide_eq_false fun z => c (by injection z)]
      rw [e]
      exact q H (Same.refl H)
    · refine ⟨_, rfl, _, _, _, _, false, rfl, .own _, hy, hk, _, rfl, iteF ?_⟩
      exact ⟨_, rfl, _, rfl, k, 200, v, rfl, q⟩
theorem htAt_isH (T : Txt K mg) {k : Int} {v : V} {h : Ht} {H : Hp} {Q : VK} (hh : HtAt K T.C_Endless k H v h) (oh : OkH k 200 h) (q : ∀ H', Same H H' → Q (.bl true) H') :
    HAsk K T.C_Endless k v H Q := by
  cases h with
  | w a =>
    obtain ⟨x, rfl, hx⟩ := hh
    refine .inr ⟨⟨_, tyx_sqt hx, T.ktuple_Endless⟩, .inr ⟨x, _, rfl, hx, len_small (by have := oh.1; omega), numV_ints, fun H' s => ?_⟩⟩
    rw [spelled_ok ⟨oh.1, oh.2⟩ (Int.le_refl _)]
    exact q H' s
  | e r t =>
    refine .inl ⟨k, _, _, hh, fun H' s => ?_⟩
    rw [decide_eq_true rfl]
    exact q H' s
theorem ok__check_height (T : Txt K mg) : FnOk P w K mg base CX0 4 T.a__check_height T.d__check_height ["letters", "height"] (sp_chk K T.C_Endless) := by
  refine T.F__check_height.ok sc__check_height (fun vs H Q E h => ?_) (fun cdv A outer s H vs Q E hr h => ?_)
  · obtain ⟨k, v, h, rfl, _⟩ := h
    rfl
  · obtain ⟨k, v, h, rfl, k1, k4, hh, oh, q⟩ := h
    refine ⟨_, (pss_one (ps_if (pt_not (pt_val (pe_call (ok__is_height_of T) (hr.mono (by decide)) rfl T.m__is_height_of T.F__is_height_of.kp T.b__is_height_of .nil pass0 (pa_cons (pv 0) (pa_cons (pv 1) pa_nil))))) (pss_one ps_never) pss_nil)), ?_⟩
    refine ⟨_, rfl, _, rfl, k, v, rfl, k1, k4, htAt_isH T hh oh fun H1 s1 => ⟨_, rfl, ?_⟩⟩
    exact iteF (q H1 s1)
theorem ok__check_heights (T : Txt K mg) : FnOk P w K mg base CX0 5 T.a__check_heights T.d__check_heights ["letters", "one", "other"] (sp_chk2 K T.C_Endless) := by
  refine T.F__check_heights.ok sc__check_heights (fun vs H Q E h => ?_) (fun cdv A outer s H vs Q E hr h => ?_)
  · obtain ⟨k, v, u, h, g, rfl, _⟩ := h
    rfl
  · obtain ⟨k, v, u, h, g, rfl, k1, k4, hh, hg, oh, og, q⟩ := h
    refine ⟨_, (pss_cons (ps_expr (pe_call (ok_check_letters T) (hr.mono (by decide)) rfl T.m_check_letters T.F_check_letters.kp T.b_check_letters .nil pass0 (pa_cons (pv 0) pa_nil))) (pss_cons (ps_expr (pe_call (ok__check_height T) (hr.mono (by decide)) rfl T.m__check_height T.F__check_height.kp T.b__check_height .nil pass0 (pa_cons (pv 0) (pa_cons (pv 1) pa_nil)))) (pss_one (ps_expr (pe_call (ok__check_height T) (hr.mono (by decide)) rfl T.m__check_height T.F__check_height.kp T.b__check_height .nil pass0 (pa_cons (pv 0) (pa_cons (pv 2) pa_nil))))))), ?_⟩
    exact ⟨_, rfl, k, rfl, k1, k4, _, rfl, _, rfl, k, v, h, rfl, k1, k4, hh, oh, fun H1 s1 => ⟨_, rfl, _, rfl, k, u, g, rfl, k1, k4, hg.same s1, og, fun H2 s2 => q H2 (Same.trans s1 s2)⟩⟩
theorem ok_is_height (T : Txt K mg) : FnOk P w K mg base CX0 4 T.a_is_height T.d_is_height ["letters", "value"] (sp_isH K T.C_Endless) := by
  refine T.F_is_height.ok sc_is_height (fun vs H Q E h => ?_) (fun cdv A outer s H vs Q E hr h => ?_)
  · obtain ⟨k, v, rfl, _⟩ := h
    rfl
  · obtain ⟨k, v, rfl, k1, k4, h⟩ := h
    refine ⟨_, (pss_cons (ps_expr (pe_call (ok_check_letters T) (hr.mono (by decide)) rfl T.m_check_letters T.F_check_letters.kp T.b_check_letters .nil pass0 (pa_cons (pv 0) pa_nil))) (pss_one (ps_ret (pe_call (ok__is_height_of T) (hr.mono (by decide)) rfl T.m__is_height_of T.F__is_height_of.kp T.b__is_height_of .nil pass0 (pa_cons (pv 0) (pa_cons (pv 1) pa_nil)))))), ?_⟩
    exact ⟨_, rfl, k, rfl, k1, k4, _, rfl, _, rfl, k, v, rfl, k1, k4, h⟩
theorem ok_compare (T : Txt K mg) : FnOk P w K mg base CX0 6 T.a_compare T.d_compare ["letters", "one", "other"] (sp_three K T.C_Endless fun h g => .int (ord h g)) := by
  refine T.F_compare.ok sc_compare (fun vs H Q E h => ?_) (fun cdv A outer s H vs Q E hr h => ?_)
  · obtain ⟨k, v, u, h, g, rfl, _⟩ := h
    rfl
  · obtain ⟨k, v, u, h, g, rfl, k1, k4, hh, hg, oh, og, q⟩ := h
    refine ⟨_, (pss_cons (ps_expr (pe_call (ok__check_heights T) (hr.mono (by decide)) rfl T.m__check_heights T.F__check_heights.kp T.b__check_heights .nil pass0 (pa_cons (pv 0) (pa_cons (pv 1) (pa_cons (pv 2) pa_nil))))) (pss_one (ps_ret (pe_call (ok_order_heights T) (hr.mono (by decide)) rfl T.m_order_heights T.F_order_heights.kp T.b_order_heights .nil pass0 (pa_cons (pv 1) (pa_cons (pv 2) pa_nil)))))), ?_⟩
    exact ⟨_, rfl, _, rfl, _, rfl, k, v, u, h, g, rfl, k1, k4, hh, hg, oh, og, fun H1 s1 => ⟨_, rfl, _, rfl, v, u, k, h, g, rfl, hh.same s1, hg.same s1, oh, og, fun H2 s2 => q H2 (Same.trans s1 s2)⟩⟩
theorem ok_agree (T : Txt K mg) : FnOk P w K mg base CX0 6 T.a_agree T.d_agree ["letters", "one", "other"] (sp_three K T.C_Endless agr) := by
  refine T.F_agree.ok sc_agree (fun vs H Q E h => ?_) (fun cdv A outer s H vs Q E hr h => ?_)
  · obtain ⟨k, v, u, h, g, rfl, _⟩ := h
    rfl
  · obtain ⟨k, v, u, h, g, rfl, k1, k4, hh, hg, oh, og, q⟩ := h
    refine ⟨_, (pss_cons (ps_expr (pe_call (ok__check_heights T) (hr.mono (by decide)) rfl T.m__check_heights T.F__check_heights.kp T.b__check_heights .nil pass0 (pa_cons (pv 0) (pa_cons (pv 1) (pa_cons (pv 2) pa_nil))))) (pss_one (ps_ret (pe_call (ok_count_agreeing T) (hr.mono (by decide)) rfl T.m_count_agreeing T.F_count_agreeing.kp T.b_count_agreeing .nil pass0 (pa_cons (pv 1) (pa_cons (pv 2) pa_nil)))))), ?_⟩
    exact ⟨_, rfl, _, rfl, _, rfl, k, v, u, h, g, rfl, k1, k4, hh, hg, oh, og, fun H1 s1 => ⟨_, rfl, _, rfl, v, u, k, h, g, rfl, hh.same s1, hg.same s1, oh, og, fun H2 s2 => q H2 (Same.trans s1 s2)⟩⟩
theorem ok_ends_with (T : Txt K mg) : FnOk P w K mg base CX0 5 T.a_ends_with T.d_ends_with ["letters", "height", "word"] (sp_ends K T.C_Endless) := by
  refine T.F_ends_with.ok sc_ends_with (fun vs H Q E h => ?_) (fun cdv A outer s H vs Q E hr h => ?_)
  · obtain ⟨k, v, u, h, ws, rfl, _⟩ := h
    rfl
  · obtain ⟨k, v, u, h, ws, rfl, k1, k4, hh, oh, hu, ow, q⟩ := h
    refine ⟨_, (pss_cons (ps_expr (pe_call (ok_check_letters T) (hr.mono (by decide)) rfl T.m_check_letters T.F_check_letters.kp T.b_check_letters .nil pass0 (pa_cons (pv 0) pa_nil))) (pss_cons (ps_expr (pe_call (ok__check_height T) (hr.mono (by decide)) rfl T.m__check_height T.F__check_height.kp T.b__check_height .nil pass0 (pa_cons (pv 0) (pa_cons (pv 1) pa_nil)))) (pss_cons (ps_expr (pe_call (ok_check_word T) (hr.mono (by decide)) rfl T.m_check_word T.F_check_word.kp T.b_check_word .nil pass0 (pa_cons (pv 0) (pa_cons (pv 2) pa_nil)))) (pss_one (ps_ret (pe_cmpR (op_eqD hr.units) (pe_call (ok_last_letters T) (hr.mono (by decide)) rfl T.m_last_letters T.F_last_letters.kp T.b_last_letters .nil pass0 (pa_cons (pv 1) (pa_cons (pe_callB call_len_seq rfl T.n_len (by decide +kernel) (pa_cons (pv 2) pa_nil)) pa_nil))) (pv 2) (nomark _))))))), ?_⟩
    refine ⟨_, rfl, k, rfl, k1, k4, _, rfl, _, rfl, k, v, h, rfl, k1, k4, hh, oh, fun H1 s1 => ⟨_, rfl, _, rfl, k, u, ws, rfl, hu.same s1, ow, fun H2 s2 => ?_⟩⟩
    have s02 := Same.trans s1 s2
    have hu2 := hu.same s02
    obtain ⟨x, rfl, hx⟩ := id hu2
    refine ⟨_, rfl, _, rfl, _, _, rfl, .inr hx, v, k, h, ws.length, ?_, hh.same s02, oh.more (by decide), by have := ow.1; omega, fun H3 y s3 hy => ?_⟩
    · rw [List.length_map]
      rfl
    refine ⟨_, rfl, _, _, hy.dp, (hu2.same s3).dp, shaped_tup _, shaped_tup _, ?_⟩
    rw [eqv_tup]
    exact q H3 (Same.trans s02 s3)
end
end K05
/-! K05j -/
set_option Elab.async false
set_option linter.all false
set_option maxRecDepth 100000
set_option maxHeartbeats 2000000
namespace K05
open PySem PySem.Spec PyProof.Rows L2 PpSet RL EH
theorem range_snoc {α : Type} (f : Nat → α) (i : Nat) : (List.range (i + 1)).map f = (List.range i).map f ++ [f i] := by
  rw [List.range_succ, List.map_append] <;> rfl
section
variable {P : Program} {w : World} {K : PySem.W.Frag} {mg : Str → Option Value} {base : Heap}
theorem ok_each_end (T : Txt K mg) : GFn P w K mg base 5 T.a_each_end T.d_each_end ["letters", "height", "many"] (sp_each K T.C_Endless) := by
  refine fun_gen T.F_each_end sc_each_end (fun vs H Q E h => ?_) fun cdv A outer s H vs Q E pn hr h => ?_
  · obtain ⟨k, v, h, n, rfl, _⟩ := h
    rfl
  · obtain ⟨k, v, h, n, rfl, k1, k4, hh, oh, hn, q⟩ := h
    refine ⟨_, gss_cons (gs_ps (ps_expr (pe_call (ok_check_letters T) (hr.mono (by decide)) rfl T.m_check_letters T.F_check_letters.kp T.b_check_letters .nil pass0 (pa_cons (pv 0) pa_nil))))
      (gss_cons (gs_ps (ps_expr (pe_call (ok__check_height T) (hr.mono (by decide)) rfl T.m__check_height T.F__check_height.kp T.b__check_height .nil pass0 (pa_cons (pv 0) (pa_cons (pv 1) pa_nil)))))
      (gss_cons (gs_ps (ps_expr (pe_call (ok_check_number T) (hr.mono (by decide)) rfl T.m_check_number T.F_check_number.kp T.b_check_number .nil pass0 (pa_cons (pv 2) (pa_cons pe_int (pa_cons (pe_glob (v := .int 60) rfl T.g_MOST_ENDS ⟨_, rfl⟩) pa_nil))))))
      (gss_cons (gs_ps (ps_set (i := 3) sc_each_end.nd rfl (Or.inl rfl) (pe_call (ok_last_letters T) (hr.mono (by decide)) rfl T.m_last_letters T.F_last_letters.kp T.b_last_letters .nil pass0 (pa_cons (pv 1) (pa_cons (pv 2) pa_nil)))))
      (gss_cons (gs_for owns_gcx rfl (pi_range1 rfl T.n_range (pa_cons (pe_op op_add (pe_callB call_len_seq rfl T.n_len (by decide +kernel) (pa_cons (pv 3) pa_nil)) pe_int) pa_nil)) (pg_name (i := 4) sc_each_end.nd rfl (Or.inl rfl))
        (gss_cons (gs_yield (pe_slice sl_tupU (pv 3) (po_some (pe_op op_sub (pe_callB call_len_seq rfl T.n_len (by decide +kernel) (pa_cons (pv 3) pa_nil)) (pv 4))) po_none)) gss_nil))
      gss_nil)))), ?_⟩
    refine ⟨_, rfl, k, rfl, k1, k4, ?_⟩
    refine ⟨_, rfl, _, rfl, k, v, h, rfl, k1, k4, hh, oh, fun H1 s1 => ?_⟩
    refine ⟨_, rfl, _, 0, 60, rfl, numV_int _, by simp [numB]; omega, ?_⟩
    refine ⟨_, rfl, _, rfl, v, k, h, n, rfl, hh.same s1, oh.more (by decide), by omega, fun H2 u s2 hu => ?_⟩
    obtain ⟨x, rfl, hx⟩ := hu
    have fl : (far h n).length ≤ 200 := by
      have := far_len oh.ok n
      rw [this]
      cases h with
      | w a =>
        have := oh.1
        show min n a.length ≤ 200
        omega
      | e r t =>
        show n ≤ 200
        omega
    have lx : ((far h n).reverse.map V.int).length = (far h n).length := by rw [List.length_map, List.length_reverse]
    refine ⟨_, rfl, _, _, rfl, .inr hx, _, _, rfl, rfl, _, rfl, by rw [lx]; omega, by rw [lx]; omega, ?_⟩
    have en : (((((far h n).reverse.map V.int).length : Nat) : Int) + 1).toNat = (far h n).length + 1 := by
      rw [lx]
      omega
    rw [en]
    refine gfor_range (fun i ys σ H3 => Same H2 H3 ∧ IsWs K H3 ys ((List.range i).map fun i => ((far h n).take i).reverse) ∧ ∃ u, σ = [some (.int k), some v, some (.int (n : Int)), some (.ref x), u]) ⟨Same.refl _, .nil, _, rfl⟩ ?_ ?_
    · rintro i ys σ H3 hi ⟨s3, hys, u, rfl⟩
      have hx3 := Same.sqt s3 hx
      have yl := hys.length
      rw [List.length_map, List.length_range] at yl
      refine ⟨by rw [sizeLine_eq]; omega, ?_⟩
      refine ⟨_, rfl, _, rfl, _, _, rfl, .inr hx3, _, rfl, _, _, rfl, rfl, _, rfl, x, _, rfl, hx3, fun H4 p s4 hp => ?_⟩
      have e4 : ((((far h n).reverse.map V.int).length : Int) - (0 + (i : Int))) = (((far h n).length - i : Nat) : Int) := by
        rw [lx]
        omega
      rw [e4, cut_from _ (by omega), Int.toNat_natCast] at hp
      refine ⟨Same.trans s3 s4, ?_, _, rfl⟩
      rw [range_snoc]
      refine (hys.same s4).snoc ⟨p, rfl, ?_⟩
      have e5 : ((far h n).take i).reverse = (far h n).reverse.drop ((far h n).length - i) := by
        rw [List.reverse_take]
      rw [e5]
      exact hp
    · rintro ys σ H3 ⟨s3, hys, u, rfl⟩
      exact q H3 ys (Same.trans s1 (Same.trans s2 s3)) hys
end
end K05
/-! K05y -/
set_option Elab.async false
set_option linter.all false
set_option maxRecDepth 100000
set_option maxHeartbeats 2000000
namespace K05
open PySem PySem.Spec PyProof.Rows L2 PpSet RL
theorem bind_init (D : Addr) (doc pm : Value) (an : Option Addr) (cdv ct : Value) (us ks : List Value) (h1 : us.length = 3) (h2 : ks.length = 1) :
    KwChain D ([("tail" : Str)].zip ks) (bindArgs (PySem.W.fnOf "__init__" "Endless.__init__" (defArgs s_Endless___init__) (defBody s_Endless___init__) (defScope s_Endless___init__) .none (.ref D) doc pm an cdv ct) ⟨us, []⟩) ([("self" : Str), "letters", "ring", "tail"].zip (us ++ ks)) := by
  match us, ks, h1, h2 with
  | [a, b, c], [e], _, _ => exact ⟨_, _, _, _, _, _, rfl, rfl, rfl⟩
theorem bind_initK (D : Addr) (doc pm : Value) (an : Option Addr) (cdv ct : Value) (us ws : List Value) (h1 : us.length = 3) (h2 : ws.length = 1) :
    KwChain D [] (bindArgs (PySem.W.fnOf "__init__" "Endless.__init__" (defArgs s_Endless___init__) (defBody s_Endless___init__) (defScope s_Endless___init__) .none (.ref D) doc pm an cdv ct) ⟨us, [("tail" : Str)].zip ws⟩) ([("self" : Str), "letters", "ring", "tail"].zip (us ++ ws)) := by
  match us, ws, h1, h2 with
  | [a, b, c], [e], _, _ => exact rfl
theorem vals1_ref {e : Addr} {ds : List Value} (h : Vals [V.ref e] ds) : ds = [Value.ref e] := by
  obtain ⟨u, rfl, r⟩ := h.one
  exact congrArg (fun x => [x]) (show u = Value.ref e from r)
end K05
/-! K05k -/
set_option Elab.async false
set_option linter.all false
set_option maxRecDepth 100000
set_option maxHeartbeats 2000000
namespace K05
open PySem PySem.Spec PyProof.Rows L2 PpSet RL EH
theorem made_same {H H2 : Hp} {x dx C : Addr} (nx : H x = none) (ndx : H dx = none) (b2 : But x (upd (upd H dx (.own x)) x (.ins C dx [])) H2) : Same H H2 := fun b o e => b2 b o (ne_of_none e nx) (by rw [upd_ne (ne_of_none e nx), upd_ne (ne_of_none e ndx)]; exact e)
theorem made_stay {H : Hp} {x dx C : Addr} (nx : H x = none) (ndx : H dx = none) : Same H (upd (upd H dx (.own x)) x (.ins C dx [])) := fun b o e => by
  rw [upd_ne (ne_of_none e nx), upd_ne (ne_of_none e ndx)]
  exact e
theorem neF {α : Type} [DecidableEq α] {x y : α} (h : x = y) : (!decide (x = y)) = false := by rw [decide_eq_true h]; rfl
theorem neT {α : Type} [DecidableEq α] {x y : α} (h : x ≠ y) : (!decide (x = y)) = true := by rw [decide_eq_false h]; rfl
/-- a height as the law has it -/
def LwAt (K : PySem.W.Frag) (H : Hp) (v : V) : Ht → Prop
  | .w a => IsW K H v a
  | .e r t => ∃ p rv tv, v = .ref p ∧ H p = some (.lst [rv, tv]) ∧ IsW K H rv r ∧ IsW K H tv t
theorem LwAt.same {K : PySem.W.Frag} {H H' : Hp} {v : V} {h : Ht} (x : LwAt K H v h) (s : Same H H') : LwAt K H' v h := by
  cases h with
  | w a => exact IsW.same s x
  | e r t =>
    obtain ⟨p, rv, tv, e, h1, h2, h3⟩ := x
    exact ⟨p, rv, tv, e, s _ _ h1, h2.same s, h3.same s⟩
theorem LwAt.kp {K : PySem.W.Frag} {b : Addr} {H H' : Hp} {v : V} {h : Ht} (x : LwAt K H v h) (hb : Bag b H) (s : Kp b H H') : LwAt K H' v h := by
  cases h with
  | w a => exact IsW.stay (Kp.stay hb s) x
  | e r t =>
    obtain ⟨p, rv, tv, e, h1, h2, h3⟩ := x
    have st := Kp.stay hb s
    obtain ⟨i, j, l, eb⟩ := hb
    exact ⟨p, rv, tv, e, s.2 _ _ (fun z => by rw [z, eb] at h1; cases h1) h1, h2.stay st, h3.stay st⟩
theorem HtAt.kp {K : PySem.W.Frag} {C : Addr} {k : Int} {b : Addr} {H H' : Hp} {v : V} {h : Ht} (x : HtAt K C k H v h) (hb : Bag b H) (s : Kp b H H') : HtAt K C k H' v h := by
  cases h with
  | w a => exact IsW.stay (Kp.stay hb s) x
  | e r t =>
    obtain ⟨p, dx, rv, tv, e, h1, h2, h3⟩ := x
    have st := Kp.stay hb s
    obtain ⟨i, j, l, eb⟩ := hb
    exact ⟨p, dx, rv, tv, e, s.2 _ _ (fun z => by rw [z, eb] at h1; cases h1) h1, h2.stay st, h3.stay st⟩
def sp__law_drawn (K : PySem.W.Frag) : Sp := fun vs H Q _ => ∃ (b : Addr) (k : Int), vs = [.ref b, .int k] ∧ Bag b H ∧ 1 ≤ k ∧ k ≤ 4 ∧ ∀ H' v h, Kp b H H' → LwAt K H' v h → OkH k 6 h → Q v H'
def sp__law_made (K : PySem.W.Frag) (C : Addr) : Sp := fun vs H Q _ => ∃ (k : Int) (v : V) (h : Ht), vs = [.int k, v] ∧ LwAt K H v h ∧ 1 ≤ k ∧ k ≤ 4 ∧ OkH k 20 h ∧ ∀ H' u, Same H H' → HtAt K C k H' u h → Q u H'
def sp__law_far (K : PySem.W.Frag) : Sp := fun vs H Q _ => ∃ (v : V) (k : Int) (h : Ht), vs = [v] ∧ LwAt K H v h ∧ OkH k 20 h ∧ ∀ H' u, Same H H' → IsW K H' u (far h 90) → Q u H'
section
variable {P : Program} {w : World} {K : PySem.W.Frag} {mg : Str → Option Value} {base : Heap}
theorem ok__law_drawn (T : Txt K mg) : FnOk P w K mg base CX0 3 T.a__law_drawn T.d__law_drawn ["bag", "letters"] (sp__law_drawn K) := by
  refine T.F__law_drawn.ok sc__law_drawn (fun vs H Q E h => ?_) (fun cdv A outer s H vs Q E hr h => ?_)
  · obtain ⟨b, k, rfl, _⟩ := h
    rfl
  · obtain ⟨b, k, rfl, hb, k1, k4, q⟩ := h
    refine ⟨_, (pss_cons (ps_if (pt_cmpR op_eq (pe_call (ok__law_grab T) (hr.mono (by decide)) rfl T.m__law_grab T.F__law_grab.kp T.b__law_grab .nil pass0 (pa_cons (pv 0) (pa_cons pe_int pa_nil))) pe_int (nomark _)) (pss_one (ps_ret (pe_call (ok__law_word_drawn T) (hr.mono (by decide)) rfl T.m__law_word_drawn T.F__law_word_drawn.kp T.b__law_word_drawn .nil pass0 (pa_cons (pv 0) (pa_cons (pv 1) (pa_cons pe_int pa_nil)))))) pss_nil) (pss_cons (ps_set (i := 2) sc__law_drawn.nd rfl (Or.inl rfl) (pe_callTy call_tupS rfl T.n_tuple (by decide +kernel) (pa_cons (pe_lc (own := [("lap", 3)]) rfl sc__law_drawn.nd (pi_range1 rfl T.n_range (pa_cons (pe_op op_add pe_int (pe_call (ok__law_grab T) (hr.mono (by decide)) rfl T.m__law_grab T.F__law_grab.kp T.b__law_grab .nil pass0 (pa_cons (pv 0) (pa_cons pe_int pa_nil)))) pa_nil)) (blkOk_by (own := [("lap", 3)]) (N := ["bag", "letters", "ring", "lap"]) (sc := defScope s__law_drawn) (by decide +kernel)) (fun _ _ _ _ _ => (pg_name (i := 3) sc__law_drawn.nd rfl (Or.inl rfl))) (fun _ _ _ _ _ => pts_nil) (fun _ _ _ _ _ => (pe_call (ok__law_grab T) (hr.mono (by decide)) rfl T.m__law_grab T.F__law_grab.kp T.b__law_grab .nil pass0 (pa_cons (pv 0) (pa_cons (pv 1) pa_nil))))) pa_nil))) (pss_one (ps_ret (pe_lstS (pa_cons (pv 2) (pa_cons (pe_call (ok__law_word_drawn T) (hr.mono (by decide)) rfl T.m__law_word_drawn T.F__law_word_drawn.kp T.b__law_word_drawn .nil pass0 (pa_cons (pv 0) (pa_cons (pv 1) (pa_cons pe_int pa_nil)))) pa_nil))))))), ?_⟩
    refine ⟨_, rfl, b, 3, rfl, hb, by decide, by decide, fun H1 c h1 c0 c1 => ⟨rfl, _, rfl, ?_⟩⟩
    by_cases d : c = 0
    · refine ifT (decide_eq_true (by rw [d])) ?_
      exact ⟨_, rfl, _, rfl, b, k, 6, rfl, h1.1, k1, k4, by omega, by omega, fun H2 v ws k2 i2 l2 o2 => q H2 v (.w ws) (h1.trans k2) i2 ⟨by omega, o2⟩⟩
    · refine ifF (decide_eq_false fun z => d (by injection z)) ?_
      refine ⟨_, rfl, b, 3, rfl, h1.1, by decide, by decide, fun H2 g h2 g0 g1 => ⟨_, _, rfl, rfl, 1 + g, rfl, by omega, by omega, ?_⟩⟩
      have h02 := h1.trans h2
      refine lc_rngB (i := 3) (fun _ y => ∃ r, y = .int r ∧ 0 ≤ r ∧ r < k) (fun _ _ _ _ r => r) h2.1 (by rw [sizeLine_eq]; omega) (fun j hj H3 Q3 k3 q3 => ?_) fun H3 p ys k3 hp0 hp hl hy => ?_
      · exact ⟨_, rfl, _, rfl, b, _, rfl, k3.1, by omega, by omega, fun H5 r' k5 a0 a1 => q3 H5 _ k5 ⟨_, rfl, a0, a1⟩⟩
      obtain ⟨ws, rfl, hw⟩ := ints_of hy
      rw [List.length_map] at hl
      refine ⟨p, _, rfl, .inl (SqL.of hp), fun H4 t s4 ht => ?_⟩
      have h04 := (h02.trans k3).more s4
      refine ⟨_, rfl, _, rfl, _, rfl, b, k, 3, rfl, h04.1, k1, k4, by omega, by omega, fun H5 u us k5 i5 l5 o5 => ?_⟩
      refine ⟨by show 2 ≤ sizeLine; decide, fun H6 o s6 ho0 ho => ?_⟩
      have st := Kp.stay h04.1 k5
      exact q H6 (.ref o) (.e ws us) ((h04.trans k5).more s6) ⟨o, _, _, rfl, ho, ⟨t, rfl, Same.sqt s6 (st.sqt ht)⟩, i5.same s6⟩ ⟨fun z => by rw [z] at hl; simp at hl; omega, by omega, by omega, hw, o5⟩
theorem ok__law_made (T : Txt K mg) : FnOk P w K mg base CX0 6 T.a__law_made T.d__law_made ["letters", "height"] (sp__law_made K T.C_Endless) := by
  refine T.F__law_made.ok sc__law_made (fun vs H Q E h => ?_) (fun cdv A outer s H vs Q E hr h => ?_)
  · obtain ⟨k, v, h, rfl, _⟩ := h
    rfl
  · obtain ⟨k, v, h, rfl, hl, k1, k4, o, q⟩ := h
    refine ⟨_, (pss_one (ps_ret (pe_ifExp (pt_val (pe_callB (call_isiK (K := K) rfl) rfl T.n_isinstance (by decide +kernel) (pa_cons (pv 1) (pa_cons (pe_bltn (v := .ty "tuple") (u := .type "tuple") rfl T.n_tuple (by decide +kernel) rfl) pa_nil)))) (pv 1) (pe_makeK (E := E0) (n := 2) T.mk_Endless (ok_Endless___init__ T) (hr.mono (by decide)) rfl T.mC_Endless T.kb_Endless pass0 (pa_cons (pv 0) (pa_cons (pe_ix ix_list (pv 1) pe_int (fun _ _ => rfl)) pa_nil)) (pk_cons (pe_ix ix_list (pv 1) pe_int (fun _ _ => rfl)) pk_nil))))), ?_⟩
    cases h with
    | w a =>
      obtain ⟨x, rfl, hx⟩ := id hl
      exact ⟨_, rfl, _, _, _, _, true, rfl, .ty _, tyx_sqt hx, kit_ty (by decide +kernel), _, rfl, iteT ⟨_, rfl, q H _ (Same.refl H) ⟨x, rfl, hx⟩⟩⟩
    | e r t =>
      obtain ⟨p, rv, tv, rfl, hp, hr0, ht0⟩ := hl
      obtain ⟨o1, o2, o3, o4, o5⟩ := o
      refine ⟨_, rfl, _, _, _, _, false, rfl, .ty _, .base (.lst hp), kit_ty (by decide +kernel), _, rfl, iteF ?_⟩
      refine ⟨_, rfl, _, rfl, p, _, _, rv, rfl, rfl, SqL.of hp, rfl, _, rfl, p, _, _, tv, rfl, rfl, SqL.of hp, rfl, rfl, rfl, fun x dx nx ndx ne => ?_⟩
      have sM := made_stay (C := T.C_Endless) nx ndx
      refine ⟨x, dx, k, rv, tv, r, t, rfl, upd_same, k1, k4, hr0.same sM, ht0.same sM, ⟨by omega, o4⟩, ⟨by omega, o5⟩, o1, fun H1 rv' tv' b1 h1 hr' ht' => ⟨rfl, ?_⟩⟩
      exact q H1 (.ref x) (made_same nx ndx b1) ⟨x, dx, rv', tv', rfl, h1, hr', ht'⟩
theorem ok__law_far (T : Txt K mg) : FnOk P w K mg base CX0 2 T.a__law_far T.d__law_far ["height"] (sp__law_far K) := by
  refine T.F__law_far.ok sc__law_far (fun vs H Q E h => ?_) (fun cdv A outer s H vs Q E hr h => ?_)
  · obtain ⟨v, k, h, rfl, _⟩ := h
    rfl
  · obtain ⟨v, k, h, rfl, hl, o, q⟩ := h
    refine ⟨_, (pss_one (ps_ret (pe_ifExp (pt_val (pe_callB (call_isiK (K := K) rfl) rfl T.n_isinstance (by decide +kernel) (pa_cons (pv 0) (pa_cons (pe_bltn (v := .ty "tuple") (u := .type "tuple") rfl T.n_tuple (by decide +kernel) rfl) pa_nil)))) (pe_revK (K := K) rfl (pv 0)) (pe_revK (K := K) rfl (pe_call (ok__law_last T) (hr.mono (by decide)) rfl T.m__law_last T.F__law_last.kp T.b__law_last .nil pass0 (pa_cons (pe_ix ix_list (pv 0) pe_int (fun _ _ => rfl)) (pa_cons (pe_ix ix_list (pv 0) pe_int (fun _ _ => rfl)) (pa_cons pe_int pa_nil)))))))), ?_⟩
    cases h with
    | w a =>
      obtain ⟨x, rfl, hx⟩ := id hl
      have o1 := o.1
      refine ⟨_, rfl, _, _, _, _, true, rfl, .ty _, tyx_sqt hx, kit_ty (by decide +kernel), _, rfl, iteT ⟨_, rfl, x, _, rfl, hx, fun H1 p s1 hp => q H1 (.ref p) s1 ⟨p, rfl, ?_⟩⟩⟩
      have : far (.w a) 90 = a.reverse := List.take_of_length_le (by rw [List.length_reverse]; omega)
      rw [this, List.map_reverse]
      exact hp
    | e r t =>
      obtain ⟨p, rv, tv, rfl, hp, hr0, ht0⟩ := hl
      obtain ⟨o1, o2, o3, o4, o5⟩ := o
      refine ⟨_, rfl, _, _, _, _, false, rfl, .ty _, .base (.lst hp), kit_ty (by decide +kernel), _, rfl, iteF ?_⟩
      refine ⟨_, rfl, p, _, _, rv, rfl, rfl, SqL.of hp, rfl, _, rfl, p, _, _, tv, rfl, rfl, SqL.of hp, rfl, rv, tv, r, t, 90, rfl, hr0, ht0, o1, by omega, by omega, by decide, fun H1 u s1 hu => ?_⟩
      obtain ⟨x, rfl, hx⟩ := hu
      refine ⟨x, _, rfl, hx, fun H2 y s2 hy => q H2 (.ref y) (Same.trans s1 s2) ⟨y, rfl, ?_⟩⟩
      show SqT K H2 y ((EW.lastW r t 90).reverse.map V.int)
      rw [List.map_reverse]
      exact hy
end
end K05
/-! K05l -/
set_option Elab.async false
set_option linter.all false
set_option maxRecDepth 100000
set_option maxHeartbeats 2000000
namespace K05
open PySem PySem.Spec PyProof.Rows L2 PpSet RL EH
theorem cp_le : ∀ a b : List Int, cp a b ≤ min a.length b.length
  | [], b => by simp [cp]
  | x :: xs, [] => by simp [cp]
  | x :: xs, y :: ys => by
    have ih := cp_le xs ys
    simp only [cp, List.length_cons]
    split <;> omega
theorem cp_at : ∀ (a b : List Int) (i : Nat), i < cp a b → a[i]? = b[i]?
  | [], b, i, h => by simp [cp] at h
  | x :: xs, [], i, h => by simp [cp] at h
  | x :: xs, y :: ys, i, h => by
    simp only [cp] at h
    split at h
    · rename_i e
      cases i with
      | zero => simp [e]
      | succ i =>
        simp only [List.getElem?_cons_succ]
        exact cp_at xs ys i (by omega)
    · omega
theorem cp_ne : ∀ (a b : List Int), cp a b < min a.length b.length → a[cp a b]? ≠ b[cp a b]?
  | [], b, h => by simp at h
  | x :: xs, [], h => by simp at h
  | x :: xs, y :: ys, h => by
    simp only [cp, List.length_cons] at h ⊢
    split at h
    · rename_i e
      rw [if_pos e]
      simp only [List.getElem?_cons_succ]
      exact cp_ne xs ys (by omega)
    · rename_i e
      rw [if_neg e]
      simpa using e
theorem agr_none {k l : Int} {h g : Ht} (oh : OkH k 20 h) (og : OkH l 20 g) (hw : ∀ a, h ≠ .w a) (e : far h 90 = far g 90) : agr h g = .non := by
  have z1 := oh.size
  have z2 := og.size
  have := (far_eq oh.ok og.ok (n := 90) (by omega)).mp e
  cases h with
  | w a => exact absurd rfl (hw a)
  | e r t =>
    unfold agr
    exact if_pos this
theorem agr_some {k l : Int} {h g : Ht} (oh : OkH k 20 h) (og : OkH l 20 g) (hn : far h 90 ≠ far g 90 ∨ ∃ a, h = .w a) : agr h g = .int (cp (far h 90) (far g 90) : Nat) := by
  have z1 := oh.size
  have z2 := og.size
  have hk : kp h ≠ kp g ∨ ∃ a, h = .w a := hn.imp (fun z y => z ((far_eq oh.ok og.ok (n := 90) (by omega)).mpr y)) id
  rw [com_far oh.ok og.ok hk (n := 90) (by omega)]
  cases h with
  | w a => rfl
  | e r t =>
    unfold agr
    exact if_neg (hk.elim id fun ⟨a, z⟩ => by cases z)
theorem ord_90 {k l : Int} {h g : Ht} (oh : OkH k 20 h) (og : OkH l 20 g) : sg (far h 90) (far g 90) = ord h g := by
  have z1 := oh.size
  have z2 := og.size
  exact ord_far oh.ok og.ok (by omega)
def sp_pairL (K : PySem.W.Frag) (f : Ht → Ht → V) : Sp := fun vs H Q _ => ∃ (v u : V) (k : Int) (h g : Ht), vs = [v, u] ∧ LwAt K H v h ∧ LwAt K H u g ∧ OkH k 20 h ∧ OkH k 20 g ∧ ∀ H', Same H H' → Q (f h g) H'
def sp__law_behind (K : PySem.W.Frag) (C : Addr) : Sp := fun vs H Q _ => ∃ (k : Int) (v u : V) (h : Ht) (ws : List Int), vs = [.int k, v, u] ∧ LwAt K H v h ∧ IsW K H u ws ∧ 1 ≤ k ∧ k ≤ 4 ∧ OkH k 16 h ∧ ws.length ≤ 4 ∧ okR k ws ∧ ∀ H' v', Same H H' → HtAt K C k H' v' (app h ws) → Q v' H'
def sp__law_near (K : PySem.W.Frag) : Sp := fun vs H Q _ => ∃ (b : Addr) (k : Int) (v : V) (h : Ht), vs = [.ref b, .int k, v] ∧ Bag b H ∧ 1 ≤ k ∧ k ≤ 4 ∧ LwAt K H v h ∧ OkH k 6 h ∧
  ∀ H' p us, Kp b H H' → p ≠ b → H' p = some (.lst us) → us.length ≤ 20 → (∀ u ∈ us, ∃ g, LwAt K H' u g ∧ OkH k 13 g) → Q (.ref p) H'
theorem app_okH {k : Int} {h : Ht} {ws : List Int} (o : OkH k 16 h) (z : ws.length ≤ 4) (hw : okR k ws) : OkH k 20 (app h ws) := by
  cases h with
  | w a => exact ⟨by show (a ++ ws).length ≤ 20; have := o.1; rw [List.length_append]; omega, okR_app o.2 hw⟩
  | e r t => exact ⟨o.1, by have := o.2.1; omega, by show (t ++ ws).length ≤ 20; have := o.2.2.1; rw [List.length_append]; omega, o.2.2.2.1, okR_app o.2.2.2.2 hw⟩
theorem okR_cons {k c : Int} {a : List Int} (c0 : 0 ≤ c) (c1 : c < k) (o : okR k a) : okR k (c :: a) := fun i hi => by
  rcases List.mem_cons.mp hi with rfl | hi
  · exact ⟨c0, c1⟩
  · exact o i hi
theorem okR_rep {k : Int} {a : List Int} (n : Nat) (h : okR k a) : okR k (EW.rep n a) := fun x hx => by
  unfold EW.rep at hx
  obtain ⟨l, h1, h2⟩ := List.mem_flatten.mp hx
  rw [(List.mem_replicate.mp h1).2] at h2
  exact h x h2
theorem last_okR {k : Int} {r t : List Int} (hr : r ≠ []) (o1 : okR k r) (o2 : okR k t) (n : Nat) : okR k (EW.lastW r t n) := fun x hx => by
  unfold EW.lastW at hx
  exact okR_app (okR_rep _ o1) o2 x (List.mem_of_mem_drop hx)
theorem all_cons {P : V → Prop} {v : V} {l : List V} (h : P v) (t : ∀ u ∈ l, P u) : ∀ u ∈ v :: l, P u := fun u hu => by
  rcases List.mem_cons.mp hu with e | e
  · rw [e]; exact h
  · exact t u e
theorem all_nil {P : V → Prop} : ∀ u ∈ ([] : List V), P u := fun u hu => by cases hu
section
variable {P : Program} {w : World} {K : PySem.W.Frag} {mg : Str → Option Value} {base : Heap}
theorem ok__law_sign (T : Txt K mg) : FnOk P w K mg base CX0 3 T.a__law_sign T.d__law_sign ["one", "other"] (sp_pairL K fun h g => .int (ord h g)) := by
  refine T.F__law_sign.ok sc__law_sign (fun vs H Q E h => ?_) (fun cdv A outer s H vs Q E hr h => ?_)
  · obtain ⟨v, u, k, h, g, rfl, _⟩ := h
    rfl
  · obtain ⟨v, u, k, h, g, rfl, hh, hg, oh, og, q⟩ := h
    refine ⟨_, (pss_cons (ps_par (i := 2) (j := 3) rfl sc__law_sign.nd rfl rfl (by decide) rfl rfl (pa_cons (pe_call (ok__law_far T) (hr.mono (by decide)) rfl T.m__law_far T.F__law_far.kp T.b__law_far .nil pass0 (pa_cons (pv 0) pa_nil)) (pa_cons (pe_call (ok__law_far T) (hr.mono (by decide)) rfl T.m__law_far T.F__law_far.kp T.b__law_far .nil pass0 (pa_cons (pv 1) pa_nil)) pa_nil)) rfl) (pss_one (ps_ret (pe_ifExp (pt_cmpR (op_eqD hr.units) (pv 2) (pv 3) (nomark _)) pe_int (pe_ifExp (pt_cmpR (op_ltT hr.units0) (pv 2) (pv 3) (nomark _)) (pe_un un_neg pe_int) pe_int))))), ?_⟩
    refine ⟨_, rfl, v, k, h, rfl, hh, oh, fun H1 x s1 hx => ⟨_, rfl, u, k, g, rfl, hg.same s1, og, fun H2 y s2 hy => ⟨_, _, rfl, ?_⟩⟩⟩
    have hx2 := hx.same s2
    have s02 := Same.trans s1 s2
    have e := ord_90 oh og
    have q : ∀ H', Same H H' → Q (.int (ord h g)) H' := q
    refine ⟨_, rfl, _, rfl, _, _, hx2.dp, hy.dp, shaped_tup _, shaped_tup _, _, rfl, ?_⟩
    rw [eqv_tup]
    rw [← e] at q
    unfold sg at q
    by_cases c : far h 90 = far g 90
    · refine ifT (decide_eq_true c) ?_
      rw [if_pos c] at q
      exact q H2 s02
    · refine ifF (decide_eq_false c) ?_
      rw [if_neg c] at q
      obtain ⟨a, rfl, ha⟩ := hx2
      obtain ⟨d, rfl, hd⟩ := hy
      refine ⟨_, rfl, _, rfl, a, d, _, _, rfl, rfl, ha, hd, _, rfl, ?_⟩
      cases hl : HT.lexLt (far h 90) (far g 90) with
      | true =>
        rw [hl, if_pos rfl] at q
        exact iteT ⟨_, rfl, q H2 s02⟩
      | false =>
        rw [hl, if_neg Bool.false_ne_true] at q
        exact iteF (q H2 s02)
theorem ok__law_common (T : Txt K mg) : FnOk P w K mg base CX0 3 T.a__law_common T.d__law_common ["one", "other"] (sp_pairL K agr) := by
  refine T.F__law_common.ok sc__law_common (fun vs H Q E h => ?_) (fun cdv A outer s H vs Q E hr h => ?_)
  · obtain ⟨v, u, k, h, g, rfl, _⟩ := h
    rfl
  · obtain ⟨v, u, k, h, g, rfl, hh, hg, oh, og, q⟩ := h
    refine ⟨_, (pss_cons (ps_par (i := 2) (j := 3) rfl sc__law_common.nd rfl rfl (by decide) rfl rfl (pa_cons (pe_call (ok__law_far T) (hr.mono (by decide)) rfl T.m__law_far T.F__law_far.kp T.b__law_far .nil pass0 (pa_cons (pv 0) pa_nil)) (pa_cons (pe_call (ok__law_far T) (hr.mono (by decide)) rfl T.m__law_far T.F__law_far.kp T.b__law_far .nil pass0 (pa_cons (pv 1) pa_nil)) pa_nil)) rfl) (pss_cons (ps_if (PW.pt (pw_and (pt_cmpR (op_eqD hr.units) (pv 2) (pv 3) (nomark _)) (pw_and (pt_not (pt_val (pe_callB (call_isiK (K := K) rfl) rfl T.n_isinstance (by decide +kernel) (pa_cons (pv 0) (pa_cons (pe_bltn (v := .ty "tuple") (u := .type "tuple") rfl T.n_tuple (by decide +kernel) rfl) pa_nil))))) (pw_and1 (pt_not (pt_val (pe_callB (call_isiK (K := K) rfl) rfl T.n_isinstance (by decide +kernel) (pa_cons (pv 1) (pa_cons (pe_bltn (v := .ty "tuple") (u := .type "tuple") rfl T.n_tuple (by decide +kernel) rfl) pa_nil))))))))) (pss_one (ps_ret pe_non)) pss_nil) (pss_cons (ps_set (i := 4) sc__law_common.nd rfl (Or.inl rfl) pe_int) (pss_cons (ps_while PassesOwn.never (PW.pt (pw_and (pt_cmpR op_lt (pv 4) (pe_callB (call_min2 rfl) rfl T.n_min (by decide +kernel) (pa_cons (pe_callB call_len_seq rfl T.n_len (by decide +kernel) (pa_cons (pv 2) pa_nil)) (pa_cons (pe_callB call_len_seq rfl T.n_len (by decide +kernel) (pa_cons (pv 3) pa_nil)) pa_nil))) (nomark _)) (pw_and1 (pt_cmpR op_eq (pe_ix ix_tup (pv 2) (pv 4) (fun _ _ => rfl)) (pe_ix ix_tup (pv 3) (pv 4) (fun _ _ => rfl)) (nomark _))))) (pss_one (ps_set (i := 4) sc__law_common.nd rfl (Or.inl rfl) (pe_op op_add (pv 4) pe_int)))) (pss_one (ps_ret (pv 4))))))), ?_⟩
    refine ⟨_, rfl, v, k, h, rfl, hh, oh, fun H1 x s1 hx => ⟨_, rfl, u, k, g, rfl, hg.same s1, og, fun H2 y s2 hy => ⟨_, _, rfl, ?_⟩⟩⟩
    have hx2 := hx.same s2
    have s02 := Same.trans s1 s2
    have hh2 := hh.same s02
    have hg2 := hg.same s02
    dsimp only [tNext]
    refine seq_mid (t2 := tIfS (tAnd _ _) _ _) (fun σ H3 => H3 = H2 ∧ σ = [some v, some u, some x, some y, none] ∧ (far h 90 ≠ far g 90 ∨ ∃ a, h = .w a)) ?_ fun nx hnx => ?_
    · rintro σ H3 ⟨rfl, rfl, hn⟩
      have q := q H3 s02
      rw [agr_some oh og hn] at q
      obtain ⟨x, rfl, hxx⟩ := hx2
      obtain ⟨y, rfl, hyy⟩ := hy
      generalize far h 90 = a at hxx q
      generalize far g 90 = b at hyy q
      have la : (a.map V.int).length = a.length := List.length_map _
      have lb : (b.map V.int).length = b.length := List.length_map _
      have cl := cp_le a b
      refine ⟨fun m σ H2 => H2 = H3 ∧ ∃ i : Nat, i ≤ cp a b ∧ m = min a.length b.length - i ∧ σ = [some v, some u, some (.ref x), some (.ref y), some (.int (i : Int))], ⟨_, rfl, 0, Nat.zero_le _, rfl, rfl⟩, ?_⟩
      rintro m σ H2 ⟨rfl, i, hi, rfl, rfl⟩
      refine ⟨_, rfl, _, rfl, _, _, rfl, .inr hxx, _, rfl, _, _, rfl, .inr hyy, _, _, rfl, _, _, rfl, rfl, _, rfl, ?_⟩
      rw [la, lb]
      have em : (if (b.length : Int) < (a.length : Int) then (b.length : Int) else (a.length : Int)) = ((min a.length b.length : Nat) : Int) := by split <;> omega
      rw [em]
      by_cases c : (i : Int) < ((min a.length b.length : Nat) : Int)
      · refine ifT (decide_eq_true c) ?_
        have ra : i < a.length := by omega
        have rb : i < b.length := by omega
        refine ⟨_, rfl, _, rfl, x, _, _, _, rfl, rfl, hxx, at_int (by omega) (by rw [Int.toNat_natCast]; exact List.getElem?_eq_getElem ra), ?_⟩
        refine ⟨_, rfl, _, rfl, y, _, _, _, rfl, rfl, hyy, at_int (by omega) (by rw [Int.toNat_natCast]; exact List.getElem?_eq_getElem rb), ?_⟩
        refine ⟨rfl, _, rfl, ?_⟩
        by_cases d : a[i] = b[i]
        · refine ifT (decide_eq_true (by rw [d])) ⟨_, fun σ' H' z => z, ?_⟩
          refine ⟨_, rfl, _, _, rfl, rfl, ?_⟩
          refine ⟨min a.length b.length - (i + 1), by omega, rfl, i + 1, ?_, rfl, rfl⟩
          refine Nat.lt_of_le_of_ne hi fun z => ?_
          have n := cp_ne a b (by omega)
          rw [← z, List.getElem?_eq_getElem ra, List.getElem?_eq_getElem rb, d] at n
          exact n rfl
        · refine ifF (decide_eq_false (fun z => d (by injection z))) ?_
          have e : cp a b = i := by
            refine Nat.le_antisymm (Nat.le_of_not_lt fun z => ?_) hi
            have n := cp_at _ _ _ z
            rw [List.getElem?_eq_getElem ra, List.getElem?_eq_getElem rb] at n
            exact d (Option.some.inj n)
          rw [e] at q
          exact ⟨_, rfl, q⟩
      · refine ifF (decide_eq_false c) ?_
        have e : cp a b = i := by omega
        rw [e] at q
        exact ⟨_, rfl, q⟩
    · refine ⟨_, rfl, _, rfl, _, _, hx2.dp, hy.dp, shaped_tup _, shaped_tup _, _, rfl, ?_⟩
      rw [eqv_tup]
      by_cases c : far h 90 = far g 90
      · refine ifT (decide_eq_true c) ?_
        cases h with
        | w a =>
          obtain ⟨p, rfl, hp⟩ := id hh2
          refine ⟨_, rfl, _, _, _, _, true, rfl, .ty _, tyx_sqt hp, kit_ty (by decide +kernel), _, rfl, iteF ?_⟩
          exact hnx _ _ ⟨rfl, rfl, .inr ⟨a, rfl⟩⟩
        | e r t =>
          obtain ⟨p, rv, tv, rfl, hp, hr0, ht0⟩ := id hh2
          refine ⟨_, rfl, _, _, _, _, false, rfl, .ty _, .base (.lst hp), kit_ty (by decide +kernel), _, rfl, iteT ?_⟩
          have qn := q H2 s02
          rw [agr_none oh og (fun a z => by cases z) c] at qn
          cases g with
          | w b =>
            have := (far_eq oh.ok og.ok (n := 90) (by have := oh.size; have := og.size; omega)).mp c
            cases this
          | e r2 t2 =>
            obtain ⟨p2, rv2, tv2, rfl, hp2, hr2, ht2⟩ := id hg2
            refine ⟨_, rfl, _, _, _, _, false, rfl, .ty _, .base (.lst hp2), kit_ty (by decide +kernel), _, rfl, iteT ?_⟩
            exact qn
      · refine ifF (decide_eq_false c) ?_
        exact hnx _ _ ⟨rfl, rfl, .inl c⟩
theorem ok__law_behind (T : Txt K mg) : FnOk P w K mg base CX0 8 T.a__law_behind T.d__law_behind ["letters", "height", "word"] (sp__law_behind K T.C_Endless) := by
  refine T.F__law_behind.ok sc__law_behind (fun vs H Q E h => ?_) (fun cdv A outer s H vs Q E hr h => ?_)
  · obtain ⟨k, v, u, h, ws, rfl, _⟩ := h
    rfl
  · obtain ⟨k, v, u, h, ws, rfl, hl, hu, k1, k4, oh, z, ow, q⟩ := h
    refine ⟨_, (pss_one (ps_ret (pe_op (op_addE (K := K) (E := E0) rfl T.sf_Endless T.add_Endless T.addf_Endless (ok_Endless___add__ T) (hr.mono (by decide)) T.b_Endless___add__ pass0) (pe_call (ok__law_made T) (hr.mono (by decide)) rfl T.m__law_made T.F__law_made.kp T.b__law_made .nil pass0 (pa_cons (pv 0) (pa_cons (pv 1) pa_nil))) (pv 2)))), ?_⟩
    refine ⟨_, rfl, _, rfl, k, v, h, rfl, hl, k1, k4, oh.more (by decide), fun H1 u1 s1 hu1 => ⟨_, rfl, ?_⟩⟩
    have hu' := hu.same s1
    obtain ⟨y, rfl, hy⟩ := id hu'
    cases h with
    | w a =>
      obtain ⟨x, rfl, hx⟩ := hu1
      have o1 := oh.1
      refine .inl ⟨x, y, _, _, rfl, rfl, hx, hy, by rw [List.length_map, List.length_map, sizeLine_eq]; omega, fun H2 p s2 hp => ?_⟩
      rw [← List.map_append] at hp
      exact q H2 (.ref p) (Same.trans s1 s2) ⟨p, rfl, hp⟩
    | e r t =>
      have hu1 : EndAt K T.C_Endless H1 u1 k (EW.kept r t).1 (EW.kept r t).2 := hu1
      have kl := EW.kept_len oh.1 t
      have o1 := oh.2.1
      have o2 := oh.2.2.1
      obtain ⟨p, dx, rv, tv, rfl, hp, _, _⟩ := id hu1
      refine .inr ⟨p, dx, _, rfl, hp, tyx_sqt hy, .ref p, .ref y, k, _, _, ws, rfl, hu1, hu', ⟨by omega, ow⟩, k1, k4, EW.kept_ne oh.1 t, by omega, by omega, fun H2 v' s2 hv' => q H2 v' (Same.trans s1 s2) ?_⟩
      rw [EW.kept_more oh.1] at hv'
      exact hv'
theorem ok__law_near (T : Txt K mg) : FnOk P w K mg base CX0 2 T.a__law_near T.d__law_near ["bag", "letters", "height"] (sp__law_near K) := by
  refine T.F__law_near.ok sc__law_near (fun vs H Q E h => ?_) (fun cdv A outer s H vs Q E hr h => ?_)
  · obtain ⟨b, k, v, h, rfl, _⟩ := h
    rfl
  · obtain ⟨b, k, v, h, rfl, hb, k1, k4, hl, oh, q⟩ := h
    refine ⟨_, (pss_cons (ps_if (pt_val (pe_callB (call_isiK (K := K) rfl) rfl T.n_isinstance (by decide +kernel) (pa_cons (pv 2) (pa_cons (pe_bltn (v := .ty "tuple") (u := .type "tuple") rfl T.n_tuple (by decide +kernel) rfl) pa_nil)))) (pss_cons (ps_set (i := 3) sc__law_near.nd rfl (Or.inl rfl) (pe_op (op_catK (K := K) rfl) (pe_tupK (K := K) rfl (pa_cons (pe_call (ok__law_grab T) (hr.mono (by decide)) rfl T.m__law_grab T.F__law_grab.kp T.b__law_grab .nil pass0 (pa_cons (pv 0) (pa_cons (pv 1) pa_nil))) pa_nil)) (pv 2))) (pss_one (ps_ret (pe_lstS (pa_cons (pv 2) (pa_cons (pv 3) (pa_cons (pe_slice sl_tupU (pv 2) (po_some pe_int) po_none) (pa_cons (pe_lstS (pa_cons (pv 3) (pa_cons (pe_tupK (K := K) rfl pa_nil) pa_nil))) (pa_cons (pe_lstS (pa_cons (pe_tupK (K := K) rfl (pa_cons (pe_call (ok__law_grab T) (hr.mono (by decide)) rfl T.m__law_grab T.F__law_grab.kp T.b__law_grab .nil pass0 (pa_cons (pv 0) (pa_cons (pv 1) pa_nil))) pa_nil)) (pa_cons (pv 2) pa_nil))) pa_nil))))))))) pss_nil) (pss_cons (ps_asg (pv 2) (pg_unlK (K := K) (n := 2) rfl rfl (pgs_cons (pg_name (i := 4) sc__law_near.nd rfl (Or.inl rfl)) (pgs_cons (pg_name (i := 5) sc__law_near.nd rfl (Or.inl rfl)) pgs_nil)))) (pss_cons (ps_set (i := 6) sc__law_near.nd rfl (Or.inl rfl) (pe_call (ok__law_grab T) (hr.mono (by decide)) rfl T.m__law_grab T.F__law_grab.kp T.b__law_grab .nil pass0 (pa_cons (pv 0) (pa_cons pe_int pa_nil)))) (pss_cons (ps_set (i := 7) sc__law_near.nd rfl (Or.inl rfl) (pe_call (ok__law_last T) (hr.mono (by decide)) rfl T.m__law_last T.F__law_last.kp T.b__law_last .nil pass0 (pa_cons (pv 4) (pa_cons (pv 5) (pa_cons (pv 6) pa_nil))))) (pss_cons (ps_set (i := 8) sc__law_near.nd rfl (Or.inl rfl) (pe_lstS (pa_cons (pv 2) (pa_cons (pv 7) (pa_cons (pe_op (op_catK (K := K) rfl) (pe_tupK (K := K) rfl (pa_cons (pe_call (ok__law_grab T) (hr.mono (by decide)) rfl T.m__law_grab T.F__law_grab.kp T.b__law_grab .nil pass0 (pa_cons (pv 0) (pa_cons (pv 1) pa_nil))) pa_nil)) (pv 7)) (pa_cons (pe_lstS (pa_cons (pe_op op_repS (pv 4) pe_int) (pa_cons (pe_op (op_catK (K := K) rfl) (pv 4) (pv 5)) pa_nil))) (pa_cons (pe_lstS (pa_cons (pe_op (op_catK (K := K) rfl) (pv 4) (pe_slice sl_tupU (pv 4) po_none (po_some pe_int))) (pa_cons (pv 5) pa_nil))) pa_nil))))))) (pss_one (ps_ret (pe_op op_catL (pv 8) (pe_lstS (pa_cons (pe_lstS (pa_cons (pe_tupK (K := K) rfl (pa_cons (pe_call (ok__law_grab T) (hr.mono (by decide)) rfl T.m__law_grab T.F__law_grab.kp T.b__law_grab .nil pass0 (pa_cons (pv 0) (pa_cons (pv 1) pa_nil))) pa_nil)) (pa_cons (pe_call (ok__law_last T) (hr.mono (by decide)) rfl T.m__law_last T.F__law_last.kp T.b__law_last .nil pass0 (pa_cons (pv 4) (pa_cons (pv 5) (pa_cons (pe_op op_add (pe_callB call_len_seq rfl T.n_len (by decide +kernel) (pa_cons (pv 4) pa_nil)) (pe_callB call_len_seq rfl T.n_len (by decide +kernel) (pa_cons (pv 5) pa_nil))) pa_nil)))) pa_nil))) pa_nil)))))))))), ?_⟩
    cases h with
    | w a =>
      obtain ⟨x, rfl, hx⟩ := id hl
      obtain ⟨o1, o2⟩ := oh
      refine ⟨_, rfl, _, _, _, _, true, rfl, .ty _, tyx_sqt hx, kit_ty (by decide +kernel), _, rfl, iteT ?_⟩
      refine ⟨_, rfl, _, rfl, b, k, rfl, hb, by omega, by omega, fun H1 c h1 c0 c1 => ⟨by show 1 ≤ sizeLine; decide, fun H2 p s2 hp => ?_⟩⟩
      have k02 := h1.more s2
      have hx2 := (Kp.stay hb k02).sqt hx
      refine ⟨_, rfl, p, x, _, _, rfl, rfl, hp, hx2, by rw [List.length_map, sizeLine_eq]; simp; omega, fun H3 y s3 hy => ?_⟩
      have hy : SqT K H3 y ((c :: a).map V.int) := hy
      have hx3 := Same.sqt s3 hx2
      refine ⟨_, rfl, _, rfl, _, rfl, _, rfl, x, _, rfl, hx3, fun H4 z s4 hz => ?_⟩
      rw [cut_from a (by decide)] at hz
      refine ⟨_, rfl, by show 0 ≤ sizeLine; decide, fun H5 e s5 he => ⟨by show 2 ≤ sizeLine; decide, fun H6 l s6 hl0 hl6 => ?_⟩⟩
      have s26 := Same.trans s3 (Same.trans s4 (Same.trans s5 s6))
      have k06 := k02.more s26
      refine ⟨_, rfl, _, rfl, b, k, rfl, k06.1, by omega, by omega, fun H7 d h7 d0 d1 => ⟨by show 1 ≤ sizeLine; decide, fun H8 o s8 ho => ?_⟩⟩
      have st6 := Kp.stay k06.1 h7
      refine ⟨_, rfl, by show 2 ≤ sizeLine; decide, fun H9 m s9 hm0 hm => ⟨by show 5 ≤ sizeLine; decide, fun H10 n s10 hn0 hn => ?_⟩⟩
      have k010 := (k06.trans h7).more (Same.trans s8 (Same.trans s9 s10))
      have s810 := Same.trans s8 (Same.trans s9 s10)
      have nl : l ≠ b := ne_bag ((k02.more (Same.trans s3 (Same.trans s4 s5)))).1 hl0
      have hy6 := Same.sqt (Same.trans s4 (Same.trans s5 s6)) hy
      have hx6 := Same.sqt (Same.trans s4 (Same.trans s5 s6)) hx3
      have up : ∀ {t : Addr} {ts : List V}, SqT K H6 t ts → SqT K H10 t ts := fun z => Same.sqt s810 (st6.sqt z)
      have nn : n ≠ b := ne_bag (((k06.trans h7).more (Same.trans s8 s9))).1 hn0
      refine q H10 n _ k010 nn hn (by show 5 ≤ 20; decide) (all_cons ⟨.w a, ⟨x, rfl, up hx6⟩, by omega, o2⟩ (all_cons ⟨.w (c :: a), ⟨y, rfl, up hy6⟩, by show (c :: a).length ≤ 13; simp; omega, fun i hi => ?_⟩ (all_cons ⟨.w (a.drop 1), ⟨z, rfl, up (Same.sqt (Same.trans s5 s6) hz)⟩, by rw [List.length_drop]; omega, fun i hi => o2 i (List.mem_of_mem_drop hi)⟩
        (all_cons ⟨.e (c :: a) [], ⟨l, _, _, rfl, s810 _ _ (h7.2 _ _ nl hl6), ⟨y, rfl, up hy6⟩, ⟨e, rfl, up (Same.sqt s6 he)⟩⟩, List.cons_ne_nil _ _, by show (c :: a).length ≤ 13; simp; omega, by decide, fun i hi => ?_, fun i hi => by cases hi⟩
        (all_cons ⟨.e [d] a, ⟨m, _, _, rfl, s10 _ _ hm, ⟨o, rfl, Same.sqt (Same.trans s9 s10) ho⟩, ⟨x, rfl, up hx6⟩⟩, List.cons_ne_nil _ _, by show 1 ≤ 13; decide, by omega, fun i hi => by rw [List.mem_singleton.mp hi]; exact ⟨d0, d1⟩, o2⟩ all_nil)))))
      · rcases List.mem_cons.mp hi with rfl | hi
        · exact ⟨c0, c1⟩
        · exact o2 i hi
      · rcases List.mem_cons.mp hi with rfl | hi
        · exact ⟨c0, c1⟩
        · exact o2 i hi
    | e r t =>
      obtain ⟨p, rv, tv, rfl, hp, ⟨x, rfl, hx⟩, ⟨y, rfl, hy⟩⟩ := id hl
      obtain ⟨o1, o2, o3, o4, o5⟩ := oh
      have r0 : 0 < r.length := List.length_pos_iff.mpr o1
      have np : p ≠ b := fun z => by
        obtain ⟨i, j, l, eb⟩ := id hb
        rw [z, eb] at hp
        cases hp
      refine ⟨_, rfl, _, _, _, _, false, rfl, .ty _, .base (.lst hp), kit_ty (by decide +kernel), _, rfl, iteF ?_⟩
      refine ⟨_, rfl, p, _, rfl, SqL.of hp, rfl, _, _, rfl, _, _, rfl, rfl, ?_⟩
      refine ⟨_, rfl, b, 12, rfl, hb, by decide, by decide, fun H1 n h1 n0 n1 => ?_⟩
      obtain ⟨m, rfl⟩ := Int.eq_ofNat_of_zero_le n0
      have st1 := Kp.stay hb h1
      have hx1 := st1.sqt hx
      have hy1 := st1.sqt hy
      refine ⟨_, rfl, _, rfl, _, rfl, .ref x, .ref y, r, t, m, rfl, ⟨x, rfl, hx1⟩, ⟨y, rfl, hy1⟩, o1, by omega, by omega, by omega, fun H2 u s2 hu => ?_⟩
      obtain ⟨e, rfl, he⟩ := hu
      have k02 := h1.more s2
      have ll := EW.last_len o1 t m
      have lo : okR k (EW.lastW r t m) := last_okR o1 o4 o5 m
      generalize EW.lastW r t m = en at he ll lo
      refine ⟨_, rfl, _, rfl, _, rfl, _, rfl, b, k, rfl, k02.1, by omega, by omega, fun H3 c h3 c0 c1 => ⟨by show 1 ≤ sizeLine; decide, fun H4 q4 s4 hq4 => ?_⟩⟩
      have st3 := Kp.stay k02.1 h3
      have k04 := (k02.trans h3).more s4
      have he4 := Same.sqt s4 (st3.sqt he)
      have hx4 := Same.sqt s4 (st3.sqt (Same.sqt s2 hx1))
      have hy4 := Same.sqt s4 (st3.sqt (Same.sqt s2 hy1))
      refine ⟨_, rfl, q4, e, _, _, rfl, rfl, hq4, he4, by rw [List.length_map, sizeLine_eq]; simp; omega, fun H5 w5 s5 hw5 => ?_⟩
      have hw5 : SqT K H5 w5 ((c :: en).map V.int) := hw5
      have hx5 := Same.sqt s5 hx4
      have hy5 := Same.sqt s5 hy4
      refine ⟨_, rfl, x, 2, _, rfl, rfl, hx5, by decide, by decide, by rw [List.length_map]; omega, fun H6 a6 s6 ha6 => ?_⟩
      have ha6 : SqT K H6 a6 ((List.replicate 2 (r.map V.int)).flatten) := ha6
      rw [rep_int] at ha6
      have hx6 := Same.sqt s6 hx5
      have hy6 := Same.sqt s6 hy5
      refine ⟨_, rfl, _, rfl, x, y, _, _, rfl, rfl, hx6, hy6, by rw [List.length_map, List.length_map, sizeLine_eq]; omega, fun H7 a7 s7 ha7 => ⟨by show 2 ≤ sizeLine; decide, fun H8 l8 s8 hl80 hl8 => ?_⟩⟩
      rw [← List.map_append] at ha7
      have hx8 := Same.sqt (Same.trans s7 s8) hx6
      refine ⟨_, rfl, _, rfl, _, rfl, x, _, rfl, hx8, fun H9 a9 s9 ha9 => ?_⟩
      rw [cut_to r (by decide)] at ha9
      refine ⟨x, a9, _, _, rfl, rfl, Same.sqt s9 hx8, ha9, by rw [List.length_map, List.length_map, List.length_take, sizeLine_eq]; omega, fun H10 a10 s10 ha10 => ?_⟩
      rw [← List.map_append] at ha10
      refine ⟨_, rfl, by show 2 ≤ sizeLine; decide, fun H11 l11 s11 hl110 hl11 => ⟨by show 5 ≤ sizeLine; decide, fun H12 f12 s12 hf120 hf12 => ?_⟩⟩
      -- all that stands at H12
      have s48 : Same H4 H8 := Same.trans s5 (Same.trans s6 (Same.trans s7 s8))
      have s811 : Same H8 H11 := Same.trans s9 (Same.trans s10 s11)
      have k011 := k04.more (Same.trans s48 s811)
      have k012 := k011.more s12
      have hp12 : H12 p = some (.lst [.ref x, .ref y]) := k012.2 _ _ np hp
      have nl8 : l8 ≠ b := ne_bag ((k04.more (Same.trans s5 (Same.trans s6 s7)))).1 hl80
      have nl11 : l11 ≠ b := ne_bag ((k04.more (Same.trans s48 (Same.trans s9 s10)))).1 hl110
      have nf12 : f12 ≠ b := ne_bag k011.1 hf120
      have hl8' := (Same.trans s811 s12) _ _ hl8
      have hl11' := s12 _ _ hl11
      have hx12 := Same.sqt (Same.trans s811 s12) hx8
      have hy12 := Same.sqt (Same.trans (Same.trans s7 s8) (Same.trans s811 s12)) hy6
      have he12 := Same.sqt (Same.trans s48 (Same.trans s811 s12)) he4
      have hw12 := Same.sqt (Same.trans (Same.trans s6 (Same.trans s7 s8)) (Same.trans s811 s12)) hw5
      have ha612 := Same.sqt (Same.trans (Same.trans s7 s8) (Same.trans s811 s12)) ha6
      have ha712 := Same.sqt (Same.trans s8 (Same.trans s811 s12)) ha7
      have ha1012 := Same.sqt (Same.trans s11 s12) ha10
      refine ⟨_, rfl, _, rfl, _, rfl, b, k, rfl, k012.1, by omega, by omega, fun H13 d h13 d0 d1 => ⟨by show 1 ≤ sizeLine; decide, fun H14 o14 s14 ho14 => ?_⟩⟩
      have st13 := Kp.stay k012.1 h13
      have k014 := (k012.trans h13).more s14
      have hx14 := Same.sqt s14 (st13.sqt hx12)
      have hy14 := Same.sqt s14 (st13.sqt hy12)
      refine ⟨_, rfl, _, rfl, _, rfl, _, _, rfl, .inr hx14, _, rfl, _, _, rfl, .inr hy14, _, _, rfl, rfl, .ref x, .ref y, r, t, r.length + t.length, ?_, ⟨x, rfl, hx14⟩, ⟨y, rfl, hy14⟩, o1, by omega, by omega, by omega, fun H15 u s15 hu => ?_⟩
      · rw [List.length_map, List.length_map]
        show [V.ref x, V.ref y, V.int _] = [V.ref x, V.ref y, V.int _]
        congr 3
      obtain ⟨e2, rfl, he2⟩ := hu
      have ll2 := EW.last_len o1 t (r.length + t.length)
      have lo2 : okR k (EW.lastW r t (r.length + t.length)) := last_okR o1 o4 o5 _
      generalize EW.lastW r t (r.length + t.length) = en2 at he2 ll2 lo2
      refine ⟨by show 2 ≤ sizeLine; decide, fun H16 l16 s16 hl160 hl16 => ⟨by show 1 ≤ sizeLine; decide, fun H17 l17 s17 hl170 hl17 => ?_⟩⟩
      have s1417 := Same.trans s15 (Same.trans s16 s17)
      have hf17 := (Same.trans s14 s1417) _ _ (h13.2 _ _ nf12 hf12)
      refine ⟨f12, l17, _, _, rfl, rfl, hf17, hl17, by show 5 + 1 ≤ sizeLine; decide, fun H18 z s18 hz0 hz => ?_⟩
      have k017 := k014.more s1417
      have k018 := k017.more s18
      have nz : z ≠ b := ne_bag k017.1 hz0
      have s1318 : Same H13 H18 := Same.trans s14 (Same.trans s1417 s18)
      have up : ∀ {a : Addr} {ts : List V}, SqT K H12 a ts → SqT K H18 a ts := fun q => Same.sqt s1318 (st13.sqt q)
      have ul : ∀ {a : Addr} {ts : List V}, a ≠ b → H12 a = some (.lst ts) → H18 a = some (.lst ts) := fun n q => s1318 _ _ (h13.2 _ _ n q)
      have lr2 : (EW.rep 2 r).length = 2 * r.length := EW.rep_len 2 r
      have or2 : okR k (EW.rep 2 r) := okR_rep 2 o4
      have ha612 : SqT K H12 a6 ((EW.rep 2 r).map V.int) := ha612
      generalize EW.rep 2 r = rr at ha612 lr2 or2
      refine q H18 z _ k018 nz hz (by show 6 ≤ 20; decide) (all_cons ⟨.e r t, ⟨p, _, _, rfl, ul np hp12, ⟨x, rfl, up hx12⟩, ⟨y, rfl, up hy12⟩⟩, o1, by omega, by omega, o4, o5⟩
        (all_cons ⟨.w en, ⟨e, rfl, up he12⟩, by omega, lo⟩
        (all_cons ⟨.w (c :: en), ⟨w5, rfl, up hw12⟩, by show (c :: en).length ≤ 13; rw [List.length_cons]; omega, okR_cons c0 c1 lo⟩
        (all_cons ⟨.e rr (r ++ t), ⟨l8, _, _, rfl, ul nl8 hl8', ⟨a6, rfl, up ha612⟩, ⟨a7, rfl, up ha712⟩⟩, ?_, by omega, by show (r ++ t).length ≤ 13; rw [List.length_append]; omega, or2, okR_app o4 o5⟩
        (all_cons ⟨.e (r ++ r.take 1) t, ⟨l11, _, _, rfl, ul nl11 hl11', ⟨a10, rfl, up ha1012⟩, ⟨y, rfl, up hy12⟩⟩, ?_, by show (r ++ r.take 1).length ≤ 13; rw [List.length_append, List.length_take]; omega, by omega, okR_app o4 fun i hi => o4 i (List.mem_of_mem_take hi), o5⟩
        (all_cons ⟨.e [d] en2, ⟨l16, _, _, rfl, (Same.trans s17 s18) _ _ hl16, ⟨o14, rfl, Same.sqt (Same.trans s1417 s18) ho14⟩, ⟨e2, rfl, Same.sqt (Same.trans s16 (Same.trans s17 s18)) he2⟩⟩, List.cons_ne_nil _ _, by show 1 ≤ 13; decide, by show en2.length ≤ 13; omega, (fun i hi => by rw [List.mem_singleton.mp hi]; exact ⟨d0, d1⟩), lo2⟩ all_nil))))))
      · intro z
        rw [z] at lr2
        simp at lr2
        omega
      · intro z
        have := congrArg List.length z
        rw [List.length_append, List.length_nil] at this
        omega
end
end K05
/-! K05m -/
set_option Elab.async false
set_option linter.all false
set_option maxRecDepth 100000
set_option maxHeartbeats 4000000
namespace K05
open PySem PySem.Spec PyProof.Rows L2 PpSet RL EH
theorem each_ws {α : Type} {K : PySem.W.Frag} {H : Hp} {g : α → List Int} {js : List α} {ys : List V} (h : Each (fun j y => IsW K H y (g j)) js ys) : IsWs K H ys (js.map g) := by
  induction h with
  | nil => exact .nil
  | cons r _ ih => exact .cons r ih
theorem words_dp {K : PySem.W.Frag} {H : Hp} : ∀ {ys wss}, IsWs K H ys wss → DpAll K H ys (wss.map dTup)
  | _, _, .nil => .nil
  | _, _, .cons h t => .cons h.dp (words_dp t)
theorem words_lay : ∀ wss : List (List Int), PyData.canLayAll0 (wss.map dTup) = true
  | [] => by simp only [List.map_nil, PyData.canLayAll0]
  | ws :: wss => by
    rw [List.map_cons]
    simp only [PyData.canLayAll0, PyData.canLay0, lay_ints, words_lay wss, Bool.and_self]
theorem words_depth : ∀ wss : List (List Int), PyData.depthAll (wss.map dTup) ≤ 1
  | [] => by simp [PyData.depthAll]
  | ws :: wss => by
    have := depth_tup ws
    have := words_depth wss
    rw [List.map_cons]
    simp only [PyData.depthAll]
    omega
theorem words_shaped (wss : List (List Int)) : SeqAt.shaped (.list (wss.map dTup)) = true := by
  have := words_depth wss
  unfold SeqAt.shaped
  rw [Bool.and_eq_true]
  exact ⟨by simp only [PyData.canLay0, words_lay], decide_eq_true (by simp only [PyData.depth]; omega)⟩
theorem words_shapedT (wss : List (List Int)) : SeqAt.shaped (.tuple (wss.map dTup)) = true := by
  have := words_depth wss
  unfold SeqAt.shaped
  rw [Bool.and_eq_true]
  exact ⟨by simp only [PyData.canLay0, words_lay], decide_eq_true (by simp only [PyData.depth]; omega)⟩
theorem words_eqvAll : ∀ wss : List (List Int), PyData.eqvAll (wss.map dTup) (wss.map dTup) = true
  | [] => by simp [PyData.eqvAll]
  | ws :: wss => by
    rw [List.map_cons]
    simp only [PyData.eqvAll, words_eqvAll wss, Bool.and_true]
    rw [eqv_tup]
    simp
theorem words_eqv (wss : List (List Int)) : PyData.eqv (.list (wss.map dTup)) (.list (wss.map dTup)) = true := by
  simp only [PyData.eqv, words_eqvAll]
theorem words_eqvT (wss : List (List Int)) : PyData.eqv (.tuple (wss.map dTup)) (.tuple (wss.map dTup)) = true := by
  simp only [PyData.eqv, words_eqvAll]
theorem agr_comm {k l : Int} {h g : Ht} (oh : OkH k 20 h) (og : OkH l 20 g) : agr g h = agr h g := by
  cases h with
  | w a =>
    cases g with
    | w b => show V.int _ = V.int _; rw [com_comm]
    | e r t =>
      have n : ¬ kp (.e r t) = kp (.w a) := fun z => by cases z
      show (if kp (.e r t) = kp (.w a) then V.non else V.int (com (.e r t) (.w a) : Nat)) = V.int (com (.w a) (.e r t) : Nat)
      exact (if_neg n).trans (by rw [com_comm])
  | e r t =>
    cases g with
    | w b =>
      have n : ¬ kp (.e r t) = kp (.w b) := fun z => by cases z
      show V.int (com (.w b) (.e r t) : Nat) = (if kp (.e r t) = kp (.w b) then V.non else V.int (com (.e r t) (.w b) : Nat))
      exact (by rw [com_comm] : V.int (com (.w b) (.e r t) : Nat) = V.int (com (.e r t) (.w b) : Nat)).trans (if_neg n).symm
    | e s u =>
      show (if kp (.e s u) = kp (.e r t) then V.non else V.int _) = (if kp (.e r t) = kp (.e s u) then V.non else V.int _)
      by_cases c : kp (.e r t) = kp (.e s u)
      · rw [if_pos c, if_pos c.symm]
      · rw [if_neg c, if_neg (fun z => c z.symm), com_comm]
theorem agr_scal (h g : Ht) : scal (agr h g) (agr h g) = true := by
  unfold agr
  cases h with
  | w a => rfl
  | e r t =>
    dsimp only
    split <;> rfl
theorem neFV {x y : V} (h : x = y) : (!decide (x = y)) = false := by rw [decide_eq_true h]; rfl
def sp_twoR (K : PySem.W.Frag) : Sp := fun vs H Q _ => ∃ (b : Addr) (k : Int) (v u : V) (h g : Ht), vs = [.ref b, .int k, v, u] ∧ Bag b H ∧ 1 ≤ k ∧ k ≤ 4 ∧ LwAt K H v h ∧ LwAt K H u g ∧ OkH k 16 h ∧ OkH k 16 g ∧ ∀ H', Kp b H H' → Q (.bl true) H'
section
variable {P : Program} {w : World} {K : PySem.W.Frag} {mg : Str → Option Value} {base : Heap}
theorem ok__law_two_right (T : Txt K mg) : FnOk P w K mg base CX0 9 T.a__law_two_right T.d__law_two_right ["bag", "letters", "one", "other"] (sp_twoR K) := by
  refine T.F__law_two_right.ok sc__law_two_right (fun vs H Q E h => ?_) (fun cdv A outer s H vs Q E hr h => ?_)
  · obtain ⟨b, k, v, u, h, g, rfl, _⟩ := h
    rfl
  · obtain ⟨b, k, v, u, h, g, rfl, hb, k1, k4, hh, hg, oh, og, q⟩ := h
    refine ⟨_, (pss_cons (ps_par3 (i := 4) (j := 5) (l := 6) rfl sc__law_two_right.nd rfl rfl rfl (by decide) (by decide) (by decide) rfl rfl rfl (pa_cons (pe_call (ok__law_made T) (hr.mono (by decide)) rfl T.m__law_made T.F__law_made.kp T.b__law_made .nil pass0 (pa_cons (pv 1) (pa_cons (pv 2) pa_nil))) (pa_cons (pe_call (ok__law_made T) (hr.mono (by decide)) rfl T.m__law_made T.F__law_made.kp T.b__law_made .nil pass0 (pa_cons (pv 1) (pa_cons (pv 3) pa_nil))) (pa_cons (pe_call (ok__law_sign T) (hr.mono (by decide)) rfl T.m__law_sign T.F__law_sign.kp T.b__law_sign .nil pass0 (pa_cons (pv 2) (pa_cons (pv 3) pa_nil))) pa_nil))) rfl) (pss_cons (ps_if (PW.pt (pw_or (pt_cmpR op_ne (pe_call (ok_compare T) (hr.mono (by decide)) rfl T.m_compare T.F_compare.kp T.b_compare .nil pass0 (pa_cons (pv 1) (pa_cons (pv 4) (pa_cons (pv 5) pa_nil)))) (pv 6) (nomark _)) (pw_or1 (pt_cmpR op_ne (pe_call (ok_compare T) (hr.mono (by decide)) rfl T.m_compare T.F_compare.kp T.b_compare .nil pass0 (pa_cons (pv 1) (pa_cons (pv 5) (pa_cons (pv 4) pa_nil)))) (pe_op op_sub pe_int (pv 6)) (nomark _))))) (pss_one (ps_ret pe_bl)) pss_nil) (pss_cons (ps_if (PW.pt (pw_or (pt_cmpR op_ne (pe_call (ok_agree T) (hr.mono (by decide)) rfl T.m_agree T.F_agree.kp T.b_agree .nil pass0 (pa_cons (pv 1) (pa_cons (pv 4) (pa_cons (pv 5) pa_nil)))) (pe_call (ok__law_common T) (hr.mono (by decide)) rfl T.m__law_common T.F__law_common.kp T.b__law_common .nil pass0 (pa_cons (pv 2) (pa_cons (pv 3) pa_nil))) (nomark _)) (pw_or1 (pt_cmpR op_ne (pe_call (ok_agree T) (hr.mono (by decide)) rfl T.m_agree T.F_agree.kp T.b_agree .nil pass0 (pa_cons (pv 1) (pa_cons (pv 5) (pa_cons (pv 4) pa_nil)))) (pe_call (ok__law_common T) (hr.mono (by decide)) rfl T.m__law_common T.F__law_common.kp T.b__law_common .nil pass0 (pa_cons (pv 2) (pa_cons (pv 3) pa_nil))) (nomark _))))) (pss_one (ps_ret pe_bl)) pss_nil) (pss_cons (ps_set (i := 7) sc__law_two_right.nd rfl (Or.inl rfl) (pe_call (ok__law_word_drawn T) (hr.mono (by decide)) rfl T.m__law_word_drawn T.F__law_word_drawn.kp T.b__law_word_drawn .nil pass0 (pa_cons (pv 0) (pa_cons (pv 1) (pa_cons pe_int pa_nil))))) (pss_one (ps_ret (pe_cmpR op_eq (pe_call (ok_compare T) (hr.mono (by decide)) rfl T.m_compare T.F_compare.kp T.b_compare .nil pass0 (pa_cons (pv 1) (pa_cons (pe_call (ok__law_behind T) (hr.mono (by decide)) rfl T.m__law_behind T.F__law_behind.kp T.b__law_behind .nil pass0 (pa_cons (pv 1) (pa_cons (pv 2) (pa_cons (pv 7) pa_nil)))) (pa_cons (pe_call (ok__law_behind T) (hr.mono (by decide)) rfl T.m__law_behind T.F__law_behind.kp T.b__law_behind .nil pass0 (pa_cons (pv 1) (pa_cons (pv 3) (pa_cons (pv 7) pa_nil)))) pa_nil)))) (pv 6) (nomark _)))))))), ?_⟩
    have oh20 := oh.more (m' := 20) (by decide)
    have og20 := og.more (m' := 20) (by decide)
    have ohA := oh.more (m' := 200) (by decide)
    have ogA := og.more (m' := 200) (by decide)
    refine ⟨_, rfl, _, rfl, k, v, h, rfl, hh, k1, k4, oh20, fun H1 x s1 hx => ⟨_, rfl, _, rfl, k, u, g, rfl, hg.same s1, k1, k4, og20, fun H2 y s2 hy => ⟨_, rfl, _, rfl, v, u, k, h, g, rfl, hh.same (Same.trans s1 s2), hg.same (Same.trans s1 s2), oh20, og20, fun H3 s3 => ⟨_, _, _, rfl, ?_⟩⟩⟩⟩
    have s03 := Same.trans s1 (Same.trans s2 s3)
    have hx3 := hx.same (Same.trans s2 s3)
    have hy3 := hy.same s3
    have hh3 := hh.same s03
    have hg3 := hg.same s03
    refine ⟨_, rfl, _, rfl, _, rfl, k, x, y, h, g, rfl, k1, k4, hx3, hy3, ohA, ogA, fun H4 s4 => ?_⟩
    refine ⟨_, rfl, rfl, _, rfl, ifF (neF rfl) ?_⟩
    refine ⟨_, rfl, _, rfl, _, rfl, k, y, x, g, h, rfl, k1, k4, hy3.same s4, hx3.same s4, ogA, ohA, fun H5 s5 => ?_⟩
    refine ⟨_, rfl, _, _, rfl, rfl, rfl, _, rfl, ifF (neF (congrArg V.int (ord_neg oh.ok og.ok))) ?_⟩
    have s35 := Same.trans s4 s5
    refine ⟨_, rfl, _, rfl, _, rfl, k, x, y, h, g, rfl, k1, k4, hx3.same s35, hy3.same s35, ohA, ogA, fun H6 s6 => ?_⟩
    have s36 := Same.trans s35 s6
    refine ⟨_, rfl, _, rfl, v, u, k, h, g, rfl, hh3.same s36, hg3.same s36, oh20, og20, fun H7 s7 => ?_⟩
    have s37 := Same.trans s36 s7
    refine ⟨agr_scal h g, _, rfl, ifF (neFV rfl) ?_⟩
    refine ⟨_, rfl, _, rfl, _, rfl, k, y, x, g, h, rfl, k1, k4, hy3.same s37, hx3.same s37, ogA, ohA, fun H8 s8 => ?_⟩
    have s38 := Same.trans s37 s8
    refine ⟨_, rfl, _, rfl, v, u, k, h, g, rfl, hh3.same s38, hg3.same s38, oh20, og20, fun H9 s9 => ?_⟩
    have s39 := Same.trans s38 s9
    have ac := agr_comm oh20 og20
    refine ⟨by rw [ac]; exact agr_scal h g, _, rfl, ifF (neFV ac) ?_⟩
    have k09 := Kp.of hb (Same.trans s03 s39)
    refine ⟨_, rfl, _, rfl, b, k, 3, rfl, k09.1, k1, k4, by omega, by omega, fun H10 wv ws k10 iw lw ow => ?_⟩
    have k010 := k09.trans k10
    have hh10 := hh.kp hb k010
    have hg10 := hg.kp hb k010
    refine ⟨_, rfl, _, rfl, _, rfl, _, rfl, k, v, wv, h, ws, rfl, hh10, iw, k1, k4, oh, by omega, ow, fun H11 x1 s11 hx1 => ?_⟩
    refine ⟨_, rfl, _, rfl, _, rfl, k, u, wv, g, ws, rfl, hg10.same s11, iw.same s11, k1, k4, og, by omega, ow, fun H12 y1 s12 hy1 => ?_⟩
    refine ⟨k, x1, y1, _, _, rfl, k1, k4, hx1.same s12, hy1, (app_okH oh (by omega) ow).more (by decide), (app_okH og (by omega) ow).more (by decide), fun H13 s13 => ?_⟩
    refine ⟨_, rfl, rfl, ?_⟩
    rw [decide_eq_true (congrArg V.int (ord_app oh.ok og.ok ws))]
    exact q H13 (k010.more (Same.trans s11 (Same.trans s12 s13)))
end
end K05
/-! K05n -/
set_option Elab.async false
set_option linter.all false
set_option maxRecDepth 100000
set_option maxHeartbeats 4000000
namespace K05
open PySem PySem.Spec PyProof.Rows L2 PpSet RL EH RZ
theorem min_lt {a b : Nat} : (if (b : Int) < (a : Int) then (b : Int) else (a : Int)) = ((min a b : Nat) : Int) := by split <;> omega
theorem min_gt {a b : Nat} : (if (b : Int) > (a : Int) then (b : Int) else (a : Int)) = ((max a b : Nat) : Int) := by split <;> omega
theorem cutV_from (k : List V) {i : Nat} (h : i ≤ k.length) : cutV k (some (i : Int)) none = k.drop i := by
  unfold cutV
  have e1 : HT.sIx k.length 0 (some (i : Int)) = i := by
    rw [HT.sIx_nat]
    omega
  have e2 : HT.sIx k.length k.length none = k.length := rfl
  rw [e1, e2]
  exact List.take_of_length_le (by rw [List.length_drop]; omega)
theorem iteF' {c : Bool} {A B : Prop} (hc : c = false) (h : B) : if c = true then A else B := by
  rw [hc, if_neg Bool.false_ne_true]; exact h
theorem at_last {α : Type} (l : List α) (x : α) : atI (l ++ [x]) (-1) = some x := by
  unfold atI ixN
  rw [if_neg (by decide), if_pos (by rw [List.length_append, List.length_singleton]; omega)]
  have : ((-1 : Int) + ((l ++ [x]).length : Nat)).toNat = l.length := by rw [List.length_append, List.length_singleton]; omega
  rw [this]
  simp
theorem snoc_inv {K : PySem.W.Frag} {H : Hp} {k : List Int} : ∀ (ks : List (List Int)) (vs : List V), IsWs K H vs (ks ++ [k]) → ∃ us v, vs = us ++ [v] ∧ IsWs K H us ks ∧ IsW K H v k := by
  intro ks
  induction ks with
  | nil =>
    intro vs h
    rw [List.nil_append] at h
    cases h with
    | cons h t =>
      cases t
      exact ⟨[], _, rfl, .nil, h⟩
  | cons k0 ks ih =>
    intro vs h
    rw [List.cons_append] at h
    cases h with
    | cons h t =>
      obtain ⟨us, v, rfl, h1, h2⟩ := ih _ t
      exact ⟨_ :: us, v, rfl, .cons h h1, h2⟩
/-- all ends of 90 letters, to some length -/
def duesOf (h : Ht) (n : Nat) : List (List Int) := (List.range (n + 1)).map fun i => ((far h 90).take i).reverse
theorem dues_ends {h : Ht} (o : Ok h) {m : Nat} (hm : m ≤ 90) : endsOf h m = duesOf h (min m (far h 90).length) := by
  have e := far_take o hm
  have l : (far h m).length = min m (far h 90).length := by rw [← e, List.length_take]
  unfold endsOf duesOf
  rw [l]
  refine List.map_congr_left fun i hi => ?_
  have hi : i < min m (far h 90).length + 1 := List.mem_range.mp hi
  rw [← e, List.take_take, Nat.min_eq_left (by omega)]
theorem dues_snoc (h : Ht) (n : Nat) : duesOf h n = (List.range n).map (fun i => ((far h 90).take i).reverse) ++ [((far h 90).take n).reverse] := range_snoc _ _
theorem ord_words (a b : List Int) : ord (.w a) (.w b) = sg a.reverse b.reverse := by
  have := cp_self_w (a := a) (b := b) (Nat.le_refl _)
  show sg (far (.w a) (a.length + b.length)) (far (.w b) (a.length + b.length)) = _
  rw [this.1, this.2]
theorem ord_step {h : Ht} {i : Nat} (hi : i < (far h 90).length) : ord (.w ((far h 90).take i).reverse) (.w ((far h 90).take (i + 1)).reverse) = -1 := by
  rw [ord_words, List.reverse_reverse, List.reverse_reverse]
  exact sg_take i (i + 1) _ (Nat.lt_succ_self _) hi
theorem ord_end {r t : List Int} (hr : r ≠ []) {m : Nat} (hm : m ≤ 90) : ord (.w ((far (.e r t) 90).take m).reverse) (.e r t) = -1 := by
  have o : Ok (.e r t) := hr
  have e1 : ((far (.e r t) 90).take m) = far (.e r t) m := far_take o hm
  rw [e1]
  have l : (far (.e r t) m).length = m := far_len o m
  have s0 := List.length_pos_iff.mpr (EW.kept_ne hr t)
  unfold ord
  have e2 : size (kp (.w (far (.e r t) m).reverse)) = m := by
    show (far (.e r t) m).reverse.length = m
    rw [List.length_reverse, l]
  have e3 : size (kp (.e r t)) = (EW.kept r t).1.length + (EW.kept r t).2.length := rfl
  rw [e2, e3]
  generalize hN : m + ((EW.kept r t).1.length + (EW.kept r t).2.length) = N
  have e4 : far (.w (far (.e r t) m).reverse) N = (far (.e r t) N).take m := by
    show (far (.e r t) m).reverse.reverse.take N = _
    rw [List.reverse_reverse, List.take_of_length_le (by rw [l]; omega), far_take o (by omega)]
  have lN : (far (.e r t) N).length = N := far_len o N
  rw [e4]
  have := sg_take m N (far (.e r t) N) (by omega) (by omega)
  rw [List.take_of_length_le (i := N) (by omega)] at this
  exact this
theorem dues_words {h : Ht} {k : Int} (o : OkH k 20 h) (i : Nat) : ((far h 90).take i).reverse.length ≤ 90 ∧ okR k ((far h 90).take i).reverse := by
  have l := far_len o.ok 90
  have fl : (far h 90).length ≤ 90 := by
    rw [l]
    cases h with
    | w a => exact Nat.min_le_left _ _
    | e r t => exact Nat.le_refl _
  refine ⟨by rw [List.length_reverse, List.length_take]; omega, fun x hx => ?_⟩
  have hx : x ∈ far h 90 := List.mem_of_mem_take (List.mem_reverse.mp hx)
  cases h with
  | w a => exact o.2 x (List.mem_reverse.mp (List.mem_of_mem_take hx))
  | e r t => exact last_okR o.1 o.2.2.2.1 o.2.2.2.2 90 x (List.mem_reverse.mp hx)
def sp_endsR (K : PySem.W.Frag) : Sp := fun vs H Q _ => ∃ (b : Addr) (k : Int) (v : V) (h : Ht), vs = [.ref b, .int k, v] ∧ Bag b H ∧ 1 ≤ k ∧ k ≤ 4 ∧ LwAt K H v h ∧ OkH k 16 h ∧ ∀ H', Kp b H H' → Q (.bl true) H'
section
variable {P : Program} {w : World} {K : PySem.W.Frag} {mg : Str → Option Value} {base : Heap}
theorem ok__law_ends_right (T : Txt K mg) : FnOk P w K mg base CX0 9 T.a__law_ends_right T.d__law_ends_right ["bag", "letters", "height"] (sp_endsR K) := by
  refine T.F__law_ends_right.ok sc__law_ends_right (fun vs H Q E h => ?_) (fun cdv A outer s H vs Q E hr h => ?_)
  · obtain ⟨b, k, v, h, rfl, _⟩ := h
    rfl
  · obtain ⟨b, k, v, h, rfl, hb, k1, k4, hh, oh, q⟩ := h
    refine ⟨_, (pss_cons (ps_asg (pe_tupK (K := K) rfl (pa_cons (pe_call (ok__law_made T) (hr.mono (by decide)) rfl T.m__law_made T.F__law_made.kp T.b__law_made .nil pass0 (pa_cons (pv 1) (pa_cons (pv 2) pa_nil))) (pa_cons (pe_call (ok__law_far T) (hr.mono (by decide)) rfl T.m__law_far T.F__law_far.kp T.b__law_far .nil pass0 (pa_cons (pv 2) pa_nil)) pa_nil))) (pg_tupK (K := K) (n := 2) rfl rfl (pgs_cons (pg_name (i := 3) sc__law_ends_right.nd rfl (Or.inl rfl)) (pgs_cons (pg_name (i := 4) sc__law_ends_right.nd rfl (Or.inr rfl)) pgs_nil)))) (pss_cons (ps_set (i := 5) sc__law_ends_right.nd rfl (Or.inl rfl) (pe_call (ok__law_grab T) (hr.mono (by decide)) rfl T.m__law_grab T.F__law_grab.kp T.b__law_grab .nil pass0 (pa_cons (pv 0) (pa_cons pe_int pa_nil)))) (pss_cons (ps_setLc (i := 6) (own := [("size", 10)]) rfl sc__law_ends_right.nd rfl rfl (sw_true rfl rfl rfl (by decide +kernel)) (pi_range1 rfl T.n_range (pa_cons (pe_op op_add (pe_callB (call_min2 rfl) rfl T.n_min (by decide +kernel) (pa_cons (pv 5) (pa_cons (pe_callB call_len_seq rfl T.n_len (by decide +kernel) (pa_cons (pv 4) pa_nil)) pa_nil))) pe_int) pa_nil)) (blkOk_by (own := [("size", 10)]) (N := ["bag", "letters", "height", "here", "letters_from", "many", "due", "told", "some", "word", "size", "one", "two"]) (sc := defScope s__law_ends_right) (by decide +kernel)) (fun _ _ _ _ _ => (pg_name (i := 10) sc__law_ends_right.nd rfl (Or.inl rfl))) (fun _ _ _ _ _ => pts_nil) (fun _ _ _ _ _ => (pe_revK (K := K) rfl (pe_slice (sl_tupK (K := K) rfl) (pv 4) po_none (po_some (pv 10)))))) (pss_cons (ps_set (i := 7) sc__law_ends_right.nd rfl (Or.inl rfl) (pe_listG (E := E0) (pgen_call (E := E0) (ok_each_end T) (hr.mono (by decide)) rfl T.m_each_end T.F_each_end.kp T.b_each_end .nil (pa_cons (pv 1) (pa_cons (pv 3) (pa_cons (pv 5) pa_nil)))) passE0 noStopE0 (hr.mono (by decide)) rfl T.n_list (by decide +kernel))) (pss_cons (ps_if (PW.pt (pw_or (pt_cmpR (op_neD hr.units) (pv 7) (pv 6) (nomark _)) (pw_or1 (pt_cmpR (op_neD hr.units) (pe_lc (own := [("one", 11), ("two", 12)]) rfl sc__law_ends_right.nd (pi_zipA rfl T.n_zip (pa_cons (pv 7) (pa_cons (pe_slice sl_lstU (pv 7) (po_some pe_int) po_none) pa_nil))) (blkOk_by (own := [("one", 11), ("two", 12)]) (N := ["bag", "letters", "height", "here", "letters_from", "many", "due", "told", "some", "word", "size", "one", "two"]) (sc := defScope s__law_ends_right) (by decide +kernel)) (fun _ _ _ _ _ => (pg_tupK (K := K) (n := 2) rfl rfl (pgs_cons (pg_name (i := 11) sc__law_ends_right.nd rfl (Or.inl rfl)) (pgs_cons (pg_name (i := 12) sc__law_ends_right.nd rfl (Or.inl rfl)) pgs_nil)))) (fun _ _ _ _ _ => (pts_one (pt_cmpR op_ne (pe_call (ok_compare T) (hr.mono (by decide)) rfl T.m_compare T.F_compare.kp T.b_compare .nil pass0 (pa_cons (pv 1) (pa_cons (pv 11) (pa_cons (pv 12) pa_nil)))) (pe_un un_neg pe_int) (nomark _)))) (fun _ _ _ _ _ => pe_int)) (pe_lstS pa_nil) (nomark _))))) (pss_one (ps_ret pe_bl)) pss_nil) (pss_cons (ps_set (i := 8) sc__law_ends_right.nd rfl (Or.inl rfl) (pe_lstS (pa_cons (pe_ix ix_list (pv 6) (pe_un un_neg pe_int) (fun _ _ => rfl)) (pa_cons (pe_call (ok__law_word_drawn T) (hr.mono (by decide)) rfl T.m__law_word_drawn T.F__law_word_drawn.kp T.b__law_word_drawn .nil pass0 (pa_cons (pv 0) (pa_cons (pv 1) (pa_cons pe_int pa_nil)))) (pa_cons (pe_op (op_catK (K := K) rfl) (pe_tupK (K := K) rfl (pa_cons (pe_call (ok__law_grab T) (hr.mono (by decide)) rfl T.m__law_grab T.F__law_grab.kp T.b__law_grab .nil pass0 (pa_cons (pv 0) (pa_cons (pv 1) pa_nil))) pa_nil)) (pe_ix ix_list (pv 6) (pe_un un_neg pe_int) (fun _ _ => rfl))) pa_nil))))) (pss_cons (ps_for PassesOwn.never rfl (pi_list (pv 8)) (pg_name (i := 9) sc__law_ends_right.nd rfl (Or.inl rfl)) (pss_one (ps_if (pt_cmpR op_ne (pe_callB call_repr_bl rfl T.n_repr (by decide +kernel) (pa_cons (pe_call (ok_ends_with T) (hr.mono (by decide)) rfl T.m_ends_with T.F_ends_with.kp T.b_ends_with .nil pass0 (pa_cons (pv 1) (pa_cons (pv 3) (pa_cons (pv 9) pa_nil)))) pa_nil)) (pe_callB call_repr_bl rfl T.n_repr (by decide +kernel) (pa_cons (pe_cmpR (op_eqD hr.units) (pv 9) (pe_revK (K := K) rfl (pe_slice sl_tupU (pv 4) po_none (po_some (pe_callB call_len_seq rfl T.n_len (by decide +kernel) (pa_cons (pv 9) pa_nil))))) (nomark _)) pa_nil)) (nomark _)) (pss_one (ps_ret pe_bl)) pss_nil))) (pss_one (ps_ret (pe_or (pe_callB (call_isiK (K := K) rfl) rfl T.n_isinstance (by decide +kernel) (pa_cons (pv 2) (pa_cons (pe_bltn (v := .ty "tuple") (u := .type "tuple") rfl T.n_tuple (by decide +kernel) rfl) pa_nil))) (pe_one (pe_cmpR op_eq (pe_call (ok_compare T) (hr.mono (by decide)) rfl T.m_compare T.F_compare.kp T.b_compare .nil pass0 (pa_cons (pv 1) (pa_cons (pe_ix ix_list (pv 6) (pe_un un_neg pe_int) (fun _ _ => rfl)) (pa_cons (pv 3) pa_nil)))) (pe_un un_neg pe_int) (nomark _))))))))))))), ?_⟩
    have oh20 := oh.more (m' := 20) (by decide)
    have ohA := oh.more (m' := 200) (by decide)
    refine ⟨_, rfl, _, rfl, k, v, h, rfl, hh, k1, k4, oh20, fun H1 x s1 hx => ⟨_, rfl, v, k, h, rfl, hh.same s1, oh20, fun H2 y0 s2 hy0 => ⟨by show 2 ≤ sizeLine; decide, fun H3 p s3 hp => ?_⟩⟩⟩
    obtain ⟨y, rfl, hy⟩ := hy0
    refine ⟨p, _, rfl, hp, rfl, _, _, rfl, _, _, rfl, rfl, ?_⟩
    have s03 := Same.trans s1 (Same.trans s2 s3)
    have k03 := Kp.of hb s03
    have dw := fun i => dues_words oh20 i
    have fl : (far h 90).length ≤ 90 := by
      have := (dw 90).1
      rw [List.length_reverse, List.length_take] at this
      have l := far_len oh.ok 90
      rw [l]
      cases h with
      | w a => exact Nat.min_le_left _ _
      | e r t => exact Nat.le_refl _
    refine ⟨_, rfl, b, 20, rfl, k03.1, by decide, by decide, fun H4 n h4 n0 n1 => ?_⟩
    obtain ⟨m, rfl⟩ := Int.eq_ofNat_of_zero_le n0
    have k04 := k03.trans h4
    have st4 := Kp.stay k03.1 h4
    have hy4 := st4.sqt (Same.sqt s3 hy)
    have hx4 : HtAt K T.C_Endless k H4 x h := (hx.same (Same.trans s2 s3)).kp k03.1 h4
    have lf : ((far h 90).map V.int).length = (far h 90).length := List.length_map _
    refine ⟨_, rfl, _, rfl, _, _, rfl, .inr hy4, _, _, rfl, _, _, rfl, rfl, ?_⟩
    rw [lf, min_lt]
    obtain ⟨N, hN⟩ : ∃ N, min m (far h 90).length = N := ⟨_, rfl⟩
    rw [hN]
    have en : (((N : Nat) : Int) + 1).toNat = N + 1 := by omega
    refine ⟨_, rfl, by omega, by omega, ?_⟩
    rw [en]
    refine lc_rngA (i := 10) (fun H j y => IsW K H y ((far h 90).take j).reverse) (fun H H' x y e z => z.stay e) (by rw [sizeLine_eq]; omega) (fun j hj H5 Q5 s5 q5 => ?_) fun H5 p5 ys s5 hp50 hp5 e5 => ?_
    · have hy5 := Same.sqt s5 hy4
      refine ⟨_, rfl, _, rfl, _, rfl, y, _, rfl, hy5, fun H6 a6 s6 ha6 => ⟨a6, _, rfl, ha6, fun H7 a7 s7 ha7 => q5 H7 (.ref a7) (Same.trans s6 s7) ⟨a7, rfl, ?_⟩⟩⟩
      rw [cut_to _ (by omega), ← List.map_reverse, Int.zero_add, Int.toNat_natCast] at ha7
      exact ha7
    have hw5 : IsWs K H5 ys (duesOf h N) := each_ws e5
    have hx5 := hx4.same s5
    have hy5 := Same.sqt s5 hy4
    have k05 := k04.more s5
    have n5 := ne_bag k04.1 hp50
    -- what is told
    refine ⟨_, rfl, _, rfl, _, rfl, k, x, h, m, rfl, k1, k4, hx5, ohA, by omega, fun H6 us s6 hus p6 hp60 => ?_⟩
    rw [dues_ends oh.ok (by omega), hN] at hus
    have s56 := Same.trans s6 (same_upd hp60 (.lst us))
    have hw6 := hw5.same s56
    have hus6 := hus.same (same_upd hp60 (.lst us))
    have hp56 := s56 _ _ hp5
    have k06 := k05.more s56
    have n6 := ne_bag (k05.more s6).1 hp60
    have hp66 : (upd H6 p6 (.lst us)) p6 = some (.lst us) := upd_same
    generalize upd H6 p6 (.lst us) = H7 at s56 hw6 hus6 hp56 k06 hp66
    refine ⟨_, rfl, _, rfl, _, _, .lst (SqL.of hp66) (words_dp hus6), .lst (SqL.of hp56) (words_dp hw6), words_shaped _, words_shaped _, _, rfl, ifF ?_ ?_⟩
    · rw [words_eqv]
      rfl
    have lu : us.length = N + 1 := by
      rw [hus6.length]
      simp [duesOf]
    have dl : (duesOf h N).length = N + 1 := by simp [duesOf]
    have ndl : N ≤ (far h 90).length := by omega
    have hx7 : HtAt K T.C_Endless k H7 x h := hx5.same s56
    have hy7 := Same.sqt s56 hy5
    refine ⟨_, rfl, _, rfl, _, rfl, p6, _, rfl, SqL.of hp66, fun H8 p8 s8 hp80 hp8 => ?_⟩
    have cv : cutV us (some 1) none = us.drop 1 := cutV_from us (i := 1) (by omega)
    rw [cv] at hp8
    have hp68 := s8 _ _ hp66
    have hus8 := hus6.same s8
    refine ⟨p6, p8, _, _, rfl, .inl ⟨SqL.of hp68, SqL.of hp8, fun D hD => ?_⟩⟩
    refine lc_it (walk_zip (K := K) (a := p6) (b := p8) (xs := us) (ys := us.drop 1) (n := N) (by rw [List.length_drop]; omega)) (fun i H => Same H8 H ∧ H D = some (.lst [])) ⟨same_upd hD _, upd_same⟩ (fun i H _ z => ⟨SqL.of (z.1 _ _ hp68), SqL.of (z.1 _ _ hp8)⟩) (fun i x1 H H' hi z yy => ?_) fun H9 z => ?_
    · obtain ⟨U, u1, u2, rfl, hU, rfl, e1, e2⟩ := yy
      obtain ⟨z1, z2⟩ := z
      have sU := same_upd hU (.tup [u1, u2])
      refine ⟨U, _, rfl, SqT.of upd_same, rfl, _, _, rfl, _, _, rfl, rfl, rfl, ?_⟩
      have e1 : us[i]? = some u1 := e1
      have e2 : (us.drop 1)[i]? = some u2 := e2
      rw [List.getElem?_drop] at e2
      have hus9 := (hus8.same z1).same sU
      obtain ⟨a1, f1, hu1⟩ := hus9.at e1
      obtain ⟨a2, f2, hu2⟩ := hus9.at e2
      have g1 : a1 = ((far h 90).take i).reverse := by
        have : (duesOf h N)[i]? = some ((far h 90).take i).reverse := by
          unfold duesOf
          rw [List.getElem?_map, List.getElem?_range (by omega)]
          rfl
        rw [this] at f1
        exact (Option.some.inj f1).symm
      have g2 : a2 = ((far h 90).take (i + 1)).reverse := by
        have : (duesOf h N)[1 + i]? = some ((far h 90).take (i + 1)).reverse := by
          unfold duesOf
          rw [List.getElem?_map, List.getElem?_range (by omega), Nat.add_comm 1 i]
          rfl
        rw [this] at f2
        exact (Option.some.inj f2).symm
      subst g1 g2
      refine ⟨_, rfl, _, rfl, _, rfl, k, u1, u2, .w _, .w _, rfl, k1, k4, hu1, hu2, ⟨by have := (dw i).1; omega, (dw i).2⟩, ⟨by have := (dw (i + 1)).1; omega, (dw (i + 1)).2⟩, fun H9 s9 => ⟨_, rfl, rfl, _, rfl, ?_⟩⟩
      refine iteF' (neF (congrArg V.int (ord_step (h := h) (i := i) (by omega)))) ?_
      exact ⟨Same.trans z1 (Same.trans sU s9), s9 _ _ (sU _ _ z2)⟩
    obtain ⟨s9, hD9⟩ := z
    refine ⟨by show 0 ≤ sizeLine; decide, fun H10 e10 s10 he0 he => ⟨_, _, .lst (SqL.of (s10 _ _ hD9)) .nil, .lst (SqL.of he) .nil, by decide +kernel, by decide +kernel, _, rfl, ifF (by decide +kernel) ?_⟩⟩
    have s710 := Same.trans s8 (Same.trans s9 s10)
    have k10 := k06.more s710
    have hp510 := s710 _ _ hp56
    obtain ⟨ys', vl, rfl, hys', hvl⟩ := snoc_inv _ _ (dues_snoc h N ▸ hw6.same s710)
    have hx10 := hx7.same s710
    have hy10 := Same.sqt s710 hy7
    -- some words
    refine ⟨_, rfl, _, rfl, p5, _, _, vl, rfl, rfl, SqL.of hp510, at_last _ _, _, rfl, _, rfl, b, k, 3, rfl, k10.1, k1, k4, by omega, by omega, fun H11 wv ws k11 iw lw ow => ?_⟩
    have k011 := k10.trans k11
    refine ⟨_, rfl, _, rfl, b, k, rfl, k011.1, by omega, by omega, fun H12 c h12 c0 c1 => ⟨by show 1 ≤ sizeLine; decide, fun H13 o13 s13 ho13 => ?_⟩⟩
    have k012 := k011.trans h12
    have k1012 := k11.trans h12
    have hp513 := s13 _ _ (k1012.2 _ _ n5 hp510)
    have hvl13 := (hvl.stay (Kp.stay k10.1 k1012)).same s13
    have iw13 := (iw.stay (Kp.stay k011.1 h12)).same s13
    have hx13 := (hx10.kp k10.1 k1012).same s13
    have hy13 := Same.sqt s13 ((Kp.stay k10.1 k1012).sqt hy10)
    obtain ⟨z, rfl, hz⟩ := id hvl13
    refine ⟨_, rfl, _, rfl, p5, _, _, .ref z, rfl, rfl, SqL.of hp513, at_last _ _, o13, z, _, _, rfl, rfl, ho13, hz, ?_, fun H14 o14 s14 ho14 => ⟨by show 3 ≤ sizeLine; decide, fun H15 p15 s15 hp150 hp15 => ?_⟩⟩
    · have := (dw N).1
      rw [List.length_map, sizeLine_eq]
      simp only [List.length_singleton]
      omega
    have ho14 : SqT K H14 o14 ((c :: ((far h 90).take N).reverse).map V.int) := ho14
    have s1315 := Same.trans s14 s15
    have k015 := k012.more (Same.trans s13 s1315)
    have lN : ((far h 90).take N).reverse.length = N := by rw [List.length_reverse, List.length_take]; omega
    have hN20 : N ≤ 19 := by omega
    have items : ∀ u ∈ [V.ref z, wv, .ref o14], ∃ us, IsW K H15 u us ∧ us.length ≤ 90 ∧ okR k us :=
      all_cons ⟨_, hvl13.same s1315, (dw N).1, (dw N).2⟩ (all_cons ⟨_, iw13.same s1315, by omega, ow⟩ (all_cons ⟨_, ⟨o14, rfl, Same.sqt s15 ho14⟩, by rw [List.length_cons]; omega, okR_cons c0 c1 (dw N).2⟩ all_nil))
    have hx15 := hx13.same s1315
    have hy15 := Same.sqt s1315 hy13
    have hp515 := s1315 _ _ hp513
    have hz15 := hvl13.same s1315
    have hh15 := hh.kp hb k015
    generalize hL : [V.ref z, wv, .ref o14] = L at hp15 items
    refine ⟨_, rfl, p15, rfl, ⟨_, SqL.of hp15⟩, for_list (xs := L) (fun i σ H => Same H15 H ∧ ∃ u9, σ = [some (.ref b), some (.int k), some v, some x, some (.ref y), some (.int (m : Nat)), some (.ref p5), some (.ref p6), some (.ref p15), u9, none, none, none]) ⟨Same.refl _, _, rfl⟩ (fun i σ H _ z => SqL.of (z.1 _ _ hp15)) ?_ ?_⟩
    · rintro i u σ H16 hi ⟨s16, u9, rfl⟩
      obtain ⟨ws, hws, lws, ows⟩ := items u (List.mem_of_getElem? hi)
      have hws16 := hws.same s16
      refine ⟨_, rfl, _, rfl, _, rfl, k, x, u, h, ws, rfl, k1, k4, hx15.same s16, ohA, hws16, ⟨by omega, ows⟩, fun H17 s17 => ⟨_, rfl, ?_⟩⟩
      have hws17 := hws16.same s17
      obtain ⟨a, rfl, ha⟩ := id hws17
      have hy17 := Same.sqt (Same.trans s16 s17) hy15
      refine ⟨_, rfl, _, rfl, _, rfl, a, _, rfl, .inr ha, _, rfl, y, _, rfl, hy17, fun H18 q18 s18 hq18 => ⟨q18, _, rfl, hq18, fun H19 q19 s19 hq19 => ?_⟩⟩
      rw [List.length_map, cut_to _ (by omega), Int.toNat_natCast, ← List.map_reverse] at hq19
      refine ⟨_, _, (hws17.same (Same.trans s18 s19)).dp, IsW.dp ⟨q19, rfl, hq19⟩, shaped_tup _, shaped_tup _, _, rfl, rfl, _, rfl, ifF ?_ ⟨Same.trans s16 (Same.trans s17 (Same.trans s18 s19)), _, rfl⟩⟩
      rw [eqv_tup]
      have e1 : far h ws.length = (far h 90).take ws.length := (far_take oh.ok lws).symm
      rw [e1]
      have e2 : decide (((far h 90).take ws.length).reverse = ws) = decide (ws = ((far h 90).take ws.length).reverse) := by
        by_cases c : ws = ((far h 90).take ws.length).reverse
        · rw [decide_eq_true c, decide_eq_true c.symm]
        · rw [decide_eq_false c, decide_eq_false fun z => c z.symm]
      rw [e2]
      exact neFV rfl
    rintro σ H16 ⟨s16, u9, rfl⟩
    have hh16 := hh15.same s16
    cases h with
    | w a =>
      obtain ⟨t, rfl, ht⟩ := id hh16
      refine ⟨_, rfl, _, _, _, _, true, rfl, .ty _, tyx_sqt ht, kit_ty (by decide +kernel), _, rfl, ?_⟩
      exact q H16 (k015.more s16)
    | e r t =>
      obtain ⟨t0, rv, tv, rfl, ht0, _, _⟩ := id hh16
      refine ⟨_, rfl, _, _, _, _, false, rfl, .ty _, .base (.lst ht0), kit_ty (by decide +kernel), _, rfl, ?_⟩
      refine ⟨_, rfl, _, rfl, _, rfl, p5, _, _, .ref z, rfl, rfl, SqL.of (s16 _ _ hp515), at_last _ _, _, rfl, k, .ref z, x, .w _, .e r t, rfl, k1, k4, hz15.same s16, hx15.same s16, ⟨by have := (dw N).1; omega, (dw N).2⟩, ohA, fun H17 s17 => ⟨_, rfl, rfl, ?_⟩⟩
      have q1 := q H17 (k015.more (Same.trans s16 s17))
      rw [← decide_eq_true (congrArg V.int (ord_end oh.1 (t := t) (m := N) (by omega)))] at q1
      exact q1
end
end K05
/-! K05o -/
set_option Elab.async false
set_option linter.all false
set_option maxRecDepth 100000
set_option maxHeartbeats 4000000
namespace K05
open PySem PySem.Spec PyProof.Rows L2 PpSet RL EH
theorem tyx_same {K : PySem.W.Frag} {H H' : Hp} {v : V} {t : Value} (s : Same H H') (h : TyX K H v t) : TyX K H' v t := by
  cases h with
  | base h =>
    cases h with
    | non => exact .base .non
    | bl x => exact .base (.bl x)
    | int i => exact .base (.int i)
    | str x => exact .base (.str x)
    | flt x => exact .base (.flt x)
    | lst e => exact .base (.lst (s _ _ e))
    | frz e => exact .base (.frz (s _ _ e))
    | tup e => exact .base (.tup (s _ _ e))
    | dK e => exact .base (.dK (s _ _ e))
    | dT e => exact .base (.dT (s _ _ e))
    | ins e cl ha hn htk hm => exact .base (.ins (s _ _ e) cl ha hn htk hm)
  | byt b => exact .byt b
  | set e => exact .set (s _ _ e)
  | kList e c => exact .kList e c
  | kTuple e c => exact .kTuple e c
  | kDict e c => exact .kDict e c
  | fTuple e => exact .fTuple (s _ _ e)
  | fDict e => exact .fDict (s _ _ e)
/-- what is_height says of it, now and later -/
def AskB (K : PySem.W.Frag) (C : Addr) (k : Int) (H : Hp) (v : V) (b : Bool) : Prop := ∀ H', Same H H' → ∀ Q : VK, (∀ H'', Same H' H'' → Q (.bl b) H'') → HAsk K C k v H' Q
theorem AskB.same {K : PySem.W.Frag} {C : Addr} {k : Int} {H H' : Hp} {v : V} {b : Bool} (h : AskB K C k H v b) (s : Same H H') : AskB K C k H' v b := fun H1 s1 Q q => h H1 (Same.trans s s1) Q q
theorem rep_one (n : Nat) (i : Int) : (List.replicate n [V.int i]).flatten = (List.replicate n i).map V.int := by
  induction n with
  | zero => rfl
  | succ n ih => rw [List.replicate_succ, List.flatten_cons, ih, List.replicate_succ, List.map_cons] <;> rfl
def Plain (v : V) : Prop := (∃ i, v = .int i) ∨ (∃ b, v = .bl b) ∨ v = .non
theorem Plain.num {K : PySem.W.Frag} {H : Hp} {v : V} (h : Plain v) : NumV K H v := by
  rcases h with h | h | rfl
  · exact .inl h
  · exact .inr (.inl h)
  · exact .inr (.inr ⟨fun i z => (nomatch z), fun i z => (nomatch z), _, .base .non, kit_ty (by decide +kernel)⟩)
section
variable {P : Program} {w : World} {K : PySem.W.Frag} {mg : Str → Option Value} {base : Heap}
theorem ask_ht (T : Txt K mg) {k : Int} {H : Hp} {v : V} {h : Ht} (hh : HtAt K T.C_Endless k H v h) (oh : OkH k 200 h) : AskB K T.C_Endless k H v true := fun H' s Q q => htAt_isH T (hh.same s) oh q
theorem ask_end {C : Addr} {k k' : Int} {H : Hp} {v : V} {r t : List Int} (hh : EndAt K C H v k' r t) (n : k' ≠ k) : AskB K C k H v false := fun H' s Q q => .inl ⟨k', r, t, hh.same s, fun H2 s2 => by rw [decide_eq_false n]; exact q H2 s2⟩
theorem ask_no {C : Addr} {k : Int} {H : Hp} {v : V} {t : Value} (ht : TyX K H v t) (h1 : PySem.W.kitOne K t (.ref C) = some false) (h2 : PySem.W.kitOne K t (.type "tuple") = some false) : AskB K C k H v false := fun H' s Q q =>
  .inr ⟨⟨t, tyx_same s ht, h1⟩, .inl ⟨⟨t, tyx_same s ht, h2⟩, q H' (Same.refl _)⟩⟩
theorem ask_tup (T : Txt K mg) {k : Int} {H : Hp} {a : Addr} {xs : List V} (hx : SqT K H a xs) (hz : xs.length ≤ 1000) (hp : ∀ x ∈ xs, Plain x) {b : Bool} (e : spelled xs k 200 = b) : AskB K T.C_Endless k H (.ref a) b := fun H' s Q q =>
  .inr ⟨⟨_, tyx_sqt (Same.sqt s hx), T.ktuple_Endless⟩, .inr ⟨a, xs, rfl, Same.sqt s hx, by rw [sizeLine_eq]; omega, fun x hm H2 _ => (hp x hm).num, fun H2 s2 => by rw [e]; exact q H2 s2⟩⟩
theorem strs_dp {K : PySem.W.Frag} {H : Hp} : ∀ ss : List Str, DpAll K H (ss.map V.str) (ss.map PyData.str)
  | [] => .nil
  | s :: ss => .cons (.str s) (strs_dp ss)
def answers : List Bool := [true, false, false, false, false, false, false, false, true, false, false, false, false, true]
def sp_judged (K : PySem.W.Frag) (C : Addr) : Sp := fun vs H Q _ => ∃ (k : Int) (v : V) (h : Ht), vs = [.int k, v] ∧ 1 ≤ k ∧ k ≤ 4 ∧ HtAt K C k H v h ∧ OkH k 200 h ∧ ∀ H', Same H H' → Q (.bl true) H'
def sp_right : Sp := fun vs H Q _ => ∃ b : Addr, vs = [.ref b] ∧ Bag b H ∧ ∀ H', Kp b H H' → Q (.bl true) H'
def tf (b : Bool) : Str := if b then "True" else "False"
def tfV : V → V
  | .bl b => .str (tf b)
  | v => v
theorem each_eq {α β : Type} {f : α → β} : ∀ {zs : List α} {ys : List β}, Each (fun z y => y = f z) zs ys → ys = zs.map f
  | _, _, .nil => rfl
  | _, _, .cons h t => by rw [h, each_eq t, List.map_cons]
theorem ok__law_judged_right (T : Txt K mg) : FnOk P w K mg base CX0 6 T.a__law_judged_right T.d__law_judged_right ["letters", "here"] (sp_judged K T.C_Endless) := by
  refine T.F__law_judged_right.ok sc__law_judged_right (fun vs H Q E h => ?_) (fun cdv A outer s H vs Q E hr h => ?_)
  · obtain ⟨k, v, h, rfl, _⟩ := h
    rfl
  · obtain ⟨k, v, h, rfl, k1, k4, hh, oh, q⟩ := h
    refine ⟨_, (pss_cons (ps_set (i := 2) sc__law_judged_right.nd rfl (Or.inl rfl) (pe_make (E := E0) T.mk_Endless (ok_Endless___init__ T) (hr.mono (by decide)) rfl T.mC_Endless T.b_Endless___init__ T.v_Endless pass0 (pa_cons (pe_op op_add (pe_op op_mod (pv 0) pe_int) pe_int) (pa_cons (pe_tupK (K := K) rfl (pa_cons pe_int pa_nil)) pa_nil)))) (pss_cons (ps_set (i := 3) sc__law_judged_right.nd rfl (Or.inl rfl) (pe_lstS (pa_cons (pv 1) (pa_cons pe_non (pa_cons pe_int (pa_cons pe_str (pa_cons (pe_lstS (pa_cons pe_int pa_nil)) (pa_cons (pe_tupK (K := K) rfl (pa_cons (pv 0) pa_nil)) (pa_cons (pe_tupK (K := K) rfl (pa_cons (pe_un un_neg pe_int) pa_nil)) (pa_cons (pe_tupK (K := K) rfl (pa_cons pe_bl pa_nil)) (pa_cons (pe_op op_repS (pe_tupK (K := K) rfl (pa_cons pe_int pa_nil)) pe_int) (pa_cons (pe_op op_repS (pe_tupK (K := K) rfl (pa_cons pe_int pa_nil)) pe_int) (pa_cons (pv 2) (pa_cons (pe_tupK (K := K) rfl (pa_cons pe_int (pa_cons pe_non pa_nil))) (pa_cons pe_dnewK (pa_cons (pe_tupK (K := K) rfl pa_nil) pa_nil)))))))))))))))) (pss_cons (ps_set (i := 4) sc__law_judged_right.nd rfl (Or.inl rfl) (pe_lstS (pa_cons pe_bl (pa_cons pe_bl (pa_cons pe_bl (pa_cons pe_bl (pa_cons pe_bl (pa_cons pe_bl (pa_cons pe_bl (pa_cons pe_bl (pa_cons pe_bl (pa_cons pe_bl (pa_cons pe_bl (pa_cons pe_bl (pa_cons pe_bl (pa_cons pe_bl pa_nil)))))))))))))))) (pss_one (ps_ret (pe_cmpR (op_eqD hr.units) (pe_lc (own := [("value", 5)]) rfl sc__law_judged_right.nd (pi_list (pv 3)) (blkOk_by (own := [("value", 5)]) (N := ["letters", "here", "far", "some", "due", "value", "one"]) (sc := defScope s__law_judged_right) (by decide +kernel)) (fun _ _ _ _ _ => (pg_name (i := 5) sc__law_judged_right.nd rfl (Or.inl rfl))) (fun _ _ _ _ _ => pts_nil) (fun _ _ _ _ _ => (pe_callB call_repr_bl rfl T.n_repr (by decide +kernel) (pa_cons (pe_call (ok_is_height T) (hr.mono (by decide)) rfl T.m_is_height T.F_is_height.kp T.b_is_height .nil pass0 (pa_cons (pv 0) (pa_cons (pv 5) pa_nil))) pa_nil)))) (pe_lc (own := [("one", 6)]) rfl sc__law_judged_right.nd (pi_list (pv 4)) (blkOk_by (own := [("one", 6)]) (N := ["letters", "here", "far", "some", "due", "value", "one"]) (sc := defScope s__law_judged_right) (by decide +kernel)) (fun _ _ _ _ _ => (pg_name (i := 6) sc__law_judged_right.nd rfl (Or.inl rfl))) (fun _ _ _ _ _ => pts_nil) (fun _ _ _ _ _ => (pe_callB call_repr_bl rfl T.n_repr (by decide +kernel) (pa_cons (pv 6) pa_nil)))) (nomark _))))))), ?_⟩
    refine ⟨_, rfl, _, _, rfl, rfl, by show (0 : Int) < 4; decide, _, _, rfl, rfl, by show 1 ≤ sizeLine; decide, fun H1 o1 s1 ho1 => ?_⟩
    have hk0 : ∃ l, k % 4 + 1 = l ∧ 1 ≤ l ∧ l ≤ 4 ∧ l ≠ k := ⟨_, rfl, by omega, by omega, by omega⟩
    obtain ⟨l, hl, l1, l4, lk⟩ := hk0
    refine fun f df nf ndf nef => ?_
    have sM := made_stay (C := T.C_Endless) nf ndf
    refine ⟨f, df, l, _, _, [0], [], by rw [← hl]; rfl, upd_same, l1, l4, ⟨o1, rfl, Same.sqt sM ho1⟩, ⟨_, rfl, T.et_Endless___init___tail _⟩, ⟨by decide, fun y hy => by rw [List.mem_singleton.mp hy]; omega⟩, ⟨by decide, fun y hy => by cases hy⟩, by decide, fun H2 rvf tvf bf hf hrf htf => ⟨rfl, ?_⟩⟩
    have s12 : Same H1 H2 := made_same nf ndf bf
    have ef : EndAt K T.C_Endless H2 (.ref f) l _ _ := ⟨f, df, _, _, rfl, hf, hrf, htf⟩
    -- what is asked about
    refine ⟨_, rfl, by show 1 ≤ sizeLine; decide, fun H3 a3 s3 _ h3 => ?_⟩
    refine ⟨_, rfl, by show 1 ≤ sizeLine; decide, fun H4 a4 s4 h4 => ?_⟩
    refine ⟨_, rfl, by show 1 ≤ sizeLine; decide, fun H5 a5 s5 h5 => ?_⟩
    refine ⟨by show 1 ≤ sizeLine; decide, fun H6 a6 s6 h6 => ?_⟩
    refine ⟨by show 1 ≤ sizeLine; decide, fun H7 a7 s7 h7 => ⟨a7, 200, _, rfl, rfl, h7, by decide, by decide, by show 1 ≤ 1000; decide, fun H8 a8 s8 h8 => ?_⟩⟩
    refine ⟨by show 1 ≤ sizeLine; decide, fun H9 a9 s9 h9 => ⟨a9, 201, _, rfl, rfl, h9, by decide, by decide, by show 1 ≤ 1000; decide, fun H10 a10 s10 h10 => ?_⟩⟩
    refine ⟨_, rfl, by show 2 ≤ sizeLine; decide, fun H11 a11 s11 h11 => ?_⟩
    refine fun D hD => ?_
    have sD := same_upd hD (.dK [])
    refine ⟨by show 0 ≤ sizeLine; decide, fun H12 a12 s12' h12 => ?_⟩
    refine ⟨by show 14 ≤ sizeLine; decide, fun H13 z s13 _ hz => ?_⟩
    have e12 := s13
    have eD := Same.trans s12' e12
    have e11 := Same.trans sD eD
    have e10 := Same.trans s11 e11
    have e9 := Same.trans s10 e10
    have e8 := Same.trans s9 e9
    have e7 := Same.trans s8 e8
    have e6 := Same.trans s7 e7
    have e5 := Same.trans s6 e6
    have e4 := Same.trans s5 e5
    have e3 := Same.trans s4 e4
    have e2 := Same.trans s3 e3
    have e0 := Same.trans s1 (Same.trans s12 e2)
    have one : ∀ {x y : V}, Plain y → ∀ x ∈ [y], Plain x := fun h x hx => by rw [List.mem_singleton.mp hx]; exact h
    have zero : ∀ (n : Nat), ∀ x ∈ (List.replicate n [V.int 0]).flatten, Plain x := fun n x h => by
      obtain ⟨l, h1, h2⟩ := List.mem_flatten.mp h
      rw [(List.mem_replicate.mp h1).2] at h2
      rw [List.mem_singleton.mp h2]
      exact .inl ⟨0, rfl⟩
    have sp200 : spelled (List.replicate 200 [V.int 0]).flatten k 200 = true := by
      rw [rep_one]
      exact spelled_ok ⟨by simp, fun n hn => by rw [(List.mem_replicate.mp hn).2]; omega⟩ (Int.le_refl _)
    have sp201 : spelled (List.replicate 201 [V.int 0]).flatten k 200 = false := by
      unfold spelled
      rw [decide_eq_false (by rw [rep_one, List.length_map, List.length_replicate]; decide), Bool.false_and]
    have sp1 : ∀ v : V, numB v 0 (k - 1) = false → spelled [v] k 200 = false := fun v hv => by
      unfold spelled
      simp [hv]
    have asked : ∀ u ∈ ([(v, true), (.non, false), (.int 3, false), (.str "1", false), (.ref a3, false), (.ref a4, false), (.ref a5, false), (.ref a6, false), (.ref a8, true), (.ref a10, false), (.ref f, false), (.ref a11, false), (.ref D, false), (.ref a12, true)] : List (V × Bool)), AskB K T.C_Endless k H13 u.1 u.2 := by
      refine List.forall_mem_cons.mpr ⟨ask_ht T (hh.same e0) oh, List.forall_mem_cons.mpr ⟨ask_no (.base .non) T.kNoneType_Endless (kit_ty (by decide +kernel)), List.forall_mem_cons.mpr ⟨ask_no (.base (.int 3)) T.kint_Endless (kit_ty (by decide +kernel)), List.forall_mem_cons.mpr ⟨ask_no (.base (.str _)) T.kstr_Endless (kit_ty (by decide +kernel)),
        List.forall_mem_cons.mpr ⟨ask_no (.base (.lst (e3 _ _ h3))) T.klist_Endless (kit_ty (by decide +kernel)), List.forall_mem_cons.mpr ⟨ask_tup T (Same.sqt e4 h4) (by show 1 ≤ 1000; decide) (one (x := .non) (.inl ⟨_, rfl⟩)) (sp1 _ (by simp [numB]; omega)), List.forall_mem_cons.mpr ⟨ask_tup T (Same.sqt e5 h5) (by show 1 ≤ 1000; decide) (one (x := .non) (.inl ⟨_, rfl⟩)) (sp1 _ (by simp [numB])),
        List.forall_mem_cons.mpr ⟨ask_tup T (Same.sqt e6 h6) (by show 1 ≤ 1000; decide) (one (x := .non) (.inr (.inl ⟨_, rfl⟩))) (sp1 _ rfl), List.forall_mem_cons.mpr ⟨ask_tup T (Same.sqt e8 h8) (by rw [rep_one, List.length_map, List.length_replicate]; decide) (zero _) sp200, List.forall_mem_cons.mpr ⟨ask_tup T (Same.sqt e10 h10) (by rw [rep_one, List.length_map, List.length_replicate]; decide) (zero _) sp201,
        List.forall_mem_cons.mpr ⟨ask_end (ef.same e2) lk, List.forall_mem_cons.mpr ⟨ask_tup T (Same.sqt e11 h11) (by show 2 ≤ 1000; decide) ?_ ?_, List.forall_mem_cons.mpr ⟨ask_no (.base (.dK (eD _ _ upd_same))) T.kdict_Endless (kit_ty (by decide +kernel)), List.forall_mem_cons.mpr ⟨ask_tup T (Same.sqt e12 h12) (by show 0 ≤ 1000; decide) (fun x hx => by cases hx) ?_, fun x hx => by cases hx⟩⟩⟩⟩⟩⟩⟩⟩⟩⟩⟩⟩⟩⟩
      · intro x hx
        simp only [List.mem_cons, List.not_mem_nil, or_false] at hx
        rcases hx with rfl | rfl
        · exact .inl ⟨_, rfl⟩
        · exact .inr (.inr rfl)
      · unfold spelled
        simp [numB]
      · unfold spelled
        simp
    obtain ⟨zs, m1, m2, asked⟩ : ∃ zs : List (V × Bool), zs.map Prod.fst = [v, .non, .int 3, .str "1", .ref a3, .ref a4, .ref a5, .ref a6, .ref a8, .ref a10, .ref f, .ref a11, .ref D, .ref a12] ∧ zs.map Prod.snd = answers ∧ ∀ u ∈ zs, AskB K T.C_Endless k H13 u.1 u.2 := ⟨_, rfl, rfl, asked⟩
    have lz : zs.length = 14 := by
      have := congrArg List.length m1
      rw [List.length_map] at this
      exact this
    have hz : H13 z = some (.lst (zs.map Prod.fst)) := by rw [m1]; exact hz
    refine ⟨by show 14 ≤ sizeLine; decide, fun H14 d s14 _ hd => ?_⟩
    have hz14 := s14 _ _ hz
    refine ⟨_, rfl, z, rfl, ⟨_, SqL.of hz14⟩, ?_⟩
    refine lc_lstA (i := 5) (zs := zs) Prod.fst (fun _ u y => y = V.str (tf u.2)) (fun _ _ _ _ _ r => r) (SqL.of hz14) (by rw [lz]; decide) (fun u hu H Q s q => ?_) fun H15 p ys s15 _ hp e => ?_
    · refine ⟨_, rfl, _, rfl, k, u.1, rfl, k1, k4, asked u hu H (Same.trans s14 s) _ fun H2 s2 => ⟨u.2, rfl, q H2 _ s2 rfl⟩⟩
    have hd : H14 d = some (.lst (answers.map V.bl)) := hd
    have hd15 := s15 _ _ hd
    refine ⟨_, rfl, d, rfl, ⟨_, SqL.of hd15⟩, ?_⟩
    refine lc_lstF (i := 6) tfV (SqL.of hd15) (by decide) (fun x hx H Q s q => ?_) fun H16 p2 s16 _ hp2 => ?_
    · obtain ⟨b, _, rfl⟩ := List.mem_map.mp hx
      exact ⟨_, rfl, b, rfl, q H (Same.refl H)⟩
    have ey : ys = (answers.map tf).map V.str := by
      rw [each_eq (f := fun u : V × Bool => V.str (tf u.2)) e, ← m2, List.map_map, List.map_map]
      rfl
    rw [ey] at hp
    have hp2 : H16 p2 = some (.lst ((answers.map tf).map V.str)) := hp2
    refine ⟨_, _, .lst (SqL.of (s16 _ _ hp)) (strs_dp _), .lst (SqL.of hp2) (strs_dp _), by decide +kernel, by decide +kernel, ?_⟩
    have qq := q H16 (Same.trans e0 (Same.trans s14 (Same.trans s15 s16)))
    have ev : PyData.eqv (.list ((answers.map tf).map PyData.str)) (.list ((answers.map tf).map PyData.str)) = true := by decide +kernel
    rw [← ev] at qq
    exact qq
theorem ok__law_right (T : Txt K mg) : FnOk P w K mg base CX0 10 T.a__law_right T.d__law_right ["bag"] sp_right := by
  refine T.F__law_right.ok sc__law_right (fun vs H Q E h => ?_) (fun cdv A outer s H vs Q E hr h => ?_)
  · obtain ⟨b, rfl, _⟩ := h
    rfl
  · obtain ⟨b, rfl, hb, q⟩ := h
    refine ⟨_, (pss_cons (ps_set (i := 1) sc__law_right.nd rfl (Or.inl rfl) (pe_op op_add pe_int (pe_call (ok__law_grab T) (hr.mono (by decide)) rfl T.m__law_grab T.F__law_grab.kp T.b__law_grab .nil pass0 (pa_cons (pv 0) (pa_cons pe_int pa_nil))))) (pss_cons (ps_set (i := 2) sc__law_right.nd rfl (Or.inl rfl) (pe_call (ok__law_drawn T) (hr.mono (by decide)) rfl T.m__law_drawn T.F__law_drawn.kp T.b__law_drawn .nil pass0 (pa_cons (pv 0) (pa_cons (pv 1) pa_nil)))) (pss_cons (ps_for PassesOwn.never rfl (pi_list (pe_op op_catL (pe_call (ok__law_near T) (hr.mono (by decide)) rfl T.m__law_near T.F__law_near.kp T.b__law_near .nil pass0 (pa_cons (pv 0) (pa_cons (pv 1) (pa_cons (pv 2) pa_nil)))) (pe_lstS (pa_cons (pe_call (ok__law_drawn T) (hr.mono (by decide)) rfl T.m__law_drawn T.F__law_drawn.kp T.b__law_drawn .nil pass0 (pa_cons (pv 0) (pa_cons (pv 1) pa_nil))) pa_nil)))) (pg_name (i := 3) sc__law_right.nd rfl (Or.inl rfl)) (pss_one (ps_if (PW.pt (pw_or (pt_not (pt_val (pe_call (ok__law_two_right T) (hr.mono (by decide)) rfl T.m__law_two_right T.F__law_two_right.kp T.b__law_two_right .nil pass0 (pa_cons (pv 0) (pa_cons (pv 1) (pa_cons (pv 2) (pa_cons (pv 3) pa_nil))))))) (pw_or1 (pt_not (pt_val (pe_call (ok__law_ends_right T) (hr.mono (by decide)) rfl T.m__law_ends_right T.F__law_ends_right.kp T.b__law_ends_right .nil pass0 (pa_cons (pv 0) (pa_cons (pv 1) (pa_cons (pv 3) pa_nil))))))))) (pss_one (ps_ret pe_bl)) pss_nil))) (pss_one (ps_ret (pe_call (ok__law_judged_right T) (hr.mono (by decide)) rfl T.m__law_judged_right T.F__law_judged_right.kp T.b__law_judged_right .nil pass0 (pa_cons (pv 1) (pa_cons (pe_call (ok__law_made T) (hr.mono (by decide)) rfl T.m__law_made T.F__law_made.kp T.b__law_made .nil pass0 (pa_cons (pv 1) (pa_cons (pv 2) pa_nil))) pa_nil)))))))), ?_⟩
    refine ⟨_, rfl, b, 4, rfl, hb, by decide, by decide, fun H1 g h1 g0 g1 => ⟨_, _, rfl, rfl, ?_⟩⟩
    obtain ⟨k, ek, k1, k4⟩ : ∃ k, (1 : Int) + g = k ∧ 1 ≤ k ∧ k ≤ 4 := ⟨_, rfl, by omega, by omega⟩
    show gName 1 (V.int ((1 : Int) + g)) _ _ _
    rw [ek]
    refine ⟨_, rfl, _, rfl, b, k, rfl, h1.1, k1, k4, fun H2 v h h2 hl oh => ?_⟩
    have k02 := h1.trans h2
    refine ⟨_, rfl, _, rfl, _, rfl, b, k, v, h, rfl, h2.1, k1, k4, hl, oh, fun H3 p us h3 np hp lu hus => ?_⟩
    refine ⟨_, rfl, _, rfl, b, k, rfl, h3.1, k1, k4, fun H4 v4 g4 h4 hl4 oh4 => ⟨by show 1 ≤ sizeLine; decide, fun H5 l s5 hl50 hl5 => ?_⟩⟩
    have k03 := k02.trans h3
    have k45 := h4.more s5
    have k05 := k03.trans k45
    have hp5 := k45.2 _ _ np hp
    refine ⟨p, l, _, _, rfl, rfl, hp5, hl5, by rw [sizeLine_eq]; simp; omega, fun H6 z s6 hz0 hz => ?_⟩
    have k06 := k05.more s6
    have nz := ne_bag k05.1 hz0
    have items : ∀ u ∈ us ++ [v4], ∃ g, LwAt K H6 u g ∧ OkH k 13 g := fun u hu => by
      rcases List.mem_append.mp hu with hu | hu
      · obtain ⟨g, x1, x2⟩ := hus u hu
        exact ⟨g, (x1.kp h3.1 k45).same s6, x2⟩
      · rw [List.mem_singleton.mp hu]
        exact ⟨g4, (hl4.same s5).same s6, oh4.more (by decide)⟩
    have hl6 := hl.kp h2.1 ((h3.trans k45).more s6)
    have hz : H6 z = some (.lst (us ++ [v4])) := hz
    generalize us ++ [v4] = L at hz items
    refine ⟨z, rfl, ⟨_, SqL.of hz⟩, for_list (xs := L) (fun i σ H => Kp b H6 H ∧ ∃ u3, σ = [some (.ref b), some (.int k), some v, u3]) ⟨Kp.refl k06.1, _, rfl⟩ (fun i σ H _ x => SqL.of (x.1.2 _ _ nz hz)) ?_ ?_⟩
    · rintro i u σ H7 hi ⟨k7, u3, rfl⟩
      obtain ⟨g, x1, x2⟩ := items u (List.mem_of_getElem? hi)
      have x17 := x1.kp k06.1 k7
      refine ⟨_, rfl, _, rfl, _, rfl, _, rfl, b, k, v, u, h, g, rfl, k7.1, k1, k4, hl6.kp k06.1 k7, x17, oh.more (by decide), x2.more (by decide), fun H8 k8 => ⟨_, rfl, iteF ?_⟩⟩
      refine ⟨_, rfl, _, rfl, _, rfl, b, k, u, g, rfl, k8.1, k1, k4, x17.kp k7.1 k8, x2.more (by decide), fun H9 k9 => ⟨_, rfl, iteF ⟨(k7.trans k8).trans k9, _, rfl⟩⟩⟩
    rintro σ H7 ⟨k7, u3, rfl⟩
    refine ⟨_, rfl, _, rfl, _, rfl, k, v, h, rfl, hl6.kp k06.1 k7, k1, k4, oh.more (by decide), fun H8 x s8 hx => ⟨k, x, h, rfl, k1, k4, hx, oh.more (by decide), fun H9 s9 => q H9 ((k06.trans k7).more (Same.trans s8 s9))⟩⟩
end
end K05
/-! K05p -/
set_option Elab.async false
set_option linter.all false
set_option maxRecDepth 100000
set_option maxHeartbeats 4000000
namespace K05
open PySem PySem.Spec PyProof.Rows L2 PpSet RL EH
def sp_law (K : PySem.W.Frag) : Sp := fun vs H Q _ => ∃ (a : Addr) (xs : List Int), vs = [.ref a] ∧ (∀ H', Same H H' → SqL K H' a (xs.map V.int)) ∧ xs.length ≤ 100 ∧ ∀ H', Q (.bl true) H'
theorem d1 : ord (.w [0]) (.e [1, 0] []) = -1 := by decide +kernel
theorem d2 : ord (.e [1, 0] []) (.w [1]) = -1 := by decide +kernel
theorem d3 : ord (.e [1] []) (.w [0, 1, 1]) = 1 := by decide +kernel
theorem d4 : ord (.e [0] [1]) (.e [0] [1]) = 0 := by decide +kernel
theorem d5 : ord (.w []) (.w []) = 0 := by decide +kernel
theorem d6 : ord (.e [0] [1]) (.w [0, 0, 1]) = 1 := by decide +kernel
theorem d7 : endsOf (.e [0] [1]) 2 = [[], [1], [0, 1]] := by decide +kernel
theorem kn0 : kp (.e [1] []) ≠ kp (.e [0] [1]) := by decide +kernel
theorem kn1 : kp (.e [1, 0] []) ≠ kp (.e [0, 1] []) := by decide +kernel
theorem ag1 : agr (.e [1] []) (.e [0] [1]) = .int 1 := by
  show (if kp (.e [1] []) = kp (.e [0] [1]) then V.non else V.int (com (.e [1] []) (.e [0] [1]) : Nat)) = _
  rw [if_neg kn0, show com (.e [1] []) (.e [0] [1]) = 1 by decide +kernel]; rfl
theorem ag2 : agr (.e [1, 0] []) (.e [0, 1] []) = .int 0 := by
  show (if kp (.e [1, 0] []) = kp (.e [0, 1] []) then V.non else V.int (com (.e [1, 0] []) (.e [0, 1] []) : Nat)) = _
  rw [if_neg kn1, show com (.e [1, 0] []) (.e [0, 1] []) = 0 by decide +kernel]; rfl
theorem ag3 : agr (.e [1] []) (.e [1] []) = .non := by
  show (if kp (.e [1] []) = kp (.e [1] []) then V.non else V.int (com (.e [1] []) (.e [1] []) : Nat)) = _
  exact if_pos rfl
theorem ag4 : agr (.w [1, 0]) (.w [0, 0]) = .int 1 := by
  show V.int (com (.w [1, 0]) (.w [0, 0]) : Nat) = _
  rw [show com (.w [1, 0]) (.w [0, 0]) = 1 by decide +kernel]; rfl
theorem ag5 : agr (.w [1, 0]) (.w [1, 0]) = .int 2 := by
  show V.int (com (.w [1, 0]) (.w [1, 0]) : Nat) = _
  rw [show com (.w [1, 0]) (.w [1, 0]) = 2 by decide +kernel]; rfl
section
variable {P : Program} {w : World} {K : PySem.W.Frag} {mg : Str → Option Value} {base : Heap}
theorem ok_law (T : Txt K mg) : FnOk P w K mg base CX0 11 T.a_law T.d_law ["script"] (sp_law K) := by
  refine T.F_law.ok sc_law (fun vs H Q E h => ?_) (fun cdv A outer s H vs Q E hr h => ?_)
  · obtain ⟨a, xs, rfl, _⟩ := h
    rfl
  · obtain ⟨a, xs, rfl, hx, hz, q⟩ := h
    refine ⟨_, (pss_cons (ps_for PassesOwn.never rfl (pi_range1 rfl T.n_range (pa_cons (pe_callB (call_max2 rfl) rfl T.n_max (by decide +kernel) (pa_cons pe_int (pa_cons (pe_callB (call_min2 rfl) rfl T.n_min (by decide +kernel) (pa_cons pe_int (pa_cons (pe_callB call_len_seq rfl T.n_len (by decide +kernel) (pa_cons (pv 0) pa_nil)) pa_nil))) pa_nil))) pa_nil)) (pg_name (i := 1) sc_law.nd rfl (Or.inl rfl)) (pss_one (ps_if (pt_not (pt_val (pe_call (ok__law_right T) (hr.mono (by decide)) rfl T.m__law_right T.F__law_right.kp T.b__law_right .nil pass0 (pa_cons (pe_call (ok__law_bag T) (hr.mono (by decide)) rfl T.m__law_bag T.F__law_bag.kp T.b__law_bag .nil pass0 (pa_cons (pv 0) (pa_cons (pv 1) pa_nil))) pa_nil)))) (pss_one (ps_ret pe_bl)) pss_nil))) (pss_cons (ps_par3 (i := 2) (j := 3) (l := 4) rfl sc_law.nd rfl rfl rfl (by decide) (by decide) (by decide) rfl rfl rfl (pa_cons (pe_make (E := E0) T.mk_Endless (ok_Endless___init__ T) (hr.mono (by decide)) rfl T.mC_Endless T.b_Endless___init__ T.v_Endless pass0 (pa_cons pe_int (pa_cons (pe_tupK (K := K) rfl (pa_cons pe_int (pa_cons pe_int pa_nil))) pa_nil))) (pa_cons (pe_make (E := E0) T.mk_Endless (ok_Endless___init__ T) (hr.mono (by decide)) rfl T.mC_Endless T.b_Endless___init__ T.v_Endless pass0 (pa_cons pe_int (pa_cons (pe_tupK (K := K) rfl (pa_cons pe_int pa_nil)) pa_nil))) (pa_cons (pe_makeK (E := E0) (n := 2) T.mk_Endless (ok_Endless___init__ T) (hr.mono (by decide)) rfl T.mC_Endless T.kb_Endless pass0 (pa_cons pe_int (pa_cons (pe_tupK (K := K) rfl (pa_cons pe_int pa_nil)) pa_nil)) (pk_cons (pe_tupK (K := K) rfl (pa_cons pe_int pa_nil)) pk_nil)) pa_nil))) rfl) (pss_cons (ps_set (i := 5) sc_law.nd rfl (Or.inl rfl) (pe_lstS (pa_cons (pe_call (ok_compare T) (hr.mono (by decide)) rfl T.m_compare T.F_compare.kp T.b_compare .nil pass0 (pa_cons pe_int (pa_cons (pe_tupK (K := K) rfl (pa_cons pe_int pa_nil)) (pa_cons (pv 2) pa_nil)))) (pa_cons (pe_call (ok_compare T) (hr.mono (by decide)) rfl T.m_compare T.F_compare.kp T.b_compare .nil pass0 (pa_cons pe_int (pa_cons (pv 2) (pa_cons (pe_tupK (K := K) rfl (pa_cons pe_int pa_nil)) pa_nil)))) (pa_cons (pe_call (ok_compare T) (hr.mono (by decide)) rfl T.m_compare T.F_compare.kp T.b_compare .nil pass0 (pa_cons pe_int (pa_cons (pv 3) (pa_cons (pe_tupK (K := K) rfl (pa_cons pe_int (pa_cons pe_int (pa_cons pe_int pa_nil)))) pa_nil)))) (pa_cons (pe_call (ok_compare T) (hr.mono (by decide)) rfl T.m_compare T.F_compare.kp T.b_compare .nil pass0 (pa_cons pe_int (pa_cons (pv 4) (pa_cons (pv 4) pa_nil)))) (pa_cons (pe_call (ok_compare T) (hr.mono (by decide)) rfl T.m_compare T.F_compare.kp T.b_compare .nil pass0 (pa_cons pe_int (pa_cons (pe_tupK (K := K) rfl pa_nil) (pa_cons (pe_tupK (K := K) rfl pa_nil) pa_nil)))) (pa_cons (pe_call (ok_compare T) (hr.mono (by decide)) rfl T.m_compare T.F_compare.kp T.b_compare .nil pass0 (pa_cons pe_int (pa_cons (pv 4) (pa_cons (pe_tupK (K := K) rfl (pa_cons pe_int (pa_cons pe_int (pa_cons pe_int pa_nil)))) pa_nil)))) pa_nil)))))))) (pss_cons (ps_if (PW.pt (pw_or (pt_cmpR (op_neD hr.units) (pv 5) (pe_lstS (pa_cons (pe_un un_neg pe_int) (pa_cons (pe_un un_neg pe_int) (pa_cons pe_int (pa_cons pe_int (pa_cons pe_int (pa_cons pe_int pa_nil))))))) (nomark _)) (pw_or1 (pt_cmpR (op_neD hr.units) (pe_listG (E := E0) (pgen_call (E := E0) (ok_each_end T) (hr.mono (by decide)) rfl T.m_each_end T.F_each_end.kp T.b_each_end .nil (pa_cons pe_int (pa_cons (pv 4) (pa_cons pe_int pa_nil)))) passE0 noStopE0 (hr.mono (by decide)) rfl T.n_list (by decide +kernel)) (pe_lstS (pa_cons (pe_tupK (K := K) rfl pa_nil) (pa_cons (pe_tupK (K := K) rfl (pa_cons pe_int pa_nil)) (pa_cons (pe_tupK (K := K) rfl (pa_cons pe_int (pa_cons pe_int pa_nil))) pa_nil)))) (nomark _))))) (pss_one (ps_ret pe_bl)) pss_nil) (pss_cons (ps_set (i := 6) sc_law.nd rfl (Or.inl rfl) (pe_lstS (pa_cons (pe_call (ok_agree T) (hr.mono (by decide)) rfl T.m_agree T.F_agree.kp T.b_agree .nil pass0 (pa_cons pe_int (pa_cons (pv 3) (pa_cons (pv 4) pa_nil)))) (pa_cons (pe_call (ok_agree T) (hr.mono (by decide)) rfl T.m_agree T.F_agree.kp T.b_agree .nil pass0 (pa_cons pe_int (pa_cons (pv 2) (pa_cons (pe_make (E := E0) T.mk_Endless (ok_Endless___init__ T) (hr.mono (by decide)) rfl T.mC_Endless T.b_Endless___init__ T.v_Endless pass0 (pa_cons pe_int (pa_cons (pe_tupK (K := K) rfl (pa_cons pe_int (pa_cons pe_int pa_nil))) pa_nil))) pa_nil)))) (pa_cons (pe_call (ok_agree T) (hr.mono (by decide)) rfl T.m_agree T.F_agree.kp T.b_agree .nil pass0 (pa_cons pe_int (pa_cons (pv 3) (pa_cons (pv 3) pa_nil)))) (pa_cons (pe_call (ok_agree T) (hr.mono (by decide)) rfl T.m_agree T.F_agree.kp T.b_agree .nil pass0 (pa_cons pe_int (pa_cons (pe_tupK (K := K) rfl (pa_cons pe_int (pa_cons pe_int pa_nil))) (pa_cons (pe_tupK (K := K) rfl (pa_cons pe_int (pa_cons pe_int pa_nil))) pa_nil)))) (pa_cons (pe_call (ok_agree T) (hr.mono (by decide)) rfl T.m_agree T.F_agree.kp T.b_agree .nil pass0 (pa_cons pe_int (pa_cons (pe_tupK (K := K) rfl (pa_cons pe_int (pa_cons pe_int pa_nil))) (pa_cons (pe_tupK (K := K) rfl (pa_cons pe_int (pa_cons pe_int pa_nil))) pa_nil)))) pa_nil))))))) (pss_one (ps_ret (pe_and (pe_cmpR (op_eqD hr.units) (pv 6) (pe_lstS (pa_cons pe_int (pa_cons pe_int (pa_cons pe_non (pa_cons pe_int (pa_cons pe_int pa_nil)))))) (nomark _)) (pe_and (pe_call (ok_ends_with T) (hr.mono (by decide)) rfl T.m_ends_with T.F_ends_with.kp T.b_ends_with .nil pass0 (pa_cons pe_int (pa_cons (pv 2) (pa_cons (pe_tupK (K := K) rfl (pa_cons pe_int (pa_cons pe_int (pa_cons pe_int pa_nil)))) pa_nil)))) (pe_and (pe_not (pe_call (ok_ends_with T) (hr.mono (by decide)) rfl T.m_ends_with T.F_ends_with.kp T.b_ends_with .nil pass0 (pa_cons pe_int (pa_cons (pe_tupK (K := K) rfl (pa_cons pe_int pa_nil)) (pa_cons (pe_tupK (K := K) rfl (pa_cons pe_int (pa_cons pe_int pa_nil))) pa_nil))))) (pe_one (pe_call (ok_ends_with T) (hr.mono (by decide)) rfl T.m_ends_with T.F_ends_with.kp T.b_ends_with .nil pass0 (pa_cons pe_int (pa_cons (pe_tupK (K := K) rfl (pa_cons pe_int pa_nil)) (pa_cons (pe_tupK (K := K) rfl pa_nil) pa_nil))))))))))))))), ?_⟩
    refine ⟨_, rfl, _, _, rfl, .inl (hx H (Same.refl H)), _, _, rfl, _, _, rfl, ?_⟩
    rw [List.length_map]
    refine ⟨_, rfl, by split <;> (try split) <;> omega, by split <;> (try split) <;> omega, for_range (fun i σ H2 => Same H H2 ∧ ∃ u1, σ = [some (.ref a), u1, none, none, none, none, none]) ⟨Same.refl H, _, rfl⟩ ?_ ?_⟩
    · rintro i σ H2 hi ⟨s2, u1, rfl⟩
      have hi3 : i < 1000 := by
        refine Nat.lt_of_lt_of_le hi ?_
        split <;> (try split) <;> omega
      refine ⟨_, rfl, _, rfl, a, xs, i, by rw [Int.zero_add]; rfl, hx H2 s2, hi3, fun H3 b s3 hb hb0 => ?_⟩
      refine ⟨b, rfl, hb, fun H4 k4 => ⟨_, rfl, iteF ⟨fun c o e => k4.2 c o (fun z => ?_) (Same.trans s2 s3 c o e), _, rfl⟩⟩⟩
      subst z
      rw [s2 _ _ e] at hb0
      cases hb0
    rintro σ H2 ⟨s2, u1, rfl⟩
    have w0 : OkH 2 200 (.w [0]) := ⟨by decide, by unfold okR; decide⟩
    have w1 : OkH 2 200 (.w [1]) := ⟨by decide, by unfold okR; decide⟩
    have w011 : OkH 2 200 (.w [0, 1, 1]) := ⟨by decide, by unfold okR; decide⟩
    have w001 : OkH 2 200 (.w [0, 0, 1]) := ⟨by decide, by unfold okR; decide⟩
    have w10 : OkH 2 200 (.w [1, 0]) := ⟨by decide, by unfold okR; decide⟩
    have w00 : OkH 2 200 (.w [0, 0]) := ⟨by decide, by unfold okR; decide⟩
    have wn : OkH 2 200 (.w []) := ⟨by decide, by unfold okR; decide⟩
    have oB : OkH 2 200 (.e [1, 0] []) := ⟨by decide, by decide, by decide, by unfold okR; decide, by unfold okR; decide⟩
    have oO : OkH 2 200 (.e [1] []) := ⟨by decide, by decide, by decide, by unfold okR; decide, by unfold okR; decide⟩
    have oZ : OkH 2 200 (.e [0] [1]) := ⟨by decide, by decide, by decide, by unfold okR; decide, by unfold okR; decide⟩
    have oC : OkH 2 200 (.e [0, 1] []) := ⟨by decide, by decide, by decide, by unfold okR; decide, by unfold okR; decide⟩
    -- back, ones, zeros
    refine ⟨by show 2 ≤ sizeLine; decide, fun H3 a3 s3 h3 => ?_⟩
    refine fun x dx nx ndx nex => ⟨x, dx, 2, _, _, [1, 0], [], rfl, upd_same, by decide, by decide, ⟨a3, rfl, Same.sqt (made_stay (C := T.C_Endless) nx ndx) h3⟩, ⟨_, rfl, T.et_Endless___init___tail _⟩, ⟨by decide, by decide⟩, ⟨by decide, by decide⟩, by decide, fun H4 rvx tvx bbx hx4 hrx htx => ⟨rfl, ?_⟩⟩
    have s4 : Same H3 H4 := made_same nx ndx bbx
    have eB : HtAt K T.C_Endless 2 H4 (.ref x) (.e [1, 0] []) := ⟨x, dx, _, _, rfl, hx4, hrx, htx⟩
    refine ⟨by show 1 ≤ sizeLine; decide, fun H5 a5 s5 h5 => ?_⟩
    refine fun y dy ny ndy ney => ⟨y, dy, 2, _, _, [1], [], rfl, upd_same, by decide, by decide, ⟨a5, rfl, Same.sqt (made_stay (C := T.C_Endless) ny ndy) h5⟩, ⟨_, rfl, T.et_Endless___init___tail _⟩, ⟨by decide, by decide⟩, ⟨by decide, by decide⟩, by decide, fun H6 rvy tvy bby hy6 hry hty => ⟨rfl, ?_⟩⟩
    have s6 : Same H5 H6 := made_same ny ndy bby
    have eO : HtAt K T.C_Endless 2 H6 (.ref y) (.e [1] []) := ⟨y, dy, _, _, rfl, hy6, hry, hty⟩
    refine ⟨by show 1 ≤ sizeLine; decide, fun H7 a7 s7 h7 => ⟨by show 1 ≤ sizeLine; decide, fun H8 a8 s8 h8 => ⟨rfl, rfl, ?_⟩⟩⟩
    refine fun z dz nz ndz nez => ⟨z, dz, 2, _, _, [0], [1], rfl, upd_same, by decide, by decide, ⟨a7, rfl, Same.sqt (Same.trans s8 (made_stay (C := T.C_Endless) nz ndz)) h7⟩, ⟨a8, rfl, Same.sqt (made_stay (C := T.C_Endless) nz ndz) h8⟩, ⟨by decide, by decide⟩, ⟨by decide, by decide⟩, by decide, fun H9 rvz tvz bbz hz9 hrz htz => ⟨rfl, ?_⟩⟩
    have s9 : Same H8 H9 := made_same nz ndz bbz
    have eZ : HtAt K T.C_Endless 2 H9 (.ref z) (.e [0] [1]) := ⟨z, dz, _, _, rfl, hz9, hrz, htz⟩
    have eO9 := eO.same (Same.trans s7 (Same.trans s8 s9))
    have eB9 := eB.same (Same.trans s5 (Same.trans s6 (Same.trans s7 (Same.trans s8 s9))))
    refine ⟨_, _, _, rfl, ?_⟩
    -- what is told
    refine ⟨by show 1 ≤ sizeLine; decide, fun I1 j1 i1 hj1 => ⟨_, rfl, 2, .ref j1, .ref x, .w [0], .e [1, 0] [], rfl, by decide, by decide, ⟨j1, rfl, hj1⟩, eB9.same i1, w0, oB, fun I2 i2 => ?_⟩⟩
    have t2 := Same.trans i1 i2
    refine ⟨_, rfl, by show 1 ≤ sizeLine; decide, fun I3 j3 i3 hj3 => ⟨2, .ref x, .ref j3, .e [1, 0] [], .w [1], rfl, by decide, by decide, eB9.same (Same.trans t2 i3), ⟨j3, rfl, hj3⟩, oB, w1, fun I4 i4 => ?_⟩⟩
    have t4 := Same.trans t2 (Same.trans i3 i4)
    refine ⟨_, rfl, by show 3 ≤ sizeLine; decide, fun I5 j5 i5 hj5 => ⟨2, .ref y, .ref j5, .e [1] [], .w [0, 1, 1], rfl, by decide, by decide, eO9.same (Same.trans t4 i5), ⟨j5, rfl, hj5⟩, oO, w011, fun I6 i6 => ?_⟩⟩
    have t6 := Same.trans t4 (Same.trans i5 i6)
    refine ⟨_, rfl, _, rfl, 2, .ref z, .ref z, .e [0] [1], .e [0] [1], rfl, by decide, by decide, eZ.same t6, eZ.same t6, oZ, oZ, fun I7 i7 => ?_⟩
    have t7 := Same.trans t6 i7
    refine ⟨by show 0 ≤ sizeLine; decide, fun I8 j8 i8 hj8 => ⟨by show 0 ≤ sizeLine; decide, fun I9 j9 i9 hj9 => ⟨2, .ref j8, .ref j9, .w [], .w [], rfl, by decide, by decide, ⟨j8, rfl, Same.sqt i9 hj8⟩, ⟨j9, rfl, hj9⟩, wn, wn, fun I10 i10 => ?_⟩⟩⟩
    have t10 := Same.trans t7 (Same.trans i8 (Same.trans i9 i10))
    refine ⟨_, rfl, by show 3 ≤ sizeLine; decide, fun I11 j11 i11 hj11 => ⟨2, .ref z, .ref j11, .e [0] [1], .w [0, 0, 1], rfl, by decide, by decide, eZ.same (Same.trans t10 i11), ⟨j11, rfl, hj11⟩, oZ, w001, fun I12 i12 => ?_⟩⟩
    have t12 := Same.trans t10 (Same.trans i11 i12)
    refine ⟨by show 6 ≤ sizeLine; decide, fun I13 t i13 _ ht => ?_⟩
    have ht : I13 t = some (.lst [.int (ord (.w [0]) (.e [1, 0] [])), .int (ord (.e [1, 0] []) (.w [1])), .int (ord (.e [1] []) (.w [0, 1, 1])), .int (ord (.e [0] [1]) (.e [0] [1])), .int (ord (.w []) (.w [])), .int (ord (.e [0] [1]) (.w [0, 0, 1]))]) := ht
    rw [d1, d2, d3, d4, d5, d6] at ht
    have t13 := Same.trans t12 i13
    refine ⟨_, rfl, _, rfl, _, rfl, by show 6 ≤ sizeLine; decide, fun I14 t' i14 _ ht' => ?_⟩
    have ht' : I14 t' = some (.lst [.int (-1), .int (-1), .int 1, .int 0, .int 0, .int 1]) := ht'
    have six : ∀ {H : Hp} {t : Addr}, H t = some (.lst [.int (-1), .int (-1), .int 1, .int 0, .int 0, .int 1]) → Dp K H (.ref t) (.list [.int (-1), .int (-1), .int 1, .int 0, .int 0, .int 1]) := fun h1 => .lst (SqL.of h1) (.cons (.int _) (.cons (.int _) (.cons (.int _) (.cons (.int _) (.cons (.int _) (.cons (.int _) .nil))))))
    refine ⟨_, _, six (i14 _ _ ht), six ht', by decide +kernel, by decide +kernel, _, rfl, ifF (by decide +kernel) ?_⟩
    have t14 := Same.trans t13 i14
    refine ⟨_, rfl, 2, .ref z, .e [0] [1], 2, rfl, by decide, by decide, eZ.same t14, oZ, by decide, fun I15 us i15 hus p hp0 => ?_⟩
    rw [d7] at hus
    have su := same_upd hp0 (.lst us)
    have hus' := hus.same su
    refine ⟨by show 0 ≤ sizeLine; decide, fun I16 j16 i16 hj16 => ⟨by show 1 ≤ sizeLine; decide, fun I17 j17 i17 hj17 => ⟨by show 2 ≤ sizeLine; decide, fun I18 j18 i18 hj18 => ⟨by show 3 ≤ sizeLine; decide, fun I19 j19 i19 _ hj19 => ?_⟩⟩⟩⟩
    have i1619 := Same.trans i16 (Same.trans i17 (Same.trans i18 i19))
    have hw : IsWs K I19 [.ref j16, .ref j17, .ref j18] [[], [1], [0, 1]] := .cons ⟨j16, rfl, Same.sqt (Same.trans i17 (Same.trans i18 i19)) hj16⟩ (.cons ⟨j17, rfl, Same.sqt (Same.trans i18 i19) hj17⟩ (.cons ⟨j18, rfl, Same.sqt i19 hj18⟩ .nil))
    refine ⟨_, _, .lst (SqL.of (i1619 _ _ upd_same)) (words_dp (hus'.same i1619)), .lst (SqL.of hj19) (words_dp hw), words_shaped _, words_shaped _, _, rfl, ifF ?_ ?_⟩
    · rw [words_eqv]
      rfl
    have t19 := Same.trans t14 (Same.trans i15 (Same.trans su i1619))
    have fB := eB9.same t19
    have fO := eO9.same t19
    have fZ := eZ.same t19
    -- in how many letters
    refine ⟨_, rfl, _, rfl, 2, .ref y, .ref z, .e [1] [], .e [0] [1], rfl, by decide, by decide, fO, fZ, oO, oZ, fun G1 g1 => ?_⟩
    refine ⟨_, rfl, by show 2 ≤ sizeLine; decide, fun G2 b2 g2 hb2 => ?_⟩
    refine fun c dc nc ndc nec => ⟨c, dc, 2, _, _, [0, 1], [], rfl, upd_same, by decide, by decide, ⟨b2, rfl, Same.sqt (made_stay (C := T.C_Endless) nc ndc) hb2⟩, ⟨_, rfl, T.et_Endless___init___tail _⟩, ⟨by decide, by decide⟩, ⟨by decide, by decide⟩, by decide, fun G3 rvc tvc bbc hc3 hrc htc => ⟨rfl, ?_⟩⟩
    have g3 : Same G2 G3 := made_same nc ndc bbc
    have eC : HtAt K T.C_Endless 2 G3 (.ref c) (.e [0, 1] []) := ⟨c, dc, _, _, rfl, hc3, hrc, htc⟩
    have v3 := Same.trans g1 (Same.trans g2 g3)
    refine ⟨2, .ref x, .ref c, .e [1, 0] [], .e [0, 1] [], rfl, by decide, by decide, fB.same v3, eC, oB, oC, fun G4 g4 => ?_⟩
    have v4 := Same.trans v3 g4
    refine ⟨_, rfl, _, rfl, 2, .ref y, .ref y, .e [1] [], .e [1] [], rfl, by decide, by decide, fO.same v4, fO.same v4, oO, oO, fun G5 g5 => ?_⟩
    refine ⟨by show 2 ≤ sizeLine; decide, fun G6 b6 g6 hb6 => ⟨by show 2 ≤ sizeLine; decide, fun G7 b7 g7 hb7 => ⟨2, .ref b6, .ref b7, .w [1, 0], .w [0, 0], rfl, by decide, by decide, ⟨b6, rfl, Same.sqt g7 hb6⟩, ⟨b7, rfl, hb7⟩, w10, w00, fun G8 g8 => ?_⟩⟩⟩
    refine ⟨by show 2 ≤ sizeLine; decide, fun G9 b9 g9 hb9 => ⟨by show 2 ≤ sizeLine; decide, fun G10 b10 g10 hb10 => ⟨2, .ref b9, .ref b10, .w [1, 0], .w [1, 0], rfl, by decide, by decide, ⟨b9, rfl, Same.sqt g10 hb9⟩, ⟨b10, rfl, hb10⟩, w10, w10, fun G11 g11 => ?_⟩⟩⟩
    have v11 := Same.trans v4 (Same.trans g5 (Same.trans g6 (Same.trans g7 (Same.trans g8 (Same.trans g9 (Same.trans g10 g11))))))
    refine ⟨by show 5 ≤ sizeLine; decide, fun G12 m g12 _ hm => ?_⟩
    have hm : G12 m = some (.lst [agr (.e [1] []) (.e [0] [1]), agr (.e [1, 0] []) (.e [0, 1] []), agr (.e [1] []) (.e [1] []), agr (.w [1, 0]) (.w [0, 0]), agr (.w [1, 0]) (.w [1, 0])]) := hm
    rw [ag1, ag2, ag3, ag4, ag5] at hm
    refine ⟨_, rfl, by show 5 ≤ sizeLine; decide, fun G13 m' g13 _ hm' => ?_⟩
    have hm' : G13 m' = some (.lst [.int 1, .int 0, .non, .int 1, .int 2]) := hm'
    have five : ∀ {H : Hp} {t : Addr}, H t = some (.lst [.int 1, .int 0, .non, .int 1, .int 2]) → Dp K H (.ref t) (.list [.int 1, .int 0, .none, .int 1, .int 2]) := fun h1 => .lst (SqL.of h1) (.cons (.int _) (.cons (.int _) (.cons .non (.cons (.int _) (.cons (.int _) .nil)))))
    refine ⟨_, _, five (g13 _ _ hm), five hm', by decide +kernel, by decide +kernel, _, rfl, ifT (by decide +kernel) ?_⟩
    have v13 := Same.trans v11 (Same.trans g12 g13)
    refine ⟨_, rfl, by show 3 ≤ sizeLine; decide, fun G14 n14 g14 hn14 => ⟨2, .ref x, .ref n14, .e [1, 0] [], [0, 1, 0], rfl, by decide, by decide, fB.same (Same.trans v13 g14), oB, ⟨n14, rfl, hn14⟩, ⟨by decide, by decide⟩, fun G15 g15 => ⟨_, rfl, ifT (by decide +kernel) ?_⟩⟩⟩
    refine ⟨by show 1 ≤ sizeLine; decide, fun G16 n16 g16 hn16 => ⟨by show 2 ≤ sizeLine; decide, fun G17 n17 g17 hn17 => ⟨2, .ref n16, .ref n17, .w [0], [0, 0], rfl, by decide, by decide, ⟨n16, rfl, Same.sqt g17 hn16⟩, w0, ⟨n17, rfl, hn17⟩, ⟨by decide, by decide⟩, fun G18 g18 => ?_⟩⟩⟩
    refine ⟨_, rfl, _, rfl, ifT (by decide +kernel) ?_⟩
    refine ⟨by show 1 ≤ sizeLine; decide, fun G19 n19 g19 hn19 => ⟨by show 0 ≤ sizeLine; decide, fun G20 n20 g20 hn20 => ⟨2, .ref n19, .ref n20, .w [0], [], rfl, by decide, by decide, ⟨n19, rfl, Same.sqt g20 hn19⟩, w0, ⟨n20, rfl, hn20⟩, ⟨by decide, by decide⟩, fun G21 g21 => ?_⟩⟩⟩
    have qq := q G21
    rw [← show decide ((far (.w [0]) (([] : List Int).length)).reverse = []) = true by decide +kernel] at qq
    exact qq
end
end K05
/-! K05q -/
set_option Elab.async false
set_option linter.all false
set_option maxRecDepth 100000
set_option maxHeartbeats 4000000
namespace K05
open PySem PySem.Spec PyProof.Rows L2 PpSet RL
theorem kit_no {K : PySem.W.Frag} {C : Addr} {T : String} {l : List Value} (hm : fastBuiltinMro T = some l) (hl : l.contains (.ref C) = false) (hd : PySem.W.hasDictIn K C = true) (ty : PySem.W.typeIn K (.ref C) = some (.type "type")) : PySem.W.kitOne K (.type T) (.ref C) = some false := by
  have hc : (PySem.W.clsIn K C).isSome = true := by
    obtain ⟨cd, hc, _⟩ := PySem.W.any_some hd
    rw [hc]
    rfl
  have hs : PySem.W.subIn K (.type T) (.ref C) = some false := by
    show (fastBuiltinMro T).map (·.contains (.ref C)) = some false
    rw [hm]
    show some (l.contains (.ref C)) = some false
    rw [hl]
  unfold PySem.W.kitOne
  rw [if_neg (by simp)]
  show (if ((PySem.W.clsIn K C).isSome && PySem.W.typeIn K (.ref C) == some (.type "type")) = true then PySem.W.subIn K (.type T) (.ref C) else none) = some false
  rw [if_pos (by rw [hc, ty]; simp), hs]
def txt_mk {K : PySem.W.Frag} {h : Heap} {mg : Str → Option Value} (X : K.In h) (G : h.Ns mainGlobals mg)
    {CC : Addr}
    {f0 : Addr} {od0 an0 : Option Addr} {sl0 : Array (Option Value)} {oc0 kV0 dc0 pm0 cd0 ct0 : Value}
    {f1 : Addr} {od1 an1 : Option Addr} {sl1 : Array (Option Value)} {oc1 kV1 dc1 pm1 cd1 ct1 : Value}
    {f2 : Addr} {od2 an2 : Option Addr} {sl2 : Array (Option Value)} {oc2 kV2 dc2 pm2 cd2 ct2 : Value}
    {f3 : Addr} {od3 an3 : Option Addr} {sl3 : Array (Option Value)} {oc3 kV3 dc3 pm3 cd3 ct3 : Value}
    {f4 : Addr} {od4 an4 : Option Addr} {sl4 : Array (Option Value)} {oc4 kV4 dc4 pm4 cd4 ct4 : Value}
    {f5 : Addr} {od5 an5 : Option Addr} {sl5 : Array (Option Value)} {oc5 kV5 dc5 pm5 cd5 ct5 : Value}
    {f6 : Addr} {od6 an6 : Option Addr} {sl6 : Array (Option Value)} {oc6 kV6 dc6 pm6 cd6 ct6 : Value}
    {f7 : Addr} {od7 an7 : Option Addr} {sl7 : Array (Option Value)} {oc7 kV7 dc7 pm7 cd7 ct7 : Value}
    {f8 : Addr} {od8 an8 : Option Addr} {sl8 : Array (Option Value)} {oc8 kV8 dc8 pm8 cd8 ct8 : Value}
    {f9 : Addr} {od9 an9 : Option Addr} {sl9 : Array (Option Value)} {oc9 dc9 pm9 cd9 ct9 : Value}
    {D0 e0 : Addr} {eod : Option Addr} {en : Nat} {esl : Array (Option Value)}
    {f10 : Addr} {od10 an10 : Option Addr} {sl10 : Array (Option Value)} {oc10 kV10 dc10 pm10 cd10 ct10 : Value}
    {q10 : Addr} {rs10 : List Value}
    {f11 : Addr} {od11 an11 : Option Addr} {sl11 : Array (Option Value)} {oc11 kV11 dc11 pm11 cd11 ct11 : Value}
    {q11 : Addr} {rs11 : List Value}
    {f12 : Addr} {od12 an12 : Option Addr} {sl12 : Array (Option Value)} {oc12 kV12 dc12 pm12 cd12 ct12 : Value}
    {q12 : Addr} {rs12 : List Value}
    {f13 : Addr} {od13 an13 : Option Addr} {sl13 : Array (Option Value)} {oc13 kV13 dc13 pm13 cd13 ct13 : Value}
    {f14 : Addr} {od14 an14 : Option Addr} {sl14 : Array (Option Value)} {oc14 kV14 dc14 pm14 cd14 ct14 : Value}
    {f15 : Addr} {od15 an15 : Option Addr} {sl15 : Array (Option Value)} {oc15 kV15 dc15 pm15 cd15 ct15 : Value}
    {f16 : Addr} {od16 an16 : Option Addr} {sl16 : Array (Option Value)} {oc16 kV16 dc16 pm16 cd16 ct16 : Value}
    {f17 : Addr} {od17 an17 : Option Addr} {sl17 : Array (Option Value)} {oc17 kV17 dc17 pm17 cd17 ct17 : Value}
    {f18 : Addr} {od18 an18 : Option Addr} {sl18 : Array (Option Value)} {oc18 kV18 dc18 pm18 cd18 ct18 : Value}
    {f19 : Addr} {od19 an19 : Option Addr} {sl19 : Array (Option Value)} {oc19 kV19 dc19 pm19 cd19 ct19 : Value}
    {f20 : Addr} {od20 an20 : Option Addr} {sl20 : Array (Option Value)} {oc20 kV20 dc20 pm20 cd20 ct20 : Value}
    {f21 : Addr} {od21 an21 : Option Addr} {sl21 : Array (Option Value)} {oc21 kV21 dc21 pm21 cd21 ct21 : Value}
    {f22 : Addr} {od22 an22 : Option Addr} {sl22 : Array (Option Value)} {oc22 kV22 dc22 pm22 cd22 ct22 : Value}
    {f23 : Addr} {od23 an23 : Option Addr} {sl23 : Array (Option Value)} {oc23 kV23 dc23 pm23 cd23 ct23 : Value}
    {f24 : Addr} {od24 an24 : Option Addr} {sl24 : Array (Option Value)} {oc24 kV24 dc24 pm24 cd24 ct24 : Value}
    {f25 : Addr} {od25 an25 : Option Addr} {sl25 : Array (Option Value)} {oc25 kV25 dc25 pm25 cd25 ct25 : Value}
    {f26 : Addr} {od26 an26 : Option Addr} {sl26 : Array (Option Value)} {oc26 kV26 dc26 pm26 cd26 ct26 : Value}
    {f27 : Addr} {od27 an27 : Option Addr} {sl27 : Array (Option Value)} {oc27 kV27 dc27 pm27 cd27 ct27 : Value}
    {f28 : Addr} {od28 an28 : Option Addr} {sl28 : Array (Option Value)} {oc28 kV28 dc28 pm28 cd28 ct28 : Value}
    {f29 : Addr} {od29 an29 : Option Addr} {sl29 : Array (Option Value)} {oc29 kV29 dc29 pm29 cd29 ct29 : Value}
    {f30 : Addr} {od30 an30 : Option Addr} {sl30 : Array (Option Value)} {oc30 kV30 dc30 pm30 cd30 ct30 : Value}
    {f31 : Addr} {od31 an31 : Option Addr} {sl31 : Array (Option Value)} {oc31 kV31 dc31 pm31 cd31 ct31 : Value}
    {f32 : Addr} {od32 an32 : Option Addr} {sl32 : Array (Option Value)} {oc32 kV32 dc32 pm32 cd32 ct32 : Value}
    {f33 : Addr} {od33 an33 : Option Addr} {sl33 : Array (Option Value)} {oc33 kV33 dc33 pm33 cd33 ct33 : Value}
    {f34 : Addr} {od34 an34 : Option Addr} {sl34 : Array (Option Value)} {oc34 kV34 dc34 pm34 cd34 ct34 : Value}
    {f35 : Addr} {od35 an35 : Option Addr} {sl35 : Array (Option Value)} {oc35 kV35 dc35 pm35 cd35 ct35 : Value}
    {f36 : Addr} {od36 an36 : Option Addr} {sl36 : Array (Option Value)} {oc36 kV36 dc36 pm36 cd36 ct36 : Value}
    {f37 : Addr} {od37 an37 : Option Addr} {sl37 : Array (Option Value)} {oc37 kV37 dc37 pm37 cd37 ct37 : Value}
    {f38 : Addr} {od38 an38 : Option Addr} {sl38 : Array (Option Value)} {oc38 kV38 dc38 pm38 cd38 ct38 : Value}
    {f39 : Addr} {od39 an39 : Option Addr} {sl39 : Array (Option Value)} {oc39 kV39 dc39 pm39 cd39 ct39 : Value}
    {f40 : Addr} {od40 an40 : Option Addr} {sl40 : Array (Option Value)} {oc40 kV40 dc40 pm40 cd40 ct40 : Value}
    {f41 : Addr} {od41 an41 : Option Addr} {sl41 : Array (Option Value)} {oc41 kV41 dc41 pm41 cd41 ct41 : Value}
    {f42 : Addr} {od42 an42 : Option Addr} {sl42 : Array (Option Value)} {oc42 kV42 dc42 pm42 cd42 ct42 : Value}
    {f43 : Addr} {od43 an43 : Option Addr} {sl43 : Array (Option Value)} {oc43 kV43 dc43 pm43 cd43 ct43 : Value}
    {f44 : Addr} {od44 an44 : Option Addr} {sl44 : Array (Option Value)} {oc44 kV44 dc44 pm44 cd44 ct44 : Value}
    {tk_MAX_LETTERS : Tok}
    {tk_MAX_WORD : Tok}
    {tk_MAX_END : Tok}
    {tk_MOST_ENDS : Tok}
    (aC : PySem.W.nsIn K mainGlobals "Endless" = some (some (.ref CC)))
    (a0 : PySem.W.nsIn K mainGlobals "is_number" = some (some (.ref f0)))
    (l0 : K.lookup f0 = some ⟨oc0, od0, .func (PySem.W.fnOf "is_number" "is_number" (defArgs s_is_number) (defBody s_is_number) (defScope s_is_number) .none kV0 dc0 pm0 an0 cd0 ct0), sl0⟩)
    (c0 : PySem.W.codeIn K cd0 "is_number" = true)
    (k0 : PySem.W.keepIn K (.ref f0) = true)
    (a1 : PySem.W.nsIn K mainGlobals "check_number" = some (some (.ref f1)))
    (l1 : K.lookup f1 = some ⟨oc1, od1, .func (PySem.W.fnOf "check_number" "check_number" (defArgs s_check_number) (defBody s_check_number) (defScope s_check_number) .none kV1 dc1 pm1 an1 cd1 ct1), sl1⟩)
    (c1 : PySem.W.codeIn K cd1 "check_number" = true)
    (k1 : PySem.W.keepIn K (.ref f1) = true)
    (a2 : PySem.W.nsIn K mainGlobals "check_letters" = some (some (.ref f2)))
    (l2 : K.lookup f2 = some ⟨oc2, od2, .func (PySem.W.fnOf "check_letters" "check_letters" (defArgs s_check_letters) (defBody s_check_letters) (defScope s_check_letters) .none kV2 dc2 pm2 an2 cd2 ct2), sl2⟩)
    (c2 : PySem.W.codeIn K cd2 "check_letters" = true)
    (k2 : PySem.W.keepIn K (.ref f2) = true)
    (a3 : PySem.W.nsIn K mainGlobals "is_spelled" = some (some (.ref f3)))
    (l3 : K.lookup f3 = some ⟨oc3, od3, .func (PySem.W.fnOf "is_spelled" "is_spelled" (defArgs s_is_spelled) (defBody s_is_spelled) (defScope s_is_spelled) .none kV3 dc3 pm3 an3 cd3 ct3), sl3⟩)
    (c3 : PySem.W.codeIn K cd3 "is_spelled" = true)
    (k3 : PySem.W.keepIn K (.ref f3) = true)
    (a4 : PySem.W.nsIn K mainGlobals "check_word" = some (some (.ref f4)))
    (l4 : K.lookup f4 = some ⟨oc4, od4, .func (PySem.W.fnOf "check_word" "check_word" (defArgs s_check_word) (defBody s_check_word) (defScope s_check_word) .none kV4 dc4 pm4 an4 cd4 ct4), sl4⟩)
    (c4 : PySem.W.codeIn K cd4 "check_word" = true)
    (k4 : PySem.W.keepIn K (.ref f4) = true)
    (a5 : PySem.W.nsIn K mainGlobals "order_words" = some (some (.ref f5)))
    (l5 : K.lookup f5 = some ⟨oc5, od5, .func (PySem.W.fnOf "order_words" "order_words" (defArgs s_order_words) (defBody s_order_words) (defScope s_order_words) .none kV5 dc5 pm5 an5 cd5 ct5), sl5⟩)
    (c5 : PySem.W.codeIn K cd5 "order_words" = true)
    (k5 : PySem.W.keepIn K (.ref f5) = true)
    (a6 : PySem.W.nsIn K mainGlobals "count_common" = some (some (.ref f6)))
    (l6 : K.lookup f6 = some ⟨oc6, od6, .func (PySem.W.fnOf "count_common" "count_common" (defArgs s_count_common) (defBody s_count_common) (defScope s_count_common) .none kV6 dc6 pm6 an6 cd6 ct6), sl6⟩)
    (c6 : PySem.W.codeIn K cd6 "count_common" = true)
    (k6 : PySem.W.keepIn K (.ref f6) = true)
    (a7 : PySem.W.nsIn K mainGlobals "_root" = some (some (.ref f7)))
    (l7 : K.lookup f7 = some ⟨oc7, od7, .func (PySem.W.fnOf "_root" "_root" (defArgs s__root) (defBody s__root) (defScope s__root) .none kV7 dc7 pm7 an7 cd7 ct7), sl7⟩)
    (c7 : PySem.W.codeIn K cd7 "_root" = true)
    (k7 : PySem.W.keepIn K (.ref f7) = true)
    (a8 : PySem.W.nsIn K mainGlobals "_kept" = some (some (.ref f8)))
    (l8 : K.lookup f8 = some ⟨oc8, od8, .func (PySem.W.fnOf "_kept" "_kept" (defArgs s__kept) (defBody s__kept) (defScope s__kept) .none kV8 dc8 pm8 an8 cd8 ct8), sl8⟩)
    (c8 : PySem.W.codeIn K cd8 "_kept" = true)
    (k8 : PySem.W.keepIn K (.ref f8) = true)
    (a9 : PySem.W.findIn K (.ref CC) "__init__" = some (some (.ref f9)))
    (i9 : PySem.W.isFn K (.ref f9) = true)
    (l9 : K.lookup f9 = some ⟨oc9, od9, .func (PySem.W.fnOf "__init__" "Endless.__init__" (defArgs s_Endless___init__) (defBody s_Endless___init__) (defScope s_Endless___init__) .none (.ref D0) dc9 pm9 an9 cd9 ct9), sl9⟩)
    (c9 : PySem.W.codeIn K cd9 "Endless.__init__" = true)
    (k9 : PySem.W.keepIn K (.ref f9) = true)
    (hkd0 : PySem.W.nsIn K D0 "tail" = some (some (.ref e0)))
    (hle0 : K.lookup e0 = some ⟨.type "tuple", eod, .seq #[] en, esl⟩)
    (a10 : PySem.W.findIn K (.ref CC) "letters" = some (some (.ref q10)))
    (g10 : PySem.W.specialIn K (.ref q10) "__get__" = some (some (.builtin "property.__get__")))
    (t10 : PySem.W.takesIn K (.ref q10) = some true)
    (r10 : PySem.W.recIn K q10 "property" = some (.ref f10 :: rs10))
    (l10 : K.lookup f10 = some ⟨oc10, od10, .func (PySem.W.fnOf "letters" "Endless.letters" (defArgs s_Endless_letters) (defBody s_Endless_letters) (defScope s_Endless_letters) .none kV10 dc10 pm10 an10 cd10 ct10), sl10⟩)
    (c10 : PySem.W.codeIn K cd10 "Endless.letters" = true)
    (k10 : PySem.W.keepIn K (.ref f10) = true)
    (a11 : PySem.W.findIn K (.ref CC) "ring" = some (some (.ref q11)))
    (g11 : PySem.W.specialIn K (.ref q11) "__get__" = some (some (.builtin "property.__get__")))
    (t11 : PySem.W.takesIn K (.ref q11) = some true)
    (r11 : PySem.W.recIn K q11 "property" = some (.ref f11 :: rs11))
    (l11 : K.lookup f11 = some ⟨oc11, od11, .func (PySem.W.fnOf "ring" "Endless.ring" (defArgs s_Endless_ring) (defBody s_Endless_ring) (defScope s_Endless_ring) .none kV11 dc11 pm11 an11 cd11 ct11), sl11⟩)
    (c11 : PySem.W.codeIn K cd11 "Endless.ring" = true)
    (k11 : PySem.W.keepIn K (.ref f11) = true)
    (a12 : PySem.W.findIn K (.ref CC) "tail" = some (some (.ref q12)))
    (g12 : PySem.W.specialIn K (.ref q12) "__get__" = some (some (.builtin "property.__get__")))
    (t12 : PySem.W.takesIn K (.ref q12) = some true)
    (r12 : PySem.W.recIn K q12 "property" = some (.ref f12 :: rs12))
    (l12 : K.lookup f12 = some ⟨oc12, od12, .func (PySem.W.fnOf "tail" "Endless.tail" (defArgs s_Endless_tail) (defBody s_Endless_tail) (defScope s_Endless_tail) .none kV12 dc12 pm12 an12 cd12 ct12), sl12⟩)
    (c12 : PySem.W.codeIn K cd12 "Endless.tail" = true)
    (k12 : PySem.W.keepIn K (.ref f12) = true)
    (a13 : PySem.W.findIn K (.ref CC) "__len__" = some (some (.ref f13)))
    (i13 : PySem.W.isFn K (.ref f13) = true)
    (l13 : K.lookup f13 = some ⟨oc13, od13, .func (PySem.W.fnOf "__len__" "Endless.__len__" (defArgs s_Endless___len__) (defBody s_Endless___len__) (defScope s_Endless___len__) .none kV13 dc13 pm13 an13 cd13 ct13), sl13⟩)
    (c13 : PySem.W.codeIn K cd13 "Endless.__len__" = true)
    (k13 : PySem.W.keepIn K (.ref f13) = true)
    (a14 : PySem.W.nsIn K mainGlobals "endless_of" = some (some (.ref f14)))
    (l14 : K.lookup f14 = some ⟨oc14, od14, .func (PySem.W.fnOf "endless_of" "endless_of" (defArgs s_endless_of) (defBody s_endless_of) (defScope s_endless_of) .none kV14 dc14 pm14 an14 cd14 ct14), sl14⟩)
    (c14 : PySem.W.codeIn K cd14 "endless_of" = true)
    (k14 : PySem.W.keepIn K (.ref f14) = true)
    (a15 : PySem.W.nsIn K mainGlobals "last_letters" = some (some (.ref f15)))
    (l15 : K.lookup f15 = some ⟨oc15, od15, .func (PySem.W.fnOf "last_letters" "last_letters" (defArgs s_last_letters) (defBody s_last_letters) (defScope s_last_letters) .none kV15 dc15 pm15 an15 cd15 ct15), sl15⟩)
    (c15 : PySem.W.codeIn K cd15 "last_letters" = true)
    (k15 : PySem.W.keepIn K (.ref f15) = true)
    (a16 : PySem.W.findIn K (.ref CC) "__add__" = some (some (.ref f16)))
    (i16 : PySem.W.isFn K (.ref f16) = true)
    (l16 : K.lookup f16 = some ⟨oc16, od16, .func (PySem.W.fnOf "__add__" "Endless.__add__" (defArgs s_Endless___add__) (defBody s_Endless___add__) (defScope s_Endless___add__) .none kV16 dc16 pm16 an16 cd16 ct16), sl16⟩)
    (c16 : PySem.W.codeIn K cd16 "Endless.__add__" = true)
    (k16 : PySem.W.keepIn K (.ref f16) = true)
    (a17 : PySem.W.findIn K (.ref CC) "__eq__" = some (some (.ref f17)))
    (i17 : PySem.W.isFn K (.ref f17) = true)
    (l17 : K.lookup f17 = some ⟨oc17, od17, .func (PySem.W.fnOf "__eq__" "Endless.__eq__" (defArgs s_Endless___eq__) (defBody s_Endless___eq__) (defScope s_Endless___eq__) .none kV17 dc17 pm17 an17 cd17 ct17), sl17⟩)
    (c17 : PySem.W.codeIn K cd17 "Endless.__eq__" = true)
    (k17 : PySem.W.keepIn K (.ref f17) = true)
    (a18 : PySem.W.nsIn K mainGlobals "_telling_ends" = some (some (.ref f18)))
    (l18 : K.lookup f18 = some ⟨oc18, od18, .func (PySem.W.fnOf "_telling_ends" "_telling_ends" (defArgs s__telling_ends) (defBody s__telling_ends) (defScope s__telling_ends) .none kV18 dc18 pm18 an18 cd18 ct18), sl18⟩)
    (c18 : PySem.W.codeIn K cd18 "_telling_ends" = true)
    (k18 : PySem.W.keepIn K (.ref f18) = true)
    (a19 : PySem.W.nsIn K mainGlobals "order_heights" = some (some (.ref f19)))
    (l19 : K.lookup f19 = some ⟨oc19, od19, .func (PySem.W.fnOf "order_heights" "order_heights" (defArgs s_order_heights) (defBody s_order_heights) (defScope s_order_heights) .none kV19 dc19 pm19 an19 cd19 ct19), sl19⟩)
    (c19 : PySem.W.codeIn K cd19 "order_heights" = true)
    (k19 : PySem.W.keepIn K (.ref f19) = true)
    (a20 : PySem.W.nsIn K mainGlobals "count_agreeing" = some (some (.ref f20)))
    (l20 : K.lookup f20 = some ⟨oc20, od20, .func (PySem.W.fnOf "count_agreeing" "count_agreeing" (defArgs s_count_agreeing) (defBody s_count_agreeing) (defScope s_count_agreeing) .none kV20 dc20 pm20 an20 cd20 ct20), sl20⟩)
    (c20 : PySem.W.codeIn K cd20 "count_agreeing" = true)
    (k20 : PySem.W.keepIn K (.ref f20) = true)
    (a21 : PySem.W.nsIn K mainGlobals "_is_height_of" = some (some (.ref f21)))
    (l21 : K.lookup f21 = some ⟨oc21, od21, .func (PySem.W.fnOf "_is_height_of" "_is_height_of" (defArgs s__is_height_of) (defBody s__is_height_of) (defScope s__is_height_of) .none kV21 dc21 pm21 an21 cd21 ct21), sl21⟩)
    (c21 : PySem.W.codeIn K cd21 "_is_height_of" = true)
    (k21 : PySem.W.keepIn K (.ref f21) = true)
    (a22 : PySem.W.nsIn K mainGlobals "_check_height" = some (some (.ref f22)))
    (l22 : K.lookup f22 = some ⟨oc22, od22, .func (PySem.W.fnOf "_check_height" "_check_height" (defArgs s__check_height) (defBody s__check_height) (defScope s__check_height) .none kV22 dc22 pm22 an22 cd22 ct22), sl22⟩)
    (c22 : PySem.W.codeIn K cd22 "_check_height" = true)
    (k22 : PySem.W.keepIn K (.ref f22) = true)
    (a23 : PySem.W.nsIn K mainGlobals "_check_heights" = some (some (.ref f23)))
    (l23 : K.lookup f23 = some ⟨oc23, od23, .func (PySem.W.fnOf "_check_heights" "_check_heights" (defArgs s__check_heights) (defBody s__check_heights) (defScope s__check_heights) .none kV23 dc23 pm23 an23 cd23 ct23), sl23⟩)
    (c23 : PySem.W.codeIn K cd23 "_check_heights" = true)
    (k23 : PySem.W.keepIn K (.ref f23) = true)
    (a24 : PySem.W.nsIn K mainGlobals "is_height" = some (some (.ref f24)))
    (l24 : K.lookup f24 = some ⟨oc24, od24, .func (PySem.W.fnOf "is_height" "is_height" (defArgs s_is_height) (defBody s_is_height) (defScope s_is_height) .none kV24 dc24 pm24 an24 cd24 ct24), sl24⟩)
    (c24 : PySem.W.codeIn K cd24 "is_height" = true)
    (k24 : PySem.W.keepIn K (.ref f24) = true)
    (a25 : PySem.W.nsIn K mainGlobals "compare" = some (some (.ref f25)))
    (l25 : K.lookup f25 = some ⟨oc25, od25, .func (PySem.W.fnOf "compare" "compare" (defArgs s_compare) (defBody s_compare) (defScope s_compare) .none kV25 dc25 pm25 an25 cd25 ct25), sl25⟩)
    (c25 : PySem.W.codeIn K cd25 "compare" = true)
    (k25 : PySem.W.keepIn K (.ref f25) = true)
    (a26 : PySem.W.nsIn K mainGlobals "ends_with" = some (some (.ref f26)))
    (l26 : K.lookup f26 = some ⟨oc26, od26, .func (PySem.W.fnOf "ends_with" "ends_with" (defArgs s_ends_with) (defBody s_ends_with) (defScope s_ends_with) .none kV26 dc26 pm26 an26 cd26 ct26), sl26⟩)
    (c26 : PySem.W.codeIn K cd26 "ends_with" = true)
    (k26 : PySem.W.keepIn K (.ref f26) = true)
    (a27 : PySem.W.nsIn K mainGlobals "agree" = some (some (.ref f27)))
    (l27 : K.lookup f27 = some ⟨oc27, od27, .func (PySem.W.fnOf "agree" "agree" (defArgs s_agree) (defBody s_agree) (defScope s_agree) .none kV27 dc27 pm27 an27 cd27 ct27), sl27⟩)
    (c27 : PySem.W.codeIn K cd27 "agree" = true)
    (k27 : PySem.W.keepIn K (.ref f27) = true)
    (a28 : PySem.W.nsIn K mainGlobals "each_end" = some (some (.ref f28)))
    (l28 : K.lookup f28 = some ⟨oc28, od28, .func (PySem.W.fnOf "each_end" "each_end" (defArgs s_each_end) (defBody s_each_end) (defScope s_each_end) .none kV28 dc28 pm28 an28 cd28 ct28), sl28⟩)
    (c28 : PySem.W.codeIn K cd28 "each_end" = true)
    (k28 : PySem.W.keepIn K (.ref f28) = true)
    (a29 : PySem.W.nsIn K mainGlobals "_law_bag" = some (some (.ref f29)))
    (l29 : K.lookup f29 = some ⟨oc29, od29, .func (PySem.W.fnOf "_law_bag" "_law_bag" (defArgs s__law_bag) (defBody s__law_bag) (defScope s__law_bag) .none kV29 dc29 pm29 an29 cd29 ct29), sl29⟩)
    (c29 : PySem.W.codeIn K cd29 "_law_bag" = true)
    (k29 : PySem.W.keepIn K (.ref f29) = true)
    (a30 : PySem.W.nsIn K mainGlobals "_law_grab" = some (some (.ref f30)))
    (l30 : K.lookup f30 = some ⟨oc30, od30, .func (PySem.W.fnOf "_law_grab" "_law_grab" (defArgs s__law_grab) (defBody s__law_grab) (defScope s__law_grab) .none kV30 dc30 pm30 an30 cd30 ct30), sl30⟩)
    (c30 : PySem.W.codeIn K cd30 "_law_grab" = true)
    (k30 : PySem.W.keepIn K (.ref f30) = true)
    (a31 : PySem.W.nsIn K mainGlobals "_law_word_drawn" = some (some (.ref f31)))
    (l31 : K.lookup f31 = some ⟨oc31, od31, .func (PySem.W.fnOf "_law_word_drawn" "_law_word_drawn" (defArgs s__law_word_drawn) (defBody s__law_word_drawn) (defScope s__law_word_drawn) .none kV31 dc31 pm31 an31 cd31 ct31), sl31⟩)
    (c31 : PySem.W.codeIn K cd31 "_law_word_drawn" = true)
    (k31 : PySem.W.keepIn K (.ref f31) = true)
    (a32 : PySem.W.nsIn K mainGlobals "_law_last" = some (some (.ref f32)))
    (l32 : K.lookup f32 = some ⟨oc32, od32, .func (PySem.W.fnOf "_law_last" "_law_last" (defArgs s__law_last) (defBody s__law_last) (defScope s__law_last) .none kV32 dc32 pm32 an32 cd32 ct32), sl32⟩)
    (c32 : PySem.W.codeIn K cd32 "_law_last" = true)
    (k32 : PySem.W.keepIn K (.ref f32) = true)
    (a33 : PySem.W.nsIn K mainGlobals "_law_drawn" = some (some (.ref f33)))
    (l33 : K.lookup f33 = some ⟨oc33, od33, .func (PySem.W.fnOf "_law_drawn" "_law_drawn" (defArgs s__law_drawn) (defBody s__law_drawn) (defScope s__law_drawn) .none kV33 dc33 pm33 an33 cd33 ct33), sl33⟩)
    (c33 : PySem.W.codeIn K cd33 "_law_drawn" = true)
    (k33 : PySem.W.keepIn K (.ref f33) = true)
    (a34 : PySem.W.nsIn K mainGlobals "_law_near" = some (some (.ref f34)))
    (l34 : K.lookup f34 = some ⟨oc34, od34, .func (PySem.W.fnOf "_law_near" "_law_near" (defArgs s__law_near) (defBody s__law_near) (defScope s__law_near) .none kV34 dc34 pm34 an34 cd34 ct34), sl34⟩)
    (c34 : PySem.W.codeIn K cd34 "_law_near" = true)
    (k34 : PySem.W.keepIn K (.ref f34) = true)
    (a35 : PySem.W.nsIn K mainGlobals "_law_made" = some (some (.ref f35)))
    (l35 : K.lookup f35 = some ⟨oc35, od35, .func (PySem.W.fnOf "_law_made" "_law_made" (defArgs s__law_made) (defBody s__law_made) (defScope s__law_made) .none kV35 dc35 pm35 an35 cd35 ct35), sl35⟩)
    (c35 : PySem.W.codeIn K cd35 "_law_made" = true)
    (k35 : PySem.W.keepIn K (.ref f35) = true)
    (a36 : PySem.W.nsIn K mainGlobals "_law_far" = some (some (.ref f36)))
    (l36 : K.lookup f36 = some ⟨oc36, od36, .func (PySem.W.fnOf "_law_far" "_law_far" (defArgs s__law_far) (defBody s__law_far) (defScope s__law_far) .none kV36 dc36 pm36 an36 cd36 ct36), sl36⟩)
    (c36 : PySem.W.codeIn K cd36 "_law_far" = true)
    (k36 : PySem.W.keepIn K (.ref f36) = true)
    (a37 : PySem.W.nsIn K mainGlobals "_law_sign" = some (some (.ref f37)))
    (l37 : K.lookup f37 = some ⟨oc37, od37, .func (PySem.W.fnOf "_law_sign" "_law_sign" (defArgs s__law_sign) (defBody s__law_sign) (defScope s__law_sign) .none kV37 dc37 pm37 an37 cd37 ct37), sl37⟩)
    (c37 : PySem.W.codeIn K cd37 "_law_sign" = true)
    (k37 : PySem.W.keepIn K (.ref f37) = true)
    (a38 : PySem.W.nsIn K mainGlobals "_law_common" = some (some (.ref f38)))
    (l38 : K.lookup f38 = some ⟨oc38, od38, .func (PySem.W.fnOf "_law_common" "_law_common" (defArgs s__law_common) (defBody s__law_common) (defScope s__law_common) .none kV38 dc38 pm38 an38 cd38 ct38), sl38⟩)
    (c38 : PySem.W.codeIn K cd38 "_law_common" = true)
    (k38 : PySem.W.keepIn K (.ref f38) = true)
    (a39 : PySem.W.nsIn K mainGlobals "_law_behind" = some (some (.ref f39)))
    (l39 : K.lookup f39 = some ⟨oc39, od39, .func (PySem.W.fnOf "_law_behind" "_law_behind" (defArgs s__law_behind) (defBody s__law_behind) (defScope s__law_behind) .none kV39 dc39 pm39 an39 cd39 ct39), sl39⟩)
    (c39 : PySem.W.codeIn K cd39 "_law_behind" = true)
    (k39 : PySem.W.keepIn K (.ref f39) = true)
    (a40 : PySem.W.nsIn K mainGlobals "_law_two_right" = some (some (.ref f40)))
    (l40 : K.lookup f40 = some ⟨oc40, od40, .func (PySem.W.fnOf "_law_two_right" "_law_two_right" (defArgs s__law_two_right) (defBody s__law_two_right) (defScope s__law_two_right) .none kV40 dc40 pm40 an40 cd40 ct40), sl40⟩)
    (c40 : PySem.W.codeIn K cd40 "_law_two_right" = true)
    (k40 : PySem.W.keepIn K (.ref f40) = true)
    (a41 : PySem.W.nsIn K mainGlobals "_law_ends_right" = some (some (.ref f41)))
    (l41 : K.lookup f41 = some ⟨oc41, od41, .func (PySem.W.fnOf "_law_ends_right" "_law_ends_right" (defArgs s__law_ends_right) (defBody s__law_ends_right) (defScope s__law_ends_right) .none kV41 dc41 pm41 an41 cd41 ct41), sl41⟩)
    (c41 : PySem.W.codeIn K cd41 "_law_ends_right" = true)
    (k41 : PySem.W.keepIn K (.ref f41) = true)
    (a42 : PySem.W.nsIn K mainGlobals "_law_judged_right" = some (some (.ref f42)))
    (l42 : K.lookup f42 = some ⟨oc42, od42, .func (PySem.W.fnOf "_law_judged_right" "_law_judged_right" (defArgs s__law_judged_right) (defBody s__law_judged_right) (defScope s__law_judged_right) .none kV42 dc42 pm42 an42 cd42 ct42), sl42⟩)
    (c42 : PySem.W.codeIn K cd42 "_law_judged_right" = true)
    (k42 : PySem.W.keepIn K (.ref f42) = true)
    (a43 : PySem.W.nsIn K mainGlobals "_law_right" = some (some (.ref f43)))
    (l43 : K.lookup f43 = some ⟨oc43, od43, .func (PySem.W.fnOf "_law_right" "_law_right" (defArgs s__law_right) (defBody s__law_right) (defScope s__law_right) .none kV43 dc43 pm43 an43 cd43 ct43), sl43⟩)
    (c43 : PySem.W.codeIn K cd43 "_law_right" = true)
    (k43 : PySem.W.keepIn K (.ref f43) = true)
    (a44 : PySem.W.nsIn K mainGlobals "law" = some (some (.ref f44)))
    (l44 : K.lookup f44 = some ⟨oc44, od44, .func (PySem.W.fnOf "law" "law" (defArgs s_law) (defBody s_law) (defScope s_law) .none kV44 dc44 pm44 an44 cd44 ct44), sl44⟩)
    (c44 : PySem.W.codeIn K cd44 "law" = true)
    (k44 : PySem.W.keepIn K (.ref f44) = true)
    (pg : PySem.W.plainGet K CC Str.empty = true)
    (hd : PySem.W.hasDictIn K CC = true)
    (po : PySem.W.plainOver K CC = true)
    (sa : PySem.W.findIn K (.ref CC) "__setattr__" = some (some (.builtin "object.__setattr__")))
    (mk : PySem.W.makesIn K CC = true)
    (kc : PySem.W.keepIn K (.ref CC) = true)
    (nl : PySem.W.findIn K (.ref CC) "_letters" = some none)
    (nr : PySem.W.findIn K (.ref CC) "_ring" = some none)
    (nt : PySem.W.findIn K (.ref CC) "_tail" = some none)
    (ob : PySem.W.mroIn K CC (.type "object") = some true)
    (ne : PySem.W.findIn K (.ref CC) "__ne__" = some (some (.builtin "object.__ne__")))
    (sf : PySem.W.selfFirst K CC = true)
    (ca : PySem.W.findIn K (.ref CC) "__class__" = some (some (.builtin "object.__class__")))
    (cn : PySem.W.specialIn K (.builtin "object.__class__") "__get__" = some (some (.builtin "getset_descriptor.__get__")))
    (ct : PySem.W.takesIn K (.builtin "object.__class__") = some true)
    (ty0 : PySem.W.typeIn K (.ref CC) = some (.type "type"))
    (nf : PySem.W.notFirst K CC (.ref CC) = true)
    (nftuple : PySem.W.notFirst K CC (.type "tuple") = true)
    (g_MAX_LETTERS : PySem.W.nsIn K mainGlobals "MAX_LETTERS" = some (some (.int 4 tk_MAX_LETTERS)))
    (g_MAX_WORD : PySem.W.nsIn K mainGlobals "MAX_WORD" = some (some (.int 200 tk_MAX_WORD)))
    (g_MAX_END : PySem.W.nsIn K mainGlobals "MAX_END" = some (some (.int 1000 tk_MAX_END)))
    (g_MOST_ENDS : PySem.W.nsIn K mainGlobals "MOST_ENDS" = some (some (.int 60 tk_MOST_ENDS)))
    (z_len : PySem.W.nsIn K mainGlobals "len" = some none)
    (z_min : PySem.W.nsIn K mainGlobals "min" = some none)
    (z_max : PySem.W.nsIn K mainGlobals "max" = some none)
    (z_abs : PySem.W.nsIn K mainGlobals "abs" = some none)
    (z_int : PySem.W.nsIn K mainGlobals "int" = some none)
    (z_isinstance : PySem.W.nsIn K mainGlobals "isinstance" = some none)
    (z_tuple : PySem.W.nsIn K mainGlobals "tuple" = some none)
    (z_list : PySem.W.nsIn K mainGlobals "list" = some none)
    (z_bool : PySem.W.nsIn K mainGlobals "bool" = some none)
    (z_all : PySem.W.nsIn K mainGlobals "all" = some none)
    (z_range : PySem.W.nsIn K mainGlobals "range" = some none)
    (z_repr : PySem.W.nsIn K mainGlobals "repr" = some none)
    (z_zip : PySem.W.nsIn K mainGlobals "zip" = some none) : Txt K mg :=
  have F0 := fun_mk (st := s_is_number) l0 c0 k0
  have b0 := F0.binds (ps := ["value", "least", "most"]) fun _ _ _ _ _ _ us hl => match us, hl with | [_, _, _], _ => rfl
  have F1 := fun_mk (st := s_check_number) l1 c1 k1
  have b1 := F1.binds (ps := ["value", "least", "most"]) fun _ _ _ _ _ _ us hl => match us, hl with | [_, _, _], _ => rfl
  have F2 := fun_mk (st := s_check_letters) l2 c2 k2
  have b2 := F2.binds (ps := ["letters"]) fun _ _ _ _ _ _ us hl => match us, hl with | [_], _ => rfl
  have F3 := fun_mk (st := s_is_spelled) l3 c3 k3
  have b3 := F3.binds (ps := ["letters", "value", "most"]) fun _ _ _ _ _ _ us hl => match us, hl with | [_, _, _], _ => rfl
  have F4 := fun_mk (st := s_check_word) l4 c4 k4
  have b4 := F4.binds (ps := ["letters", "word"]) fun _ _ _ _ _ _ us hl => match us, hl with | [_, _], _ => rfl
  have F5 := fun_mk (st := s_order_words) l5 c5 k5
  have b5 := F5.binds (ps := ["one", "other"]) fun _ _ _ _ _ _ us hl => match us, hl with | [_, _], _ => rfl
  have F6 := fun_mk (st := s_count_common) l6 c6 k6
  have b6 := F6.binds (ps := ["one", "other"]) fun _ _ _ _ _ _ us hl => match us, hl with | [_, _], _ => rfl
  have F7 := fun_mk (st := s__root) l7 c7 k7
  have b7 := F7.binds (ps := ["word"]) fun _ _ _ _ _ _ us hl => match us, hl with | [_], _ => rfl
  have F8 := fun_mk (st := s__kept) l8 c8 k8
  have b8 := F8.binds (ps := ["ring", "tail"]) fun _ _ _ _ _ _ us hl => match us, hl with | [_, _], _ => rfl
  have F9 : FunD K "__init__" "Endless.__init__" (defArgs s_Endless___init__) (defBody s_Endless___init__) (defScope s_Endless___init__) [] [("tail", V.ref e0)] f9 (PySem.W.fnOf "__init__" "Endless.__init__" (defArgs s_Endless___init__) (defBody s_Endless___init__) (defScope s_Endless___init__) .none (.ref D0) dc9 pm9 an9 cd9 ct9) := ⟨⟨oc9, od9, .none, .ref D0, dc9, pm9, an9, cd9, ct9, sl9, rfl, l9, c9, .inl ⟨rfl, rfl⟩, .inr ⟨D0, rfl, fun q hq => by rw [List.mem_singleton.mp hq]; exact ⟨_, hkd0, rfl⟩⟩⟩, k9⟩
  have b9 : Binds K (PySem.W.fnOf "__init__" "Endless.__init__" (defArgs s_Endless___init__) (defBody s_Endless___init__) (defScope s_Endless___init__) .none (.ref D0) dc9 pm9 an9 cd9 ct9) ["self", "letters", "ring", "tail"] [.ref e0] := by
    obtain ⟨ds, h1, h2⟩ := FunD.binds0 (ps := ["self", "letters", "ring", "tail"]) F9 3 (List.cons_ne_nil _ _) rfl fun D doc pm an cdv ct us ks e1 e2 => bind_init D doc pm an cdv ct us ks e1 e2
    rw [vals1_ref h1] at h2
    exact h2
  have kb : KBn K (PySem.W.fnOf "__init__" "Endless.__init__" (defArgs s_Endless___init__) (defBody s_Endless___init__) (defScope s_Endless___init__) .none (.ref D0) dc9 pm9 an9 cd9 ct9) ["self", "letters", "ring", "tail"] 3 ["tail"] (fun us ws => us ++ ws) (fun vs zs => vs ++ zs) := by
    obtain ⟨mv, h⟩ := FunD.kbinds0 (ps := ["self", "letters", "ring", "tail"]) F9 3 ["tail"] [] (fun us _ ws => us ++ ws) (List.cons_ne_nil _ _) (fun q hq => by cases hq) (fun r1 _ r3 => r1.append r3) fun D doc pm an cdv ct us mv ws e1 _ e2 => bind_initK D doc pm an cdv ct us ws e1 e2
    exact h
  have F10 := fun_mk (st := s_Endless_letters) l10 c10 k10
  have b10 := F10.binds (ps := ["self"]) fun _ _ _ _ _ _ us hl => match us, hl with | [_], _ => rfl
  have F11 := fun_mk (st := s_Endless_ring) l11 c11 k11
  have b11 := F11.binds (ps := ["self"]) fun _ _ _ _ _ _ us hl => match us, hl with | [_], _ => rfl
  have F12 := fun_mk (st := s_Endless_tail) l12 c12 k12
  have b12 := F12.binds (ps := ["self"]) fun _ _ _ _ _ _ us hl => match us, hl with | [_], _ => rfl
  have F13 := fun_mk (st := s_Endless___len__) l13 c13 k13
  have b13 := F13.binds (ps := ["self"]) fun _ _ _ _ _ _ us hl => match us, hl with | [_], _ => rfl
  have F14 := fun_mk (st := s_endless_of) l14 c14 k14
  have b14 := F14.binds (ps := ["letters", "ring", "tail"]) fun _ _ _ _ _ _ us hl => match us, hl with | [_, _, _], _ => rfl
  have F15 := fun_mk (st := s_last_letters) l15 c15 k15
  have b15 := F15.binds (ps := ["height", "many"]) fun _ _ _ _ _ _ us hl => match us, hl with | [_, _], _ => rfl
  have F16 := fun_mk (st := s_Endless___add__) l16 c16 k16
  have b16 := F16.binds (ps := ["self", "other"]) fun _ _ _ _ _ _ us hl => match us, hl with | [_, _], _ => rfl
  have F17 := fun_mk (st := s_Endless___eq__) l17 c17 k17
  have b17 := F17.binds (ps := ["self", "other"]) fun _ _ _ _ _ _ us hl => match us, hl with | [_, _], _ => rfl
  have F18 := fun_mk (st := s__telling_ends) l18 c18 k18
  have b18 := F18.binds (ps := ["one", "other"]) fun _ _ _ _ _ _ us hl => match us, hl with | [_, _], _ => rfl
  have F19 := fun_mk (st := s_order_heights) l19 c19 k19
  have b19 := F19.binds (ps := ["one", "other"]) fun _ _ _ _ _ _ us hl => match us, hl with | [_, _], _ => rfl
  have F20 := fun_mk (st := s_count_agreeing) l20 c20 k20
  have b20 := F20.binds (ps := ["one", "other"]) fun _ _ _ _ _ _ us hl => match us, hl with | [_, _], _ => rfl
  have F21 := fun_mk (st := s__is_height_of) l21 c21 k21
  have b21 := F21.binds (ps := ["letters", "value"]) fun _ _ _ _ _ _ us hl => match us, hl with | [_, _], _ => rfl
  have F22 := fun_mk (st := s__check_height) l22 c22 k22
  have b22 := F22.binds (ps := ["letters", "height"]) fun _ _ _ _ _ _ us hl => match us, hl with | [_, _], _ => rfl
  have F23 := fun_mk (st := s__check_heights) l23 c23 k23
  have b23 := F23.binds (ps := ["letters", "one", "other"]) fun _ _ _ _ _ _ us hl => match us, hl with | [_, _, _], _ => rfl
  have F24 := fun_mk (st := s_is_height) l24 c24 k24
  have b24 := F24.binds (ps := ["letters", "value"]) fun _ _ _ _ _ _ us hl => match us, hl with | [_, _], _ => rfl
  have F25 := fun_mk (st := s_compare) l25 c25 k25
  have b25 := F25.binds (ps := ["letters", "one", "other"]) fun _ _ _ _ _ _ us hl => match us, hl with | [_, _, _], _ => rfl
  have F26 := fun_mk (st := s_ends_with) l26 c26 k26
  have b26 := F26.binds (ps := ["letters", "height", "word"]) fun _ _ _ _ _ _ us hl => match us, hl with | [_, _, _], _ => rfl
  have F27 := fun_mk (st := s_agree) l27 c27 k27
  have b27 := F27.binds (ps := ["letters", "one", "other"]) fun _ _ _ _ _ _ us hl => match us, hl with | [_, _, _], _ => rfl
  have F28 := fun_mk (st := s_each_end) l28 c28 k28
  have b28 := F28.binds (ps := ["letters", "height", "many"]) fun _ _ _ _ _ _ us hl => match us, hl with | [_, _, _], _ => rfl
  have F29 := fun_mk (st := s__law_bag) l29 c29 k29
  have b29 := F29.binds (ps := ["script", "spot"]) fun _ _ _ _ _ _ us hl => match us, hl with | [_, _], _ => rfl
  have F30 := fun_mk (st := s__law_grab) l30 c30 k30
  have b30 := F30.binds (ps := ["bag", "total"]) fun _ _ _ _ _ _ us hl => match us, hl with | [_, _], _ => rfl
  have F31 := fun_mk (st := s__law_word_drawn) l31 c31 k31
  have b31 := F31.binds (ps := ["bag", "letters", "most"]) fun _ _ _ _ _ _ us hl => match us, hl with | [_, _, _], _ => rfl
  have F32 := fun_mk (st := s__law_last) l32 c32 k32
  have b32 := F32.binds (ps := ["ring", "rest", "many"]) fun _ _ _ _ _ _ us hl => match us, hl with | [_, _, _], _ => rfl
  have F33 := fun_mk (st := s__law_drawn) l33 c33 k33
  have b33 := F33.binds (ps := ["bag", "letters"]) fun _ _ _ _ _ _ us hl => match us, hl with | [_, _], _ => rfl
  have F34 := fun_mk (st := s__law_near) l34 c34 k34
  have b34 := F34.binds (ps := ["bag", "letters", "height"]) fun _ _ _ _ _ _ us hl => match us, hl with | [_, _, _], _ => rfl
  have F35 := fun_mk (st := s__law_made) l35 c35 k35
  have b35 := F35.binds (ps := ["letters", "height"]) fun _ _ _ _ _ _ us hl => match us, hl with | [_, _], _ => rfl
  have F36 := fun_mk (st := s__law_far) l36 c36 k36
  have b36 := F36.binds (ps := ["height"]) fun _ _ _ _ _ _ us hl => match us, hl with | [_], _ => rfl
  have F37 := fun_mk (st := s__law_sign) l37 c37 k37
  have b37 := F37.binds (ps := ["one", "other"]) fun _ _ _ _ _ _ us hl => match us, hl with | [_, _], _ => rfl
  have F38 := fun_mk (st := s__law_common) l38 c38 k38
  have b38 := F38.binds (ps := ["one", "other"]) fun _ _ _ _ _ _ us hl => match us, hl with | [_, _], _ => rfl
  have F39 := fun_mk (st := s__law_behind) l39 c39 k39
  have b39 := F39.binds (ps := ["letters", "height", "word"]) fun _ _ _ _ _ _ us hl => match us, hl with | [_, _, _], _ => rfl
  have F40 := fun_mk (st := s__law_two_right) l40 c40 k40
  have b40 := F40.binds (ps := ["bag", "letters", "one", "other"]) fun _ _ _ _ _ _ us hl => match us, hl with | [_, _, _, _], _ => rfl
  have F41 := fun_mk (st := s__law_ends_right) l41 c41 k41
  have b41 := F41.binds (ps := ["bag", "letters", "height"]) fun _ _ _ _ _ _ us hl => match us, hl with | [_, _, _], _ => rfl
  have F42 := fun_mk (st := s__law_judged_right) l42 c42 k42
  have b42 := F42.binds (ps := ["letters", "here"]) fun _ _ _ _ _ _ us hl => match us, hl with | [_, _], _ => rfl
  have F43 := fun_mk (st := s__law_right) l43 c43 k43
  have b43 := F43.binds (ps := ["bag"]) fun _ _ _ _ _ _ us hl => match us, hl with | [_], _ => rfl
  have F44 := fun_mk (st := s_law) l44 c44 k44
  have b44 := F44.binds (ps := ["script"]) fun _ _ _ _ _ _ us hl => match us, hl with | [_], _ => rfl
  { C_Endless := CC,
    a_is_number := f0, d_is_number := _,
    F_is_number := F0, b_is_number := b0,
    m_is_number := PySem.W.mg_of X G a0,
    a_check_number := f1, d_check_number := _,
    F_check_number := F1, b_check_number := b1,
    m_check_number := PySem.W.mg_of X G a1,
    a_check_letters := f2, d_check_letters := _,
    F_check_letters := F2, b_check_letters := b2,
    m_check_letters := PySem.W.mg_of X G a2,
    a_is_spelled := f3, d_is_spelled := _,
    F_is_spelled := F3, b_is_spelled := b3,
    m_is_spelled := PySem.W.mg_of X G a3,
    a_check_word := f4, d_check_word := _,
    F_check_word := F4, b_check_word := b4,
    m_check_word := PySem.W.mg_of X G a4,
    a_order_words := f5, d_order_words := _,
    F_order_words := F5, b_order_words := b5,
    m_order_words := PySem.W.mg_of X G a5,
    a_count_common := f6, d_count_common := _,
    F_count_common := F6, b_count_common := b6,
    m_count_common := PySem.W.mg_of X G a6,
    a__root := f7, d__root := _,
    F__root := F7, b__root := b7,
    m__root := PySem.W.mg_of X G a7,
    a__kept := f8, d__kept := _,
    F__kept := F8, b__kept := b8,
    m__kept := PySem.W.mg_of X G a8,
    a_Endless___init__ := f9, d_Endless___init__ := _,
    e_Endless___init___tail := e0, et_Endless___init___tail := fun _ => .inr ⟨_, #[], en, hle0, rfl, rfl, Nat.zero_le _, .nil⟩, F_Endless___init__ := F9, b_Endless___init__ := b9, kb_Endless := kb, v_Endless := .cons rfl .nil, mk_Endless := ⟨mk, a9, i9, kc⟩,
    a_Endless_letters := f10, d_Endless_letters := _,
    F_Endless_letters := F10, b_Endless_letters := b10,
    q_Endless_letters := q10, p_Endless_letters := ⟨a10, g10, t10, _, r10⟩,
    a_Endless_ring := f11, d_Endless_ring := _,
    F_Endless_ring := F11, b_Endless_ring := b11,
    q_Endless_ring := q11, p_Endless_ring := ⟨a11, g11, t11, _, r11⟩,
    a_Endless_tail := f12, d_Endless_tail := _,
    F_Endless_tail := F12, b_Endless_tail := b12,
    q_Endless_tail := q12, p_Endless_tail := ⟨a12, g12, t12, _, r12⟩,
    a_Endless___len__ := f13, d_Endless___len__ := _,
    F_Endless___len__ := F13, b_Endless___len__ := b13,
    len_Endless := a13, lenf_Endless := i13,
    a_endless_of := f14, d_endless_of := _,
    F_endless_of := F14, b_endless_of := b14,
    m_endless_of := PySem.W.mg_of X G a14,
    a_last_letters := f15, d_last_letters := _,
    F_last_letters := F15, b_last_letters := b15,
    m_last_letters := PySem.W.mg_of X G a15,
    a_Endless___add__ := f16, d_Endless___add__ := _,
    F_Endless___add__ := F16, b_Endless___add__ := b16,
    add_Endless := a16, addf_Endless := i16,
    a_Endless___eq__ := f17, d_Endless___eq__ := _,
    F_Endless___eq__ := F17, b_Endless___eq__ := b17,
    eq_Endless := a17, eqf_Endless := i17,
    a__telling_ends := f18, d__telling_ends := _,
    F__telling_ends := F18, b__telling_ends := b18,
    m__telling_ends := PySem.W.mg_of X G a18,
    a_order_heights := f19, d_order_heights := _,
    F_order_heights := F19, b_order_heights := b19,
    m_order_heights := PySem.W.mg_of X G a19,
    a_count_agreeing := f20, d_count_agreeing := _,
    F_count_agreeing := F20, b_count_agreeing := b20,
    m_count_agreeing := PySem.W.mg_of X G a20,
    a__is_height_of := f21, d__is_height_of := _,
    F__is_height_of := F21, b__is_height_of := b21,
    m__is_height_of := PySem.W.mg_of X G a21,
    a__check_height := f22, d__check_height := _,
    F__check_height := F22, b__check_height := b22,
    m__check_height := PySem.W.mg_of X G a22,
    a__check_heights := f23, d__check_heights := _,
    F__check_heights := F23, b__check_heights := b23,
    m__check_heights := PySem.W.mg_of X G a23,
    a_is_height := f24, d_is_height := _,
    F_is_height := F24, b_is_height := b24,
    m_is_height := PySem.W.mg_of X G a24,
    a_compare := f25, d_compare := _,
    F_compare := F25, b_compare := b25,
    m_compare := PySem.W.mg_of X G a25,
    a_ends_with := f26, d_ends_with := _,
    F_ends_with := F26, b_ends_with := b26,
    m_ends_with := PySem.W.mg_of X G a26,
    a_agree := f27, d_agree := _,
    F_agree := F27, b_agree := b27,
    m_agree := PySem.W.mg_of X G a27,
    a_each_end := f28, d_each_end := _,
    F_each_end := F28, b_each_end := b28,
    m_each_end := PySem.W.mg_of X G a28,
    a__law_bag := f29, d__law_bag := _,
    F__law_bag := F29, b__law_bag := b29,
    m__law_bag := PySem.W.mg_of X G a29,
    a__law_grab := f30, d__law_grab := _,
    F__law_grab := F30, b__law_grab := b30,
    m__law_grab := PySem.W.mg_of X G a30,
    a__law_word_drawn := f31, d__law_word_drawn := _,
    F__law_word_drawn := F31, b__law_word_drawn := b31,
    m__law_word_drawn := PySem.W.mg_of X G a31,
    a__law_last := f32, d__law_last := _,
    F__law_last := F32, b__law_last := b32,
    m__law_last := PySem.W.mg_of X G a32,
    a__law_drawn := f33, d__law_drawn := _,
    F__law_drawn := F33, b__law_drawn := b33,
    m__law_drawn := PySem.W.mg_of X G a33,
    a__law_near := f34, d__law_near := _,
    F__law_near := F34, b__law_near := b34,
    m__law_near := PySem.W.mg_of X G a34,
    a__law_made := f35, d__law_made := _,
    F__law_made := F35, b__law_made := b35,
    m__law_made := PySem.W.mg_of X G a35,
    a__law_far := f36, d__law_far := _,
    F__law_far := F36, b__law_far := b36,
    m__law_far := PySem.W.mg_of X G a36,
    a__law_sign := f37, d__law_sign := _,
    F__law_sign := F37, b__law_sign := b37,
    m__law_sign := PySem.W.mg_of X G a37,
    a__law_common := f38, d__law_common := _,
    F__law_common := F38, b__law_common := b38,
    m__law_common := PySem.W.mg_of X G a38,
    a__law_behind := f39, d__law_behind := _,
    F__law_behind := F39, b__law_behind := b39,
    m__law_behind := PySem.W.mg_of X G a39,
    a__law_two_right := f40, d__law_two_right := _,
    F__law_two_right := F40, b__law_two_right := b40,
    m__law_two_right := PySem.W.mg_of X G a40,
    a__law_ends_right := f41, d__law_ends_right := _,
    F__law_ends_right := F41, b__law_ends_right := b41,
    m__law_ends_right := PySem.W.mg_of X G a41,
    a__law_judged_right := f42, d__law_judged_right := _,
    F__law_judged_right := F42, b__law_judged_right := b42,
    m__law_judged_right := PySem.W.mg_of X G a42,
    a__law_right := f43, d__law_right := _,
    F__law_right := F43, b__law_right := b43,
    m__law_right := PySem.W.mg_of X G a43,
    a_law := f44, d_law := _,
    F_law := F44, b_law := b44,
    m_law := PySem.W.mg_of X G a44,
    ktuple_Endless := kit_no (by decide +kernel : fastBuiltinMro "tuple" = some [.type "tuple", .type "object"]) (by first | rfl | simp) hd ty0,
    kint_Endless := kit_no (by decide +kernel : fastBuiltinMro "int" = some [.type "int", .type "object"]) (by first | rfl | simp) hd ty0,
    kstr_Endless := kit_no (by decide +kernel : fastBuiltinMro "str" = some [.type "str", .type "object"]) (by first | rfl | simp) hd ty0,
    klist_Endless := kit_no (by decide +kernel : fastBuiltinMro "list" = some [.type "list", .type "object"]) (by first | rfl | simp) hd ty0,
    kdict_Endless := kit_no (by decide +kernel : fastBuiltinMro "dict" = some [.type "dict", .type "object"]) (by first | rfl | simp) hd ty0,
    kNoneType_Endless := kit_no (by decide +kernel : fastBuiltinMro "NoneType" = some [.type "NoneType", .type "object"]) (by first | rfl | simp) hd ty0,
    nftuple_Endless := nftuple,
    mC_Endless := PySem.W.mg_of X G aC, c_Endless := ⟨pg, hd, po, sa⟩, na_Endless_letters := nl, na_Endless_ring := nr, na_Endless_tail := nt, ob_Endless := ob, ne_Endless := ne, sf_Endless := sf, ca_Endless := ca, cn_Endless := cn, ct_Endless := ct, ks_Endless := if_pos (by simp), nf_Endless := nf,
    t_MAX_LETTERS := tk_MAX_LETTERS, g_MAX_LETTERS := PySem.W.mg_of X G g_MAX_LETTERS,
    t_MAX_WORD := tk_MAX_WORD, g_MAX_WORD := PySem.W.mg_of X G g_MAX_WORD,
    t_MAX_END := tk_MAX_END, g_MAX_END := PySem.W.mg_of X G g_MAX_END,
    t_MOST_ENDS := tk_MOST_ENDS, g_MOST_ENDS := PySem.W.mg_of X G g_MOST_ENDS,
    n_len := PySem.W.mg_none_of X G z_len,
    n_min := PySem.W.mg_none_of X G z_min,
    n_max := PySem.W.mg_none_of X G z_max,
    n_abs := PySem.W.mg_none_of X G z_abs,
    n_int := PySem.W.mg_none_of X G z_int,
    n_isinstance := PySem.W.mg_none_of X G z_isinstance,
    n_tuple := PySem.W.mg_none_of X G z_tuple,
    n_list := PySem.W.mg_none_of X G z_list,
    n_bool := PySem.W.mg_none_of X G z_bool,
    n_all := PySem.W.mg_none_of X G z_all,
    n_range := PySem.W.mg_none_of X G z_range,
    n_repr := PySem.W.mg_none_of X G z_repr,
    n_zip := PySem.W.mg_none_of X G z_zip }
theorem all_mk {l : PySem.W.OpenLaw} {w : World} {K : PySem.W.Frag} {mg : Str → Option Value} {fa : Addr} (hfa : mg "law" = some (.ref fa)) (T : Txt K mg) (hb : ∀ (s : Shared) (v : Value), BindsTo s T.d_law ⟨[v], []⟩ [("script", v)]) :
    ∃ fd : FuncData, (∀ (s : Shared) (v : Value), BindsTo s fd ⟨[v], []⟩ [("script", v)]) ∧ ∀ base : Heap, K.In base → base.Ns mainGlobals mg → FnOk l.prog w K mg base CX0 11 fa fd ["script"] (sp_law K) := by
  have e := hfa.symm.trans T.m_law
  cases e
  exact ⟨T.d_law, hb, fun base _ _ => ok_law T⟩
end K05
open PySem PySem.W PyProof.Rows
set_option maxHeartbeats 0 in
theorem PySem.Challenge.cw_roomlines_k05_whole_heights_in_order_holds : PySem.Challenge.rw_roomlines_k05_whole_heights_in_order.Holds := by
  w_on; o_law; k_head; (case hw => w_witness2)
  k_fill
  refine L2.walk_of (l := PySem.Challenge.rw_roomlines_k05_whole_heights_in_order) (n := 63) (k := 11) (x := "script") (CX := fun _ => L2.CX0) (sp := fun w => K05.sp_law _) rfl (by decide) rfl ⟨rfl, by decide, by decide⟩ (fun w h Y => PySem.W.kIn_of Y) ?F (fun _ _ a ns hl _ hS => ⟨a, ns, rfl, fun H' s => s.seq hS, by omega, fun _ => rfl⟩) (fun _ _ _ _ _ h => h)
  case F =>
    intro w mg fa h KX G hmg
    refine' K05.all_mk hmg (K05.txt_mk KX G ?aC ?a0 ?l0 ?c0 ?k0 ?a1 ?l1 ?c1 ?k1 ?a2 ?l2 ?c2 ?k2 ?a3 ?l3 ?c3 ?k3 ?a4 ?l4 ?c4 ?k4 ?a5 ?l5 ?c5 ?k5 ?a6 ?l6 ?c6 ?k6 ?a7 ?l7 ?c7 ?k7 ?a8 ?l8 ?c8 ?k8 ?a9 ?i9 ?l9 ?c9 ?k9 ?hkd0 ?hle0 ?a10 ?g10 ?t10 ?r10 ?l10 ?c10 ?k10 ?a11 ?g11 ?t11 ?r11 ?l11 ?c11 ?k11 ?a12 ?g12 ?t12 ?r12 ?l12 ?c12 ?k12 ?a13 ?i13 ?l13 ?c13 ?k13 ?a14 ?l14 ?c14 ?k14 ?a15 ?l15 ?c15 ?k15 ?a16 ?i16 ?l16 ?c16 ?k16 ?a17 ?i17 ?l17 ?c17 ?k17 ?a18 ?l18 ?c18 ?k18 ?a19 ?l19 ?c19 ?k19 ?a20 ?l20 ?c20 ?k20 ?a21 ?l21 ?c21 ?k21 ?a22 ?l22 ?c22 ?k22 ?a23 ?l23 ?c23 ?k23 ?a24 ?l24 ?c24 ?k24 ?a25 ?l25 ?c25 ?k25 ?a26 ?l26 ?c26 ?k26 ?a27 ?l27 ?c27 ?k27 ?a28 ?l28 ?c28 ?k28 ?a29 ?l29 ?c29 ?k29 ?a30 ?l30 ?c30 ?k30 ?a31 ?l31 ?c31 ?k31 ?a32 ?l32 ?c32 ?k32 ?a33 ?l33 ?c33 ?k33 ?a34 ?l34 ?c34 ?k34 ?a35 ?l35 ?c35 ?k35 ?a36 ?l36 ?c36 ?k36 ?a37 ?l37 ?c37 ?k37 ?a38 ?l38 ?c38 ?k38 ?a39 ?l39 ?c39 ?k39 ?a40 ?l40 ?c40 ?k40 ?a41 ?l41 ?c41 ?k41 ?a42 ?l42 ?c42 ?k42 ?a43 ?l43 ?c43 ?k43 ?a44 ?l44 ?c44 ?k44 ?pg ?hd ?po ?sa ?mk ?kc ?nl ?nr ?nt ?ob ?ne ?sf ?ca ?cn ?ct ?ty0 ?nf ?nftuple ?g_MAX_LETTERS ?g_MAX_WORD ?g_MAX_END ?g_MOST_ENDS ?z_len ?z_min ?z_max ?z_abs ?z_int ?z_isinstance ?z_tuple ?z_list ?z_bool ?z_all ?z_range ?z_repr ?z_zip) ?hb
    (case aC => k_is)
    (case a0 => k_is)
    (case l0 => k_is)
    (case c0 => k_is)
    (case k0 => k_is)
    (case a1 => k_is)
    (case l1 => k_is)
    (case c1 => k_is)
    (case k1 => k_is)
    (case a2 => k_is)
    (case l2 => k_is)
    (case c2 => k_is)
    (case k2 => k_is)
    (case a3 => k_is)
    (case l3 => k_is)
    (case c3 => k_is)
    (case k3 => k_is)
    (case a4 => k_is)
    (case l4 => k_is)
    (case c4 => k_is)
    (case k4 => k_is)
    (case a5 => k_is)
    (case l5 => k_is)
    (case c5 => k_is)
    (case k5 => k_is)
    (case a6 => k_is)
    (case l6 => k_is)
    (case c6 => k_is)
    (case k6 => k_is)
    (case a7 => k_is)
    (case l7 => k_is)
    (case c7 => k_is)
    (case k7 => k_is)
    (case a8 => k_is)
    (case l8 => k_is)
    (case c8 => k_is)
    (case k8 => k_is)
    (case a9 => k_is)
    (case i9 => k_is)
    (case l9 => k_is)
    (case c9 => k_is)
    (case k9 => k_is)
    (case hkd0 => k_is)
    (case hle0 => k_is)
    (case a10 => k_is)
    (case g10 => k_is)
    (case t10 => k_is)
    (case r10 => k_is)
    (case l10 => k_is)
    (case c10 => k_is)
    (case k10 => k_is)
    (case a11 => k_is)
    (case g11 => k_is)
    (case t11 => k_is)
    (case r11 => k_is)
    (case l11 => k_is)
    (case c11 => k_is)
    (case k11 => k_is)
    (case a12 => k_is)
    (case g12 => k_is)
    (case t12 => k_is)
    (case r12 => k_is)
    (case l12 => k_is)
    (case c12 => k_is)
    (case k12 => k_is)
    (case a13 => k_is)
    (case i13 => k_is)
    (case l13 => k_is)
    (case c13 => k_is)
    (case k13 => k_is)
    (case a14 => k_is)
    (case l14 => k_is)
    (case c14 => k_is)
    (case k14 => k_is)
    (case a15 => k_is)
    (case l15 => k_is)
    (case c15 => k_is)
    (case k15 => k_is)
    (case a16 => k_is)
    (case i16 => k_is)
    (case l16 => k_is)
    (case c16 => k_is)
    (case k16 => k_is)
    (case a17 => k_is)
    (case i17 => k_is)
    (case l17 => k_is)
    (case c17 => k_is)
    (case k17 => k_is)
    (case a18 => k_is)
    (case l18 => k_is)
    (case c18 => k_is)
    (case k18 => k_is)
    (case a19 => k_is)
    (case l19 => k_is)
    (case c19 => k_is)
    (case k19 => k_is)
    (case a20 => k_is)
    (case l20 => k_is)
    (case c20 => k_is)
    (case k20 => k_is)
    (case a21 => k_is)
    (case l21 => k_is)
    (case c21 => k_is)
    (case k21 => k_is)
    (case a22 => k_is)
    (case l22 => k_is)
    (case c22 => k_is)
    (case k22 => k_is)
    (case a23 => k_is)
    (case l23 => k_is)
    (case c23 => k_is)
    (case k23 => k_is)
    (case a24 => k_is)
    (case l24 => k_is)
    (case c24 => k_is)
    (case k24 => k_is)
    (case a25 => k_is)
    (case l25 => k_is)
    (case c25 => k_is)
    (case k25 => k_is)
    (case a26 => k_is)
    (case l26 => k_is)
    (case c26 => k_is)
    (case k26 => k_is)
    (case a27 => k_is)
    (case l27 => k_is)
    (case c27 => k_is)
    (case k27 => k_is)
    (case a28 => k_is)
    (case l28 => k_is)
    (case c28 => k_is)
    (case k28 => k_is)
    (case a29 => k_is)
    (case l29 => k_is)
    (case c29 => k_is)
    (case k29 => k_is)
    (case a30 => k_is)
    (case l30 => k_is)
    (case c30 => k_is)
    (case k30 => k_is)
    (case a31 => k_is)
    (case l31 => k_is)
    (case c31 => k_is)
    (case k31 => k_is)
    (case a32 => k_is)
    (case l32 => k_is)
    (case c32 => k_is)
    (case k32 => k_is)
    (case a33 => k_is)
    (case l33 => k_is)
    (case c33 => k_is)
    (case k33 => k_is)
    (case a34 => k_is)
    (case l34 => k_is)
    (case c34 => k_is)
    (case k34 => k_is)
    (case a35 => k_is)
    (case l35 => k_is)
    (case c35 => k_is)
    (case k35 => k_is)
    (case a36 => k_is)
    (case l36 => k_is)
    (case c36 => k_is)
    (case k36 => k_is)
    (case a37 => k_is)
    (case l37 => k_is)
    (case c37 => k_is)
    (case k37 => k_is)
    (case a38 => k_is)
    (case l38 => k_is)
    (case c38 => k_is)
    (case k38 => k_is)
    (case a39 => k_is)
    (case l39 => k_is)
    (case c39 => k_is)
    (case k39 => k_is)
    (case a40 => k_is)
    (case l40 => k_is)
    (case c40 => k_is)
    (case k40 => k_is)
    (case a41 => k_is)
    (case l41 => k_is)
    (case c41 => k_is)
    (case k41 => k_is)
    (case a42 => k_is)
    (case l42 => k_is)
    (case c42 => k_is)
    (case k42 => k_is)
    (case a43 => k_is)
    (case l43 => k_is)
    (case c43 => k_is)
    (case k43 => k_is)
    (case a44 => k_is)
    (case l44 => k_is)
    (case c44 => k_is)
    (case k44 => k_is)
    (case pg => k_is)
    (case hd => k_is)
    (case po => k_is)
    (case sa => k_is)
    (case mk => k_is)
    (case kc => k_is)
    (case nl => k_is)
    (case nr => k_is)
    (case nt => k_is)
    (case ob => k_is)
    (case ne => k_is)
    (case sf => k_is)
    (case ca => k_is)
    (case cn => k_is)
    (case ct => k_is)
    (case ty0 => k_is)
    (case nf => k_is)
    (case nftuple => k_is)
    (case g_MAX_LETTERS => k_is)
    (case g_MAX_WORD => k_is)
    (case g_MAX_END => k_is)
    (case g_MOST_ENDS => k_is)
    (case z_len => k_is)
    (case z_min => k_is)
    (case z_max => k_is)
    (case z_abs => k_is)
    (case z_int => k_is)
    (case z_isinstance => k_is)
    (case z_tuple => k_is)
    (case z_list => k_is)
    (case z_bool => k_is)
    (case z_all => k_is)
    (case z_range => k_is)
    (case z_repr => k_is)
    (case z_zip => k_is)
    (case hb => exact fun s v => .of_eq rfl)
