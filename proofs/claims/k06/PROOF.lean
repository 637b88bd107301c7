import PyProof.Rows.All
import Wide.All
import OpenK.AllK
import Wide.FinOn
import HandS.ForMost
import HandS.Style
import HandS.TupAny
import HandS.TupMul
import HandS.Zip
import HandS.Wide
import HandS.WideBits
import HandS.IsInst
import HandS.GenYield
import PyProof.Draws
import HandS.SetBool
import HandS.TupSets
import KE.SortData
import KE.LtSeq
import HandS.GenList
import HandS.NoneIn
import HandS.SlotsOwn
import HandS.More
import KE.KCallOwn
import KE.KOpsOwn
import OpenK.KOps
import PyProof.InstEq
import PyProof.TupleOps
import HandS.Property
import HandS.Exc
import HandS.ExcInit
import HandS.ExcField
import HandS.ExcOwn
import HandS.WordsExc
import KE.KExcInit
import HandS.TryMany
import HandS.Lambda
import PyProof.ReprRoads
import HandS.EndOwn
import KE.KNest
import HandS.CallLocal
import HandS.MakeKwOnly
import HandS.Text
import HandS.Defaults
import KE.KExcLine
import PySem.Challenge.RW_roomlines_k06_errors_of_endless_words
/-! S1 -/
set_option Elab.async false
set_option linter.all false
set_option maxRecDepth 100000
set_option maxHeartbeats 2000000
namespace HT
open PySem PySem.Spec PyProof.Rows
section
variable {prog : Program} {w : World} {A : Around} {E : Value → Shared → Prop} {s : Shared}
theorem rev_pick (items : Array Value) : ((List.range items.size).filterMap fun (k : Nat) => items[(((items.size : Int) - 1) + (k : Int) * (-1)).toNat]?).toArray = items.toList.reverse.toArray := by
  have h := PySem.W.krv_pick items
  unfold slicePick at h
  rw [PySem.W.krv_bounds] at h
  rw [← h]
  show _ = ((sliceRange ((items.size : Int) - 1) (-1) (-1)).filterMap (items[·]?)).toArray
  rw [PySem.W.krv_sliceRange, List.filterMap_map]
  congr 1
  have e : ∀ l : List Nat, (∀ k ∈ l, k < items.size) → l.filterMap (fun (k : Nat) => items[(((items.size : Int) - 1) + (k : Int) * (-1)).toNat]?) = l.filterMap ((fun x => items[x]?) ∘ fun k => items.size - 1 - k) := by
    intro l
    induction l with
    | nil => intro _; rfl
    | cons a l ih =>
      intro hl
      have ha := hl a List.mem_cons_self
      have e1 : (((items.size : Int) - 1) + (a : Int) * (-1)).toNat = items.size - 1 - a := by omega
      have q := ih fun k hk => hl k (List.mem_cons_of_mem _ hk)
      rw [List.filterMap_cons, List.filterMap_cons, e1, q]
      rfl
  exact e _ fun k hk => List.mem_range.mp hk
theorem getItem_tuple_rev {t sl : Addr} {items : Array Value} {tk : Tok} {Q : Value → Shared → Prop} (ht : IsTup s.heap t items) (hs : s.heap.IsSliceOf sl .none .none (.int (-1) tk))
    (h : Q (.ref s.heap.objs.size) { s with heap := s.heap.push { cls := .type "tuple", data := .seq items.toList.reverse.toArray } })
    (hsz : items.size ≤ sizeLine) : wpAny (model prog w) A (getItem (.ref t) (.ref sl)) Q E s := by
  have htake : sizeOk (.seq items.toList.reverse.toArray) := by
    show items.toList.reverse.toArray.size ≤ sizeLine
    rw [List.size_toArray, List.length_reverse, Array.length_toList]
    exact hsz
  obtain ⟨os, hos, hcs, hds⟩ := id hs
  have hTs : s.TypeIs (.ref sl) "slice" := ⟨os, hos, hcs⟩
  unfold getItem
  try with_reducible refine wpAny_holding ?_
  first | refine wpAny_bind (wpAny_pure ?_) | skip
  refine wpAny_bind (wpAny_sequenceKey ht.typeIs (by decide) ?_)
  refine wpAny_bind (wpAny_callSpecial?_slot (name := Str.ofString "__getitem__") ht.typeIs PyProof.Rows.slot_tuple_getitem
    (wpAny_call_entry PyProof.Rows.slot_tuple_getitem ht.typeIs entry_tuple_getitem ?_ (args_tuple_getitem _ _)))
  show wpAny _ _ (Builtin.Tuple.tupleItemsOf (.ref t) >>= _) _ _ s
  refine wpAny_bind (tupleItemsOf_ ht ?_)
  refine wpAny_bind (wpAny_typeOf hTs ?_)
  rw [if_pos (by decide)]
  have sa : ∀ {A : Around} {E : Value → Shared → Prop} {Q : Int × Int × Nat → Shared → Prop}, Q (((items.size : Int) - 1), -1, items.size) s → wpAny (model prog w) A (Builtin.Slice.sliceApplied (.ref sl) (pure (items.size : Int))) Q E s := by
    intro A E Q h
    unfold Builtin.Slice.sliceApplied Builtin.Slice.sliceFields
    refine wpAny_bind (wpAny_bind (wpAny_field hos hds (x := .none) rfl (wpAny_bind (wpAny_field hos hds (x := .none) rfl (wpAny_bind (wpAny_field hos hds (x := .int (-1) tk) rfl (wpAny_pure ?_)))))))
    refine wpAny_bind (slicePart_int ?_)
    show wpAny _ _ (if ((-1 : Int) == 0) = true then _ else _) _ _ s
    rw [if_neg (by decide)]
    refine wpAny_bind (slicePart_none (wpAny_bind (slicePart_none (wpAny_bind (wpAny_pure ?_)))))
    show wpAny _ _ (pure (((items.size : Int) - 1), (-1 : Int), Builtin.Slice.slicePlaces ((items.size : Int) - 1) (-1) (-1))) _ _ s
    have e : Builtin.Slice.slicePlaces ((items.size : Int) - 1) (-1) (-1) = items.size := by
      unfold Builtin.Slice.slicePlaces
      have h1 : ¬ ((-1 : Int) > 0) := by decide
      simp only [h1, if_false]
      rw [show (- -1 : Int) = 1 by decide, Int.ediv_one]
      split <;> omega
    rw [e]
    exact wpAny_pure h
  refine wpAny_bind (sa ?_)
  have hno : ¬ ((((items.size : Int) - 1) == 0 && (-1 : Int) == 1 && items.size == items.size) = true) := by
    intro q
    rw [Bool.and_eq_true, Bool.and_eq_true] at q
    exact absurd (eq_of_beq q.1.2) (by decide)
  show wpAny _ _ (if (((items.size : Int) - 1) == 0 && (-1 : Int) == 1 && items.size == items.size) = true then _ else _) _ _ s
  rw [if_neg hno, rev_pick]
  first
    | exact wpAny_bind (m := Builtin.Tuple.tupleExact _) (wpAny_newObj_type (wpAny_pure ⟨_, rfl, wpAny_pure h⟩) htake)
    | exact wpAny_bind (m := Builtin.Tuple.tupleExact _) (wpAny_newObj_type (wpAny_bind (wpAny_pure (wpAny_pure ⟨_, rfl, wpAny_pure h⟩))) htake)
    | exact wpAny_bind (wpAny_bind (m := Builtin.Tuple.tupleExact _) (wpAny_newObj_type (wpAny_pure (wpAny_pure ⟨_, rfl, wpAny_pure h⟩)) htake))
    | exact wpAny_bind (wpAny_bind (m := Builtin.Tuple.tupleExact _) (wpAny_newObj_type (wpAny_pure ⟨_, rfl, wpAny_pure h⟩) htake))
end
end HT
namespace L2
open PySem PySem.Spec PyProof.Rows
section
variable {X : Cx}
/-- t[::-1] -/
def tRevT (K : PySem.W.Frag) (te : TE) : TE := fun σ H Q => te σ H fun x H1 => ∃ a xs, x = .ref a ∧ SqT K H1 a xs ∧ ∀ p, H1 p = none → Q (.ref p) (upd H1 p (.tup xs.reverse))
theorem pe_revT {e : Expr} {te : TE} {k : Nat} {p1 p2 p3 pos : Pos} (he : PE X e te) : PE X (.Subscript e (.Slice none none (some (.UnaryOp .USub (.Constant (.int 1) k p1) p2)) p3) pos) (tRevT X.K te) := by
  refine ⟨fun pins s σ H Q I h => ?_⟩
  refine Subscript_ (thn (he.run pins s σ H _ I h) fun v s1 ⟨x, H1, I1, r1, q1⟩ => ?_)
  obtain ⟨a, xs, ex, hx, q⟩ := q1
  subst ex
  cases r1
  have hst : PO X (some (.UnaryOp .USub (.Constant (.int 1) k p1) p2)) (tPart (tUn (rU fun i => .int (-i)) (tC (.int 1)))) := po_some (pe_un un_neg pe_int)
  refine wpAny_Slice (thn (po_none.run pins s1 σ H1 (fun o H2 => o = none ∧ H2 = H1) I1 ⟨rfl, rfl⟩) fun vl s2 ⟨l, H2, I2, pl, el, e2⟩ => ?_)
  subst el e2
  refine thn (po_none.run pins s2 σ H2 (fun o H3 => o = none ∧ H3 = H2) I2 ⟨rfl, rfl⟩) fun vu s3 ⟨u, H3, I3, pu, eu, e3⟩ => ?_
  subst eu e3
  refine thn (hst.run pins s3 σ H3 (fun o H4 => o = some (-1) ∧ H4 = H3) I3 ⟨1, rfl, -1, rfl, rfl, rfl⟩) fun vs s4 ⟨o, H4, I4, ps, eo, e4⟩ => ?_
  subst eo e4
  have I5 : Inv X pins σ H4 { s4 with heap := s4.heap.push { cls := .type "slice", data := .fields #[vl, vu, vs] } } := I4.kept (t' := s4.toks) fun b ob q => Heap.get?_push_of_some _ q
  obtain ⟨its, r, ht, hz⟩ := I5.tuple hx
  have hlen := r.length
  cases pl
  cases pu
  cases ps with
  | int _ tk =>
    show wpAny (model X.prog X.w) X.A (subscriptTail e (.Slice none none (some (.UnaryOp .USub (.Constant (.int 1) k p1) p2)) p3) (.ref a) (.ref s4.heap.objs.size)) (EP X pins σ Q) X.xe { s4 with heap := s4.heap.push { cls := .type "slice", data := .fields #[.none, .none, .int (-1) tk] } }
    refine tail_any (ops := [.ref a, .ref s4.heap.objs.size]) ht.typeIs (PyProof.Rows.slot_tuple_getitem.lookup) ?_ (by with_unfolding_all rfl)
    refine HT.getItem_tuple_rev ht (Heap.IsSliceOf.new _ .none .none (.int (-1) tk)) ?_ (by rw [List.size_toArray]; omega)
    refine ⟨.ref _, _, I5.laid (t' := s4.toks) (o := .tup xs.reverse) (fun b ob q => Heap.get?_push_of_some _ q) (Nat.le_refl _) ?_, rfl, q _ (I5.hok.fresh (Nat.le_refl _))⟩
    refine ⟨by rw [List.length_reverse]; exact hz, _, r.reverse, ?_⟩
    exact IsTup.new _ _
end
end L2
/-! S2 -/
set_option Elab.async false
set_option linter.all false
set_option maxRecDepth 100000
set_option maxHeartbeats 2000000
namespace HT
open PySem PySem.Spec PyProof.Rows
theorem meets_enumerate_newT (l : Addr) (items : Array Value) (n : Nat) (dct : Option Addr) (sl : Array (Option Value)) :
    Meets (Builtin.«enumerate.__new__» ⟨[.type "enumerate", .ref l], []⟩) (fun _ R s => s.heap.get? l = some { cls := .type "tuple", dict := dct, data := .seq items n, slots := sl } ∧
      R (.ok (.ret (.ref (s.heap.push { cls := .type "tuple_iterator", data := .fields #[.ref l, .int 0 0] }).objs.size)))
        { s with heap := (s.heap.push { cls := .type "tuple_iterator", data := .fields #[.ref l, .int 0 0] }).push { cls := .type "enumerate", data := .fields #[.none, .bool false, .ref s.heap.objs.size, rawInt 0, .none, .none] } }) :=
  .of_wp fun prog w A R s h => by
    obtain ⟨hp, g, d, tk, os⟩ := s; obtain ⟨hl, h⟩ := h
    have hsub := sub_enumerate
    have hL : Heap.IsTuple (Shared.heap ⟨hp, g, d, tk, os⟩) l items := ⟨_, hl, rfl, n, rfl⟩
    wp_walk using wpAny_loadPart' hl
    refine wpAny_stack_any fun st => wpAny_pure ?_
    split
    · rename_i c _ _ _ _ _
      cases (c == Value.type "enumerate")
      · wp_walk using wpAny_loadPart' hl, wpAny_pyIter_tuple hL
        exact ⟨_, rfl, h⟩
      · wp_walk using wpAny_loadPart' hl, wpAny_pyIter_tuple hL
        exact ⟨_, rfl, h⟩
    · wp_walk using wpAny_loadPart' hl, wpAny_pyIter_tuple hL
      exact ⟨_, rfl, h⟩
end HT
namespace HT
open PySem PySem.Spec PyProof.Rows
section
variable {prog : Program} {w : World} {A : Around} {E : Value → Shared → Prop} {s : Shared}
theorem call_enumerate_tup {l : Addr} {items : Array Value} {Q : Value → Shared → Prop} (hL : IsTup s.heap l items)
    (h : ∀ h', IsEnum h' (s.heap.objs.size + 1) s.heap.objs.size 0 .none → h'.IsTupleIter s.heap.objs.size l 0 → h'.objs.size = s.heap.objs.size + 2 →
      (∀ b o, s.heap.get? b = some o → h'.get? b = some o) → Q (.ref (s.heap.objs.size + 1)) { s with heap := h' }) :
    wpAny (model prog w) A (call (.type "enumerate") [.ref l]) Q E s := by
  obtain ⟨⟨c, dct, dt, sl⟩, hl, hc, n, hd⟩ := hL
  replace hc : c = .type "tuple" := hc
  replace hd : dt = .seq items n := hd
  subst hc hd
  refine callType_new F.called_enumerate (by decide) (F.typeCall_enumerate_1 _) (F.newCall_enumerate_1 _) (fun obj => F.args_object_init_2 obj _) F.entry_enumerate_new
    (meets_enumerate_newT l items n dct sl) ⟨hl, ?_⟩
  have hz : (s.heap.push { cls := .type "tuple_iterator", data := .fields #[.ref l, .int 0 0] }).objs.size = s.heap.objs.size + 1 := Heap.size_push ..
  show _ ∧ _
  rw [hz]
  have he : IsEnum ((s.heap.push { cls := .type "tuple_iterator", data := .fields #[.ref l, .int 0 0] }).push
      { cls := .type "enumerate", data := .fields #[.none, .bool false, .ref s.heap.objs.size, rawInt 0, .none, .none] }) (s.heap.objs.size + 1) s.heap.objs.size 0 .none := by
    have := Heap.get?_push_size (s.heap.push { cls := .type "tuple_iterator", data := .fields #[.ref l, .int 0 0] })
      (o := { cls := .type "enumerate", data := .fields #[.none, .bool false, .ref s.heap.objs.size, rawInt 0, .none, .none] }) rfl
    rw [hz] at this; exact this
  refine ⟨⟨_, he, rfl⟩, h _ he ⟨_, Heap.get?_push_of_some _ (Heap.get?_push_size _ rfl), rfl, rfl⟩ (by rw [Heap.size_push, hz]) fun b o x => Heap.get?_push_of_some _ (Heap.get?_push_of_some _ x)⟩
theorem nextOf_tup_item {it t : Addr} {i : Nat} {items : Array Value} {x : Value} {Q : Value → Shared → Prop} (hit : s.heap.IsTupleIter it t i) (ht : IsTup s.heap t items) (hx : items[i]? = some x)
    (hQ : ∀ h', h'.IsTupleIter it t (i + 1) → Heap.SameBut it s.heap h' → Q x { s with heap := h' }) :
    wpAny (model prog w) A (Builtin.SmallTypes.nextOf (.ref it)) Q E s := by
  obtain ⟨o, ho, hc, hd⟩ := id hit
  obtain ⟨ol, hol, _, nl, hdl⟩ := ht
  unfold Builtin.SmallTypes.nextOf
  refine wpAny_bind (wpAny_callSpecial?_slot (name := Str.ofString "__next__") hit.typeIs slot_tupleiter_next (wpAny_call_entry slot_tupleiter_next hit.typeIs entry_tupleiter_next ?_ (args_tupleiter_next _)))
  show wpAny _ _ (field (.ref it) 0 >>= _) _ _ s
  refine wpAny_bind (wpAny_field ho hd (x := .ref t) rfl ?_)
  show wpAny _ _ (if (Value.ref t == Value.none) = true then _ else _) _ _ s
  rw [if_neg (show ¬ ((Value.ref t == Value.none) = true) from Bool.false_ne_true)]
  show wpAny _ _ (field (.ref it) 1 >>= _) _ _ s
  refine wpAny_bind (wpAny_field ho hd (x := .int i 0) rfl ?_)
  show wpAny _ _ (seqItems? (.ref t) >>= _) _ _ s
  refine wpAny_bind (wpAny_seqItems hol hdl ?_)
  simp only [Int.toNat_natCast, hx]
  refine wpAny_bind (wpAny_setField ho hd (by simp) (wpAny_pure ⟨x, rfl, wpAny_pure (hQ _ ?_ (Heap.SameBut.update ..))⟩))
  exact ⟨_, Heap.get?_update_self _ ho (Obj.isFreed_of_fields (Obj.data_mapFields hd _)), (Obj.cls_mapFields ..).trans hc, by
    rw [Obj.data_mapFields hd]; simp [rawInt]⟩
theorem nextOf_tup_end {it t : Addr} {i : Nat} {items : Array Value} {Q : Value → Shared → Prop} (hh : A.handled = none) (hit : s.heap.IsTupleIter it t i) (ht : IsTup s.heap t items) (hx : items[i]? = none)
    (hE : ∀ h' e, Heap.ExtBut it s.heap h' → (∃ o, h'.get? e = some o ∧ o.cls = .type "StopIteration") → E (.ref e) { s with heap := h' }) :
    wpAny (model prog w) A (Builtin.SmallTypes.nextOf (.ref it)) Q E s := by
  obtain ⟨o, ho, hc, hd⟩ := id hit
  obtain ⟨ol, hol, _, nl, hdl⟩ := ht
  unfold Builtin.SmallTypes.nextOf
  refine wpAny_bind (wpAny_callSpecial?_slot (name := Str.ofString "__next__") hit.typeIs slot_tupleiter_next (wpAny_call_entry slot_tupleiter_next hit.typeIs entry_tupleiter_next ?_ (args_tupleiter_next _)))
  show wpAny _ _ (field (.ref it) 0 >>= _) _ _ s
  refine wpAny_bind (wpAny_field ho hd (x := .ref t) rfl ?_)
  show wpAny _ _ (if (Value.ref t == Value.none) = true then _ else _) _ _ s
  rw [if_neg (show ¬ ((Value.ref t == Value.none) = true) from Bool.false_ne_true)]
  show wpAny _ _ (field (.ref it) 1 >>= _) _ _ s
  refine wpAny_bind (wpAny_field ho hd (x := .int i 0) rfl ?_)
  show wpAny _ _ (seqItems? (.ref t) >>= _) _ _ s
  refine wpAny_bind (wpAny_seqItems hol hdl ?_)
  simp only [Int.toNat_natCast, hx]
  refine wpAny_bind (wpAny_rule (wpAny_bind (wpAny_setField ho hd (by simp) ?_)))
  show wpAny _ _ (newExc (.type "StopIteration") [] >>= _) _ _ _
  refine wpAny_bind ?_
  simp only [newExc, newTuple]
  refine wpAny_bind (wpAny_newObj_type ?_ (by size_fits))
  refine wpAny_bind (m := firstArgMember _ _) (wpAny_of_eq (a := Value.none) (by first | rfl | (simp only [firstArgMember]; rfl)) ?_)
  refine wpAny_newObj_type ?_ (by size_fits)
  simp only [raiseNew]
  refine wpAny_bind (wpAny_handled ?_)
  first | rw [show A.in1.handled = none from hh] | rw [hh]
  refine wpAny_bind (wpAny_pure (wpAny_throw ?_))
  exact hE _ _ (((Heap.SameBut.update ..).extBut.push _).push _) ⟨_, Heap.get?_push_size _ rfl, rfl⟩
end
theorem draws_tup {prog : Program} {w : World} {A : Around} (hh : A.handled = none) (it l : Addr) (hne : l ≠ it) (items : Array Value) :
    Draws prog w A it [it, l] items.size (fun i v => items[i]? = some v) (fun i h => h.IsTupleIter it l i ∧ IsTup h l items) where
  live := fun _ _ st => let ⟨o, ho, _⟩ := st.1; ⟨o, ho⟩
  frame := fun _ _ _ st hk => ⟨let ⟨o, ho, r⟩ := st.1; ⟨o, hk it (by simp) o ho, r⟩, let ⟨o, ho, r⟩ := st.2; ⟨o, hk l (by simp) o ho, r⟩⟩
  item := fun i s Q E hi st hQ => by
    refine nextOf_tup_item st.1 st.2 (x := items[i]) (by simp [hi]) fun h' hit' hs' => ?_
    exact hQ _ h' s.toks (by simp [hi]) ⟨hit', let ⟨o, ho, r⟩ := st.2; ⟨o, hs'.2 l hne ▸ ho, r⟩⟩ hs'
  done := fun s Q E st hE => nextOf_tup_end hh st.1 st.2 (by simp) hE
end HT
/-! S3 -/
set_option Elab.async false
set_option linter.all false
set_option maxRecDepth 100000
set_option maxHeartbeats 2000000
namespace L2
open PySem PySem.Spec PyProof.Rows
/-- the tuple at a as it stands at each turn, each item in a new pair -/
def IteT (K : PySem.W.Frag) (a : Addr) : It :=
  ⟨fun i H => ∃ (xs : List V) (x : V), SqT K H a xs ∧ xs[i]? = some x, fun i H v H' => ∃ T x, v = .ref T ∧ H T = none ∧ H' = upd H T (.tup [.int (i : Nat), x]) ∧ ∀ xs, SqT K H a xs → xs[i]? = some x, fun i H => ∃ xs : List V, SqT K H a xs ∧ xs.length ≤ i⟩
theorem turn_enumT {P : Program} {w : World} {K : PySem.W.Frag} {elts : List Expr} {kk : Nat} {tpos : Pos} (a e it : Addr) :
    Turn P w K (.Tuple elts kk tpos) (IteT K a) [e, it] e (fun i h => (∃ old, IsEnum h e it ((i : Nat) : Int) old) ∧ h.IsTupleIter it a i ∧ e ≠ it) where
  mem := by simp
  obj := fun i h st b hb => by
    obtain ⟨⟨old, he⟩, ⟨o, ho, hc, hd⟩, _⟩ := st
    have e' : b = e ∨ b = it := by simpa using hb
    rcases e' with z | z
    · rw [z]; exact ⟨_, he, fun v q => nomatch q⟩
    · rw [z]; exact ⟨o, ho, fun v q => by rw [hd] at q; cases q⟩
  keep := fun i h h' st k => let ⟨⟨old, he⟩, ⟨o, ho, r⟩, hne⟩ := st; ⟨⟨old, k e (by simp) _ he⟩, ⟨o, k it (by simp) o ho, r⟩, hne⟩
  item := by
    intro X hP hw hK hc i pins s σ H E I hf st hg
    subst hP hw hK
    obtain ⟨⟨old, he⟩, hit, hne⟩ := st
    obtain ⟨xs, x, hq, hx⟩ := hg
    obtain ⟨its, rv, p, hz⟩ := I.tuple hq
    obtain ⟨u, hu, ru⟩ := rv.get hx
    have hel : e < s.heap.objs.size := Heap.lt_size he
    have hil : it < s.heap.objs.size := by obtain ⟨_, q, _⟩ := hit; exact Heap.lt_size q
    have hae : a ≠ it := fun z => by
      obtain ⟨o, ho, c, _⟩ := hit
      obtain ⟨o', ho', c', _⟩ := p
      rw [z, ho] at ho'
      cases ho'
      rw [c] at c'
      exact absurd (Value.type.inj c') (by decide)
    have haE : e ∉ [it, a] := fun z => by
      have z' : e = it ∨ e = a := by simpa using z
      rcases z' with z | z
      · exact hne z
      · obtain ⟨o', ho', c', _⟩ := p
        have he' : s.heap.get? e = some _ := he
        rw [z, ho'] at he'
        have c2 := Option.some.inj he'
        rw [c2] at c'
        exact absurd (Value.type.inj c') (by decide)
    have hil2 : i < its.toArray.size := by
      rw [List.size_toArray]
      exact (List.getElem?_eq_some_iff.mp hu).1
    have D := HT.draws_tup (prog := X.prog) (w := X.w) (A := X.A.in1) (I.ok.hd hc) it a hae its.toArray
    refine wpAny_pyNext_enum_itemD D he ⟨hit, p⟩ hil2 hne haE fun y h' tk hy ho hit' hT hsz hk => ?_
    have ey : y = u := by
      have hy' : its.toArray[i]? = some y := hy
      rw [List.getElem?_toArray, hu] at hy'
      exact (Option.some.inj hy').symm
    subst ey
    have ho' : IsEnumOut h' e it ((i : Int) + 1) y s.heap.objs.size := ho
    refine ⟨_, rfl, wpAny_letOwnedTupleGo_enum (s := { s with heap := h', toks := tk + 1 }) ho' fun h'' he' sb => ?_⟩
    have hT2 : h''.get? s.heap.objs.size = some { cls := .type "tuple", data := .seq #[.int i tk, y] } := (sb.2 _ (Nat.ne_of_gt hel)).trans hT
    have new : ObjOk X.prog X.w (upd H s.heap.objs.size (.tup [.int (i : Nat), x])) h'' s.heap.objs.size (.tup [.int (i : Nat), x]) :=
      ⟨by show 2 ≤ sizeLine; decide, [.int i tk, y], .cons ⟨_, rfl⟩ (.cons ru .nil), ⟨_, hT2, rfl, _, rfl⟩⟩
    have I1 : Inv X pins σ (upd H s.heap.objs.size (.tup [.int (i : Nat), x])) { s with heap := h'', toks := tk + 1 } :=
      I.turnedNew (ch := [e, it]) (fun b ob hb q => (sb.2 b (fun z => hb (by simp [z]))).trans (hk b ob (fun z => hb (by simp [z])) (fun z => hb (by simp [z])) q)) hf (Nat.le_refl _) new
    refine ⟨.ref s.heap.objs.size, _, I1, rfl, ⟨_, x, rfl, I.hok.fresh (Nat.le_refl _), rfl, fun ys hy => by rw [I.tuple_inj hy hq]; exact hx⟩, ⟨⟨y, ?_⟩, ?_, hne⟩, fun b hb => ?_⟩
    · have e1 : ((i + 1 : Nat) : Int) = (i : Int) + 1 := by omega
      rw [e1]; exact he'
    · obtain ⟨o, ho2, r⟩ := hit'.1
      exact ⟨o, (sb.2 it (Ne.symm hne)).trans ho2, r⟩
    · have hb' : b < s.heap.objs.size := by
        have e' : b = e ∨ b = it := by simpa using hb
        rcases e' with z | z
        · rw [z]; exact hel
        · rw [z]; exact hil
      rw [upd_ne (Nat.ne_of_lt hb')]
      exact (hf b hb).1
  done := by
    intro X hP hw hK hc i pins s σ H E I hf st hg
    subst hP hw hK
    obtain ⟨⟨old, he⟩, hit, hne⟩ := st
    obtain ⟨xs, hq, hx⟩ := hg
    obtain ⟨its, rv, p, hz⟩ := I.tuple hq
    obtain ⟨f0, f1, f2, f3, f4, f5⟩ := hf it (by simp)
    have hl := rv.length
    have hT : s.TypeIs (.ref e) "enumerate" := ⟨_, he, rfl⟩
    unfold pyNext
    refine wpAny_bind (wpAny_attempt (wpAny_callSpecial?_slot (name := Str.ofString "__next__") hT F.slot_enumerate_next
      (wpAny_call_entry F.slot_enumerate_next hT F.entry_enumerate_next ?_ (F.args_enumerate_next_1 _))))
    show wpAny _ _ (field (.ref e) 2 >>= _) _ _ _
    refine wpAny_bind (wpAny_field he rfl (x := .ref it) rfl ?_)
    have hno : its.toArray[i]? = none := by rw [List.getElem?_toArray]; exact List.getElem?_eq_none (by omega)
    refine wpAny_bind (HT.nextOf_tup_end (I.ok.hd hc) hit p hno fun h' x he' hx' => ?_)
    obtain ⟨o, ho, hc⟩ := hx'
    refine wpAny_bind (wpAny_isInstance (T := "StopIteration") (b := true) ⟨o, ho, hc⟩ isSubtype_stop ?_)
    exact wpAny_pure ⟨rfl, I.turned (t' := s.toks) (fun b o hb q => he' b o hb q) f0 f1 f3 f4 f5⟩
  self := fun A i s Q E st h => let ⟨⟨_, he⟩, _⟩ := st; wpAny_pyIter_enum he h
def iEnumT (K : PySem.W.Frag) (ta : TA) : TI := fun σ H R => ta σ H fun vs H1 => ∃ a xs, vs = [.ref a] ∧ SqT K H1 a xs ∧ R (IteT K a) H1
theorem pi_enumT {X : Cx} {e : Expr} {ta : TA} {p pos tpos : Pos} {elts : List Expr} {kk : Nat} (hg : Gl X "enumerate") (hm : X.mg "enumerate" = none) (ha : PA X [e] ta) (hs : starEach [e] X.env = [(false, eval e X.env)] := by rfl) :
    PI X (.Tuple elts kk tpos) (.Call (.Name "enumerate" p) [e] [] pos) (iEnumT X.K ta) := by
  refine ⟨fun pins s σ H R I h => ?_⟩
  refine Call_ (ld_blt I hg hm boot_enumerate (PyProof.Rows.callWith_type1 (thn (ha.run pos pins s σ H _ I h) fun us s1 ⟨vs, H1, I1, r1, q1⟩ => ?_) hs rfl))
  obtain ⟨a, xs, ex, hq, q⟩ := q1
  subst ex
  cases r1 with
  | cons r rr =>
    cases rr
    cases r
    obtain ⟨its, rv, p', hz⟩ := I1.tuple hq
    refine HT.call_enumerate_tup p' fun h' he hit hsz hk => wpAny_pyIter_enum he ?_
    have I2 : Inv X pins σ H1 { s1 with heap := h' } := I1.kept (t' := s1.toks) hk
    refine ⟨s1.heap.objs.size + 1, [s1.heap.objs.size + 1, s1.heap.objs.size], _, _, H1, rfl, I2, turn_enumT a (s1.heap.objs.size + 1) s1.heap.objs.size, ⟨⟨.none, he⟩, hit, Nat.succ_ne_self _⟩, fun b hb => ?_, q⟩
    have e' : b = s1.heap.objs.size + 1 ∨ b = s1.heap.objs.size := by simpa using hb
    have hle : s1.heap.objs.size ≤ b := by
      rcases e' with z | z
      · rw [z]; exact Nat.le_add_right _ _
      · rw [z]; exact Nat.le_refl _
    exact I1.fpOk hle (I1.hok.fresh hle)
end L2
/-! S4 -/
set_option Elab.async false
set_option linter.all false
set_option maxRecDepth 100000
set_option maxHeartbeats 2000000
namespace RL
open PySem PySem.Spec PyProof.Rows L2
theorem same_upd {H : Hp} {p : Addr} (h : H p = none) (o : HO) : Same H (upd H p o) := fun b u q => by rw [upd_ne (ne_of_none q h)]; exact q
theorem Same.sqt {K : PySem.W.Frag} {H H' : Hp} {a : Addr} {xs : List V} (e : Same H H') (h : SqT K H a xs) : SqT K H' a xs := by
  rcases h with (h | ⟨o, h⟩) | h
  · exact .inl (.inl (e _ _ h))
  · exact .inl (.inr ⟨o, e _ _ h⟩)
  · exact .inr h
/-- a tuple of xs is handed on, all that was tracked stands -/
def NewT (K : PySem.W.Frag) (H : Hp) (Q : VK) (xs : List V) : Prop := ∀ H' p, Same H H' → SqT K H' p xs → Q (.ref p) H'
theorem NewT.al {K : PySem.W.Frag} {H : Hp} {Q : VK} {xs : List V} (h : NewT K H Q xs) : ∀ p, H p = none → Q (.ref p) (upd H p (.tup xs)) := fun p hp => h _ p (same_upd hp _) (SqT.of upd_same)
theorem NewT.here {K : PySem.W.Frag} {H : Hp} {Q : VK} {xs : List V} (h : NewT K H Q xs) {a : Addr} (ha : SqT K H a xs) : Q (.ref a) H := h H a (Same.refl H) ha
/-- a new list -/
def NewL (H : Hp) (Q : VK) (xs : List V) : Prop := ∀ H' p, Same H H' → H p = none → H' p = some (.lst xs) → Q (.ref p) H'
theorem NewL.al {H : Hp} {Q : VK} {xs : List V} (h : NewL H Q xs) : ∀ p, H p = none → Q (.ref p) (upd H p (.lst xs)) := fun p hp => h _ p (same_upd hp _) hp upd_same

section
variable {X : Cx}
theorem pe_weak {e : Expr} {t t' : TE} (h : PE X e t) (k : ∀ σ H Q, t' σ H Q → t σ H Q) : PE X e t' := ⟨fun pins s σ H Q I q => h.run pins s σ H Q I (k σ H Q q)⟩
theorem opr_weak {f : Value → Value → Sem Value} {r r' : R2} (h : OpR X f r) (k : ∀ x y H Q, r' x y H Q → r x y H Q) : OpR X f r' := fun pins s σ H x y v u Q I rx ry q => h pins s σ H x y v u Q I rx ry (k x y H Q q)
theorem callr_weak {f : Value} {r r' : List V → Hp → VK → Prop} (h : CallR X f r) (k : ∀ xs H Q, r' xs H Q → r xs H Q) : CallR X f r' := fun pins s σ H vs us Q I r q => h pins s σ H vs us Q I r (k _ _ _ q)
theorem slr_weak {r r' : V → Option Int → Option Int → Hp → VK → Prop} (h : SlR X r) (k : ∀ x lo hi H Q, r' x lo hi H Q → r x lo hi H Q) : SlR X r' := fun pins s σ H x v vl vu lo hi sl Q I rx hs pl pu q => h pins s σ H x v vl vu lo hi sl Q I rx hs pl pu (k _ _ _ _ _ q)
/-- a reading whose wish may be weakened -/
def upE (te : TE) : TE := fun σ H Q => ∃ Q0 : VK, te σ H Q0 ∧ ∀ x H1, Q0 x H1 → Q x H1
theorem pe_up {e : Expr} {te : TE} (he : PE X e te) : PE X e (upE te) := ⟨fun pins s σ H Q I q => by
    obtain ⟨Q0, h0, h1⟩ := q
    exact thn (he.run pins s σ H Q0 I h0) fun v s1 ⟨x, H1, I1, r1, q1⟩ => ⟨x, H1, I1, r1, h1 _ _ q1⟩⟩
def upA (t : TA) : TA := fun σ H Q => ∃ Q0 : List V → Hp → Prop, t σ H Q0 ∧ ∀ x H1, Q0 x H1 → Q x H1
theorem pa_up {es : List Expr} {t : TA} (h : PA X es t) : PA X es (upA t) := ⟨fun pos pins s σ H Q I q => by
    obtain ⟨Q0, h0, h1⟩ := q
    exact thn (h.run pos pins s σ H Q0 I h0) fun v s1 ⟨x, H1, I1, r1, q1⟩ => ⟨x, H1, I1, r1, h1 _ _ q1⟩⟩
/-- t + u -/
def rCatS (K : PySem.W.Frag) : R2 := fun x y H Q => ∃ a b xs ys, x = .ref a ∧ y = .ref b ∧ SqT K H a xs ∧ SqT K H b ys ∧ xs.length + ys.length ≤ sizeLine ∧ NewT K H Q (xs ++ ys)
theorem op_catS : OpR X (binaryOp .Add) (rCatS X.K) := opr_weak op_catA fun x y H Q h => by
  obtain ⟨a, b, xs, ys, ex, ey, hx, hy, hz, q⟩ := h
  refine ⟨a, b, xs, ys, ex, ey, hx, hy, hz, fun e => ?_, fun _ e => ?_, fun _ _ => q.al⟩
  · subst e
    exact q.here hy
  · subst e
    rw [List.append_nil] at q
    exact q.here hx
/-- t[i:j] -/
def rSlU (K : PySem.W.Frag) : V → Option Int → Option Int → Hp → VK → Prop := fun x lo hi H Q => ∃ a xs, x = .ref a ∧ SqT K H a xs ∧ NewT K H Q (cutV xs lo hi)
theorem cut_whole {xs : List V} {lo hi : Option Int} (h : HT.sIx xs.length 0 lo = 0 ∧ HT.sIx xs.length xs.length hi = xs.length) : cutV xs lo hi = xs := by
  unfold cutV
  rw [h.1, h.2]
  simp
theorem sl_tupU : SlR X (rSlU X.K) := slr_weak sl_tupA fun x lo hi H Q h => by
  obtain ⟨a, xs, ex, hx, q⟩ := h
  refine ⟨a, xs, ex, hx, fun e => ?_, fun _ => q.al⟩
  rw [cut_whole e] at q
  exact q.here hx
/-- t[::-1] -/
def tRevS (K : PySem.W.Frag) (te : TE) : TE := fun σ H Q => te σ H fun x H1 => ∃ a xs, x = .ref a ∧ SqT K H1 a xs ∧ NewT K H1 Q xs.reverse
theorem pe_revS {e : Expr} {te : TE} {k : Nat} {p1 p2 p3 pos : Pos} (he : PE X e te) : PE X (.Subscript e (.Slice none none (some (.UnaryOp .USub (.Constant (.int 1) k p1) p2)) p3) pos) (tRevS X.K te) :=
  pe_weak (pe_revT (pe_up he)) fun σ H Q q => ⟨_, q, fun x H1 ⟨a, xs, ex, hx, n⟩ => ⟨a, xs, ex, hx, n.al⟩⟩
/-- (a, b, ..), [a, b, ..] -/
def tTupS (K : PySem.W.Frag) (t : TA) : TE := fun σ H Q => t σ H fun xs H1 => xs.length ≤ sizeLine ∧ NewT K H1 Q xs
theorem pe_tupS {es : List Expr} {t : TA} {x1} {pos : Pos} (h : PA X es t) : PE X (.Tuple es x1 pos) (tTupS X.K t) :=
  pe_weak (pe_tup (pa_up h)) fun σ H Q q => ⟨_, q, fun x H1 ⟨z, n⟩ => ⟨z, n.al⟩⟩
def tLstS (t : TA) : TE := fun σ H Q => t σ H fun xs H1 => xs.length ≤ sizeLine ∧ NewL H1 Q xs
theorem pe_lstS {es : List Expr} {t : TA} {pos : Pos} (h : PA X es t) : PE X (.List es pos) (tLstS t) :=
  pe_weak (pe_lst (pa_up h)) fun σ H Q q => ⟨_, q, fun x H1 ⟨z, n⟩ => ⟨z, n.al⟩⟩
/-- xs + ys, xs * k of lists -/
def rCatL : R2 := fun x y H Q => ∃ l b xs zs, x = .ref l ∧ y = .ref b ∧ H l = some (.lst xs) ∧ H b = some (.lst zs) ∧ xs.length + zs.length ≤ sizeLine ∧ NewL H Q (xs ++ zs)
theorem op_catL : OpR X (binaryOp .Add) rCatL := opr_weak op_cat fun x y H Q ⟨l, b, xs, zs, h1, h2, h3, h4, h5, q⟩ => ⟨l, b, xs, zs, h1, h2, h3, h4, h5, q.al⟩
def rRepL : R2 := fun x y H Q => ∃ l k xs, x = .ref l ∧ y = .int k ∧ H l = some (.lst xs) ∧ -(2 ^ 63) ≤ k ∧ k < 2 ^ 63 ∧ xs.length * k.toNat ≤ sizeLine ∧ NewL H Q (List.replicate k.toNat xs).flatten
theorem op_repL : OpR X (binaryOp .Mult) rRepL := opr_weak op_rep fun x y H Q ⟨l, k, xs, h1, h2, h3, h4, h5, h6, q⟩ => ⟨l, k, xs, h1, h2, h3, h4, h5, h6, q.al⟩
/-- xs[i:j] of lists -/
def rSlV (K : PySem.W.Frag) : V → Option Int → Option Int → Hp → VK → Prop := fun x lo hi H Q => ∃ a xs, x = .ref a ∧ SqL K H a xs ∧ NewL H Q (cutV xs lo hi)
theorem sl_lstU : SlR X (rSlV X.K) := slr_weak sl_list fun x lo hi H Q ⟨a, xs, ex, hx, q⟩ => ⟨a, xs, ex, hx, q.al⟩
/-- tuple(xs), list(xs) -/
def rTupOf (K : PySem.W.Frag) : List V → Hp → VK → Prop := fun vs H Q => ∃ p ys, vs = [.ref p] ∧ (SqL K H p ys ∨ SqT K H p ys) ∧ NewT K H Q ys
theorem call_tupS : CallR X (.type "tuple") (rTupOf X.K) := callr_weak call_tuple_of fun vs H Q ⟨p, ys, e, h, q⟩ => ⟨p, ys, e, h.elim (fun h => .inl ⟨h, q.al⟩) (fun h => .inr ⟨h, q.here h⟩)⟩
def rLstOf (K : PySem.W.Frag) : List V → Hp → VK → Prop := fun vs H Q => ∃ p ys, vs = [.ref p] ∧ (SqL K H p ys ∨ SqT K H p ys) ∧ NewL H Q ys
theorem call_lstS : CallR X (.type "list") (rLstOf X.K) := callr_weak call_list_of fun vs H Q ⟨p, ys, e, h, q⟩ => ⟨p, ys, e, h, q.al⟩
def rDivmod (K : PySem.W.Frag) : List V → Hp → VK → Prop := fun vs H Q => ∃ i j, vs = [.int i, .int j] ∧ CDivP i j ∧ NewT K H Q [.int (i / j), .int (i % j)]
theorem call_divmodS : CallR X (.builtin "divmod") (rDivmod X.K) := callr_weak call_divmodW fun vs H Q ⟨i, j, e, c, q⟩ => ⟨i, j, e, c, q.al⟩
end
end RL
/-! S5 -/
set_option Elab.async false
set_option linter.all false
set_option maxRecDepth 100000
set_option maxHeartbeats 2000000
namespace RL
open PySem PySem.Spec PyProof.Rows L2
theorem tuple_mul0 (l : Addr) (items : Array Value) (n : Nat) (dd : Option Addr) (sl : Array (Option Value)) (x : Int) (u : Tok) (c0 : (decide (x < -(2 ^ 63)) || decide (x ≥ 2 ^ 63)) = false) (c1 : (items.isEmpty || x == 1) = false) (c2 : (decide (x ≤ 0) || items.isEmpty) = true) :
    Meets (Builtin.«tuple.__mul__» ⟨[.ref l, .int x u], []⟩) (fun _ R s => s.heap.get? l = some { cls := .type "tuple", dict := dd, data := .seq items n, slots := sl } ∧
      R (.ok (.ret (Value.ref s.heap.objs.size))) { s with heap := s.heap.push { cls := Value.type "tuple", data := Data.seq #[] }, toks := s.toks }) :=
  .of_wp fun prog w A R s h => by
    obtain ⟨hp, g, d, tk, os⟩ := s
    obtain ⟨hl, h⟩ := h
    have f1 := AutoSeq1.idx_int
    wp_walk using wpAny_loadPart' hl
    repeat (first
      | (refine wpAny_ite_false (decide_eq_false (by rw [c0]; exact Bool.false_ne_true)) ?_; wp_walk using wpAny_loadPart' hl)
      | (refine wpAny_ite_false (decide_eq_false (by rw [c1]; exact Bool.false_ne_true)) ?_; wp_walk using wpAny_loadPart' hl)
      | (refine wpAny_ite_true (decide_eq_true c2) ?_; wp_walk using wpAny_loadPart' hl))
    exact ⟨_, rfl, h⟩
theorem tuple_mul1 (l : Addr) (items : Array Value) (n : Nat) (dd : Option Addr) (sl : Array (Option Value)) (x : Int) (u : Tok) (c0 : (decide (x < -(2 ^ 63)) || decide (x ≥ 2 ^ 63)) = false) (c1 : (items.isEmpty || x == 1) = true) :
    Meets (Builtin.«tuple.__mul__» ⟨[.ref l, .int x u], []⟩) (fun _ R s => s.heap.get? l = some { cls := .type "tuple", dict := dd, data := .seq items n, slots := sl } ∧
      R (.ok (.ret (Value.ref l))) s) :=
  .of_wp fun prog w A R s h => by
    obtain ⟨hp, g, d, tk, os⟩ := s
    obtain ⟨hl, h⟩ := h
    have f1 := AutoSeq1.idx_int
    wp_walk using wpAny_loadPart' hl
    repeat (first
      | (refine wpAny_ite_false (decide_eq_false (by rw [c0]; exact Bool.false_ne_true)) ?_; wp_walk using wpAny_loadPart' hl)
      | (refine wpAny_ite_true (decide_eq_true c1) ?_; wp_walk using wpAny_loadPart' hl))
    exact ⟨_, rfl, h⟩
/-- t * k, k any number to 1000 -/
def rRepS (K : PySem.W.Frag) : R2 := fun x y H Q => ∃ l k xs, x = .ref l ∧ y = .int k ∧ SqT K H l xs ∧ -(2 ^ 62) ≤ k ∧ k ≤ 1000 ∧ xs.length ≤ 1000 ∧ NewT K H Q (List.replicate k.toNat xs).flatten
section
variable {X : Cx}
theorem op_repS : OpR X (binaryOp .Mult) (rRepS X.K) := by
  intro pins s σ H x y v u Q I rx ry h
  obtain ⟨l, k, xs, rfl, rfl, hT, h1, h2, hz, q⟩ := h
  by_cases hbig : xs ≠ [] ∧ 2 ≤ k
  · exact op_repT pins s σ H _ _ v u Q I rx ry ⟨l, k, xs, rfl, rfl, hT, hbig.1, hbig.2, h2, hz, q.al⟩
  cases rx
  obtain ⟨t, rfl⟩ := ry
  obtain ⟨its, r, ht⟩ := I.tuple hT
  obtain ⟨⟨⟨cls, dd, data, sl⟩, ho, hc, n, hd⟩, hs⟩ := id ht
  simp only at hc hd
  subst hc hd
  have hle : its.length = xs.length := r.length.symm
  have c0 : (decide (k < -(2 ^ 63)) || decide (k ≥ 2 ^ 63)) = false := by
    rw [decide_eq_false (by omega), decide_eq_false (by omega)] <;> rfl
  by_cases hone : (its.toArray.isEmpty || k == 1) = true
  · refine wpAny_binaryOp_repeat_ref (T := "tuple") (U := "int") (by decide) ⟨_, ho, rfl⟩ (fun s' => typeIs_int s' k t) noFill_tuple_mul F.fills_int_mul F.slot_int_rmul repeat_tuple F.slot_int_index.lookup
      (call_meets F.slot_int_rmul (typeIs_int s k t) F.entry_int_rmul (F.args_int_rmul_2 _ _) (int_rmul_tuple k t l its.toArray n dd sl)
        ⟨ho, rfl, ⟨_, ho, rfl⟩, call_meets F.slot_tuple_mul ⟨_, ho, rfl⟩ F.entry_tuple_mul (F.args_tuple_mul_2 _ _) (tuple_mul1 l its.toArray n dd sl k t c0 hone) ⟨ho, ?_⟩⟩)
    refine ⟨.ref l, H, I, rfl, ?_⟩
    have e : (List.replicate k.toNat xs).flatten = xs := by
      rw [Bool.or_eq_true] at hone
      rcases hone with z | z
      · have e0 : its = [] := by
          cases its with
          | nil => rfl
          | cons a b => cases z
        have e1 : xs = [] := by
          rw [e0] at hle
          exact List.eq_nil_of_length_eq_zero hle.symm
        rw [e1]
        simp
      · have e0 : k = 1 := eq_of_beq z
        rw [e0]
        simp
    rw [e] at q
    exact q.here hT
  · have hone : (its.toArray.isEmpty || k == 1) = false := Bool.eq_false_iff.mpr hone
    have hk : k ≤ 0 := by
      rw [Bool.or_eq_false_iff] at hone
      have n1 : xs ≠ [] := fun z => by
        rw [z] at hle
        have e0 : its = [] := List.eq_nil_of_length_eq_zero hle
        rw [e0] at hone
        exact absurd hone.1 (by decide)
      have n2 : k ≠ 1 := beq_eq_false_iff_ne.mp hone.2
      have n3 : ¬ 2 ≤ k := fun z => hbig ⟨n1, z⟩
      omega
    have c2 : (decide (k ≤ 0) || its.toArray.isEmpty) = true := by rw [decide_eq_true hk, Bool.true_or]
    refine wpAny_binaryOp_repeat_ref (T := "tuple") (U := "int") (by decide) ⟨_, ho, rfl⟩ (fun s' => typeIs_int s' k t) noFill_tuple_mul F.fills_int_mul F.slot_int_rmul repeat_tuple F.slot_int_index.lookup
      (call_meets F.slot_int_rmul (typeIs_int s k t) F.entry_int_rmul (F.args_int_rmul_2 _ _) (int_rmul_tuple k t l its.toArray n dd sl)
        ⟨ho, rfl, ⟨_, ho, rfl⟩, call_meets F.slot_tuple_mul ⟨_, ho, rfl⟩ F.entry_tuple_mul (F.args_tuple_mul_2 _ _) (tuple_mul0 l its.toArray n dd sl k t c0 hone c2) ⟨ho, ?_⟩⟩)
    have e : k.toNat = 0 := by omega
    rw [e] at q
    refine ⟨.ref s.heap.objs.size, _, I.laid (t' := s.toks) (o := .tup []) (fun b ob q => Heap.get?_push_of_some _ q) (Nat.le_refl _) ?_, rfl, NewT.al (xs := []) q _ (I.hok.fresh (Nat.le_refl _))⟩
    exact ⟨Nat.zero_le _, [], .nil, IsTup.new _ _⟩
end
end RL
/-! S6 -/
set_option Elab.async false
set_option linter.all false
set_option maxRecDepth 100000
set_option maxHeartbeats 4000000
namespace RL
open PySem PySem.Spec PyProof.Rows L2 PpSet
/-- a set of tuples of ints stands at D, its members' tuples are known -/
def SetTs (K : PySem.W.Frag) (P : Program) (w : World) (H : Hp) (D : Addr) (L : List (Addr × List Int)) : Prop := H D = some (SetTO P w D L) ∧ ∀ p ∈ L, SqT K H p.1 (p.2.map V.int)
section
variable {X : Cx}
theorem addT_ok {pins : List (Addr × Obj)} {σ : L2.St} {H : Hp} {s : Shared} {E : Value → Shared → Prop} {D x : Addr} {L : List (Addr × List Int)} {k : List Int} {Q : Value → Shared → Prop} (hu : X.A.units + 3 < cLine) (I : Inv X pins σ H s)
    (hD : SetTs X.K X.prog X.w H D L) (hx : SqT X.K H x (k.map V.int)) (few : L.length + 1 < 64)
    (h : ∀ s' L', Inv X pins σ (upd H D (SetTO X.prog X.w D L')) s' → (k ∈ L.map (·.2) → L' = L) → (k ∉ L.map (·.2) → L'.Perm ((x, k) :: L)) → Q .none s') :
    wpAny (model X.prog X.w) X.A (call (.builtin "set.add") [.ref D, .ref x]) Q E s := by
  have R0 : SetT0 X.prog X.w s.heap D L := (I.hok D _ hD.1).1
  obtain ⟨es, ep, t, R⟩ := R0.full fun p hp => I.isT (hD.2 p hp)
  have ix := I.isT hx
  obtain ⟨o, ho, hex, hd⟩ := R.ob
  refine wpAny_call_entry F.slot_set_add ⟨o, ho, hex.1⟩ F.entry_set_add ?_ (F.args_set_add_2 _ _)
  unfold Builtin.«set.add» Builtin.Frozenset.oneOther
  simp only [List.isEmpty_nil, bind_assoc]
  unfold Builtin.Frozenset.addrOf setAdd
  refine wpAny_bind (wpAny_pure ?_)
  try dsimp only
  refine wpAny_bind (wpAny_pure ?_)
  try dsimp only
  refine wpAny_bind (wpAny_holding (wpAny_bind (wpAny_pyHash_tuple (by show X.A.units + 1 < cLine; omega) ix ?_)))
  refine add_at (s := { s with toks := s.toks + (k.length + 1) }) R ix (by show X.A.units + 1 < cLine; omega) few fun b h' L' es' ep' t' sb R' c1 c2 => ?_
  have he : ∃ u, h'.get? D = some u := by
    obtain ⟨o', ho', _⟩ := R'.ob
    exact ⟨o', ho'⟩
  exact wpAny_pure ⟨_, rfl, h _ L' (I.write (e := D) (t' := s.toks + (k.length + 1)) (by rw [hD.1]; trivial) (.inl rfl) (fun b u hb hu => (sb.2 b hb).trans hu) he (setTO_new R'.t0)) c1 c2⟩
/-- {elt for target in iter if ..}, elt a tuple of ints: D the new set -/
def tScT (K : PySem.W.Frag) (P : Program) (w : World) (wi : TI) (g : TG) (tt : TT) (te : TE) (vs : List Nat) : TE := fun σ H Q => wi σ H fun J H1 => ∀ D, H1 D = none → ∃ W : Nat → Nat → Hp → Prop, (∃ m, W 0 m (upd H1 D (SetTO P w D []))) ∧ ∀ i m H, W i m H →
  (J.stop i H ∧ Q (.ref D) H) ∨ (J.go i H ∧ ∃ Nx : Hp → Prop, (∀ H', Nx H' → ∃ m', m' < m ∧ W (i + 1) m' H') ∧ ∀ x H', J.yld i H x H' → g x (wipe σ vs) H' fun σ2 H2 => wipe σ2 vs = wipe σ vs ∧ tt σ2 H2 fun b H3 =>
    if b = true then te σ2 H3 fun y H4 => ∃ (a : Addr) (k : List Int) (L : List (Addr × List Int)), y = .ref a ∧ SetTs K P w H4 D L ∧ SqT K H4 a (k.map V.int) ∧ L.length + 1 < 64 ∧
      ∀ L', (k ∈ L.map (·.2) → L' = L) → (k ∉ L.map (·.2) → L'.Perm ((a, k) :: L)) → Nx (upd H4 D (SetTO P w D L')) else Nx H3)
theorem pe_scT {elt tg iter : Expr} {ifs : List Expr} {scope : Scope} {own : List (PySem.Str × Nat)} {pos : Pos} {wi : TI} {g : TG} {tt : TT} {te : TE} (hc : X.calm = true) (hu : X.A.units + 3 < cLine) (hN : X.N.Nodup) (hi : PI X tg iter wi) (ok : BlkOk X.N X.env.scope scope own)
    (hg : ∀ (s : Shared) (H : Hp) (C : Addr) (cl : List (PySem.Str × Addr)) (fp : List Addr), PG (X.blk s H scope (compEnvC scope cl C X.env) fp) tg g) (ht : ∀ (s : Shared) (H : Hp) (C : Addr) (cl : List (PySem.Str × Addr)) (fp : List Addr), PTs (X.blk s H scope (compEnvC scope cl C X.env) fp) ifs tt)
    (he : ∀ (s : Shared) (H : Hp) (C : Addr) (cl : List (PySem.Str × Addr)) (fp : List Addr), PE (X.blk s H scope (compEnvC scope cl C X.env) fp) elt te) (hs : ∀ x, foldedSetIterable iter X.env x = pure x := by intro _; rfl) :
    PE X (.SetComp elt [⟨tg, iter, ifs, 0⟩] scope pos) (tScT X.K X.prog X.w wi g tt te (own.map (·.2))) := by
  refine ⟨fun pins s σ H Q I h => ?_⟩
  rw [eval_SetComp]
  have caught : ∀ y ∈ scope.names, y.2 = .free → ∃ c, X.env.cells.lookup y.1 = some c := fun y hy e => (ok.free y hy e).elim (fun k => I.ok.has _ (.inl k)) (fun k => I.ok.has _ (.inr k))
  refine wpAny_comprehension_free (use := none) rfl hs (closure_ok caught) ok.kind (fun y hy e => by rw [ok.uniq y hy, e]) (thn (hi.run pins s σ H _ I h) fun _ s1 q1 => thn q1 fun _ s2 q2 => ?_)
  obtain ⟨it, fp, tn, J, H2, rfl, I2, T, st2, f2, q⟩ := q2
  refine newSet_ok (newEnv_comp ?_)
  obtain ⟨D, hD⟩ : ∃ D, s2.heap.objs.size = D := ⟨_, rfl⟩
  obtain ⟨W, ⟨m0, w0⟩, turn⟩ := q D (I2.hok.fresh (Nat.le_of_eq hD))
  obtain ⟨o0, ho0⟩ : ∃ o0 : Obj, o0 = { cls := .type "set", dict := none, data := .set #[] 0 (.fresh 0 0 (!X.w.params.followText "set-order")) } := ⟨_, rfl⟩
  rw [hD, ← ho0]
  obtain ⟨s3, hs3⟩ : ∃ s3 : Shared, s3 = { s2 with heap := s2.heap.push o0 } := ⟨_, rfl⟩
  obtain ⟨H3, hH3⟩ : ∃ H3 : Hp, H3 = upd H2 D (SetTO X.prog X.w D []) := ⟨_, rfl⟩
  rw [← hH3] at w0
  have I3 : Inv X pins σ H3 s3 := by
    rw [hH3, hs3]
    refine I2.laid (t' := s2.toks) (fun b o e => Heap.get?_push_of_some _ e) (Nat.le_of_eq hD) (setTO_new (SetTR.t0 (setTR_fresh ?_)))
    rw [← hD, ho0]
    exact Heap.get?_push_size _ rfl
  have h3 : s3.heap = s2.heap.push o0 := by rw [hs3]
  have low : ∀ b ∈ fp, b < s2.heap.objs.size := fun b hb => let ⟨o, e, _⟩ := T.obj _ _ st2 b hb; Heap.lt_size e
  have f3 : ∀ b ∈ fp, FpOk X pins H3 b ∧ b < s3.heap.objs.size := fun b hb => by
    refine ⟨⟨?_, (f2 b hb).2⟩, by rw [h3, Heap.size_push]; exact Nat.lt_succ_of_lt (low b hb)⟩
    rw [hH3, upd_ne (fun z => Nat.lt_irrefl _ (Nat.lt_of_lt_of_eq (low b hb) (hD.trans z.symm)))]
    exact (f2 b hb).1
  have st3 : tn 0 s3.heap := T.keep _ _ _ st2 fun b _ o e => by rw [h3]; exact Heap.get?_push_of_some _ e
  have I4 := block_start I3 ok hN f3
  obtain ⟨ce, hce⟩ : ∃ ce, ce = compEnvC scope (cellsFrom (s3.heap.objs.size + 1) scope.names (cloFrom X.env.cells scope.names [])) s3.heap.objs.size X.env := ⟨_, rfl⟩
  rw [← hce] at I4
  have pg : PG (X.blk s3 H3 scope ce fp) tg g := by rw [hce]; exact hg _ _ _ _ _
  have pt : PTs (X.blk s3 H3 scope ce fp) ifs tt := by rw [hce]; exact ht _ _ _ _ _
  have pe : PE (X.blk s3 H3 scope ce fp) elt te := by rw [hce]; exact he _ _ _ _ _
  have cL : ce.locals = s3.heap.objs.size := by rw [hce] <;> rfl
  obtain ⟨s4, hs4⟩ : ∃ s4 : Shared, s4 = { s3 with heap := pushCells (s3.heap.push { cls := .type "dict", data := .dict #[] }) scope.names } := ⟨_, rfl⟩
  rw [← hs4] at I4
  have goal_eq : codeAny (model X.prog X.w) X.A (.compStart (.SetComp elt [⟨tg, iter, ifs, 0⟩] scope pos) 0 (.ref it) (.ref D) ce) (compPost (model X.prog X.w) X.A X.xe none (EP X pins σ Q) (.ref D) s3.heap.objs.size) s4 := ?_
  · rw [hce, hs4, hs3] at goal_eq
    exact goal_eq
  have st4 : tn 0 s4.heap := T.keep _ _ _ st3 fun b _ o e => by rw [hs4]; exact pushCells_keeps _ _ _ _ (Heap.get?_push_of_some _ e)
  have foot : ∀ {σ' : L2.St} {H' : Hp} {s' : Shared}, Inv (X.blk s3 H3 scope ce fp) [] σ' H' s' → (∀ b ∈ fp, H' b = none) → ∀ b ∈ fp, FpOk (X.blk s3 H3 scope ce fp) [] H' b := fun {σ' H' s'} I' hn b hb =>
    ⟨hn b hb, (I'.ok.exf b hb).1, I'.ok.exfs b hb, .inl hb, fun x c e => (I'.ok.exf b hb).2 x c e, fun p hp => absurd (show p ∈ ([] : List (Addr × Obj)) ++ [] from hp) (by simp)⟩
  have loop : codeAny (model X.prog X.w) X.A (.compLoop (.SetComp elt [⟨tg, iter, ifs, 0⟩] scope pos) 0 (.ref it) (.ref D) ce) (compPost (model X.prog X.w) X.A X.xe none (EP X pins σ Q) (.ref D) s3.heap.objs.size) s4 := by
    refine compLoopS_any (fun n s' => ∃ i H', Inv (X.blk s3 H3 scope ce fp) [] (wipe σ (own.map (·.2))) H' s' ∧ tn i s'.heap ∧ (∀ b ∈ fp, H' b = none) ∧ W i n H') (fun n s5 j5 => ?_) m0 ⟨0, H3, I4, st4, fun b hb => (f3 b hb).1.1, w0⟩
    obtain ⟨i, H5, I5, st5, n5, w5⟩ := j5
    rcases turn i n H5 w5 with ⟨stop, qq⟩ | ⟨go, Nx, hNx, step⟩
    · refine thnF (T.done (X.blk s3 H3 scope ce fp) rfl rfl rfl hc i [] s5 _ H5 (fun _ _ => False) I5 (foot I5 n5) st5 stop) fun r s6 ⟨hr, I6⟩ => ?_
      subst hr
      have I7 : Inv X pins σ H5 s6 := I3.call' (ch := fp) I6.os I6.base I6.hok I6.bare fun b hb => ⟨(f3 b hb).1.2.2.2.1, (f3 b hb).1.2.1, (f3 b hb).1.2.2.2.2.1, (f3 b hb).1.2.2.2.2.2⟩
      have nC : H5 s3.heap.objs.size = none := cL ▸ I6.free
      obtain ⟨m, hn, _⟩ := I6.loc
      have hn : s6.heap.Ns s3.heap.objs.size m := cL ▸ hn
      refine ⟨m, hn, fun h'' sb => ?_⟩
      obtain ⟨a0, a1, a2, a3, a4, a5⟩ := I3.fpOk (Nat.le_refl _) nC
      exact ⟨.ref D, H5, I7.turned (t' := s6.toks) (fun b o hb e => (sb.2 b hb).trans e) a0 a1 a3 a4 a5, rfl, qq⟩
    · refine thnF (T.item (X.blk s3 H3 scope ce fp) rfl rfl rfl hc i [] s5 _ H5 (fun _ _ => False) I5 (foot I5 n5) st5 go) fun r s6 ⟨u, hr, h6⟩ => ?_
      subst hr
      refine thnF h6 fun _ s7 ⟨x, H7, I7, r7, y7, st7, n7⟩ => ?_
      refine thnF (pg.run _ s7 _ H7 x u _ (I7.pinned (foot I7 n7) (T.obj _ _ st7)) r7 (step x H7 y7)) fun _ s8 ⟨σ8, H8, I8, hw8, q8⟩ => ?_
      refine thnF (pt.run _ s8 σ8 H8 _ I8 q8) fun b s9 ⟨H9, I9, q9⟩ => ?_
      have fin : ∀ {s' : Shared} {H' : Hp}, Inv (X.blk s3 H3 scope ce fp) ([] ++ pinsAt fp s7.heap) σ8 H' s' → Nx H' → ∃ m, m < n ∧ ∃ i H', Inv (X.blk s3 H3 scope ce fp) [] (wipe σ (own.map (·.2))) H' s' ∧ tn i s'.heap ∧ (∀ b ∈ fp, H' b = none) ∧ W i m H' := fun {s' H'} I' nx => by
        obtain ⟨m', hm, w'⟩ := hNx H' nx
        have pin' : ∀ b ∈ fp, ∀ o, s7.heap.get? b = some o → s'.heap.get? b = some o ∧ H' b = none := fun b hb o e =>
          let z := I'.pin (b, o) (List.mem_append_right _ (List.mem_append_right _ (mem_pinsAt hb e)))
          ⟨z.1, z.2.1⟩
        refine ⟨m', hm, i + 1, H', (I'.unpinned (pins := [])).weak (by rw [← hw8, wipe_length]) (fun j v e => (wipe_some (by rw [hw8]; exact e)).1), T.keep _ _ _ st7 fun b hb o e => (pin' b hb o e).1, fun b hb => ?_, w'⟩
        obtain ⟨o, e, _⟩ := T.obj _ _ st7 b hb
        exact (pin' b hb o e).2
      cases b with
      | false =>
        simp only [Bool.false_eq_true, if_false] at q9 ⊢
        exact fin I9 q9
      | true =>
        simp only [if_true] at q9 ⊢
        refine thnF (pe.run _ s9 σ8 H9 _ I9 q9) fun z s10 ⟨yv, H10, I10, r10, a, k, L, ey, hD10, hk10, few, nx⟩ => ?_
        subst ey
        cases (show z = Value.ref a from r10)
        exact addT_ok (X := X.blk s3 H3 scope ce fp) hu I10 hD10 hk10 few fun s11 L' I11 c1 c2 => fin I11 (nx L' c1 c2)
  exact codeAny_compStart_set loop (T.self X.A 0 _ _ _ st4 loop)
end
end RL
/-! S7 -/
set_option Elab.async false
set_option linter.all false
set_option maxRecDepth 100000
set_option maxHeartbeats 4000000
namespace RS
open PySem PySem.Spec PyProof.Rows PySem.W PySem.SeqAt
section
variable {prog : Program} {w : World} {A : Around} {E : Value → Shared → Prop} {s : Shared}
/-- the call of tuple's own __lt__, as sorting makes it -/
theorem call_tuple_lt {Q : Value → Shared → Prop} {l b : Addr} {items items2 : Array Value} {e r : Nat → Bool} (hl : s.heap.IsTuple l items) (hb : s.heap.IsTuple b items2)
    (he : ∀ j (h1 : j < items.size) (h2 : j < items2.size), EqAt A.in1 s items[j] items2[j] (e j)) (hr : ∀ j (h1 : j < items.size) (h2 : j < items2.size), e j = false → RcLt A.in1 s items[j] items2[j] (r j))
    (h : Q (.bool (firstLt e r (decide (items.size < items2.size)) (List.range (min items.size items2.size)))) s) : wpAny (model prog w) A (call (.builtin "tuple.__lt__") [.ref l, .ref b]) Q E s := by
  obtain ⟨⟨cls, dd, data, sl⟩, ho, hc, n, hd⟩ := id hl
  obtain ⟨⟨cls2, dd2, data2, sl2⟩, ho2, hc2, n2, hd2⟩ := id hb
  simp only at hc hd hc2 hd2
  subst hc hd hc2 hd2
  exact call_meets F.slot_tuple_lt ⟨_, ho, rfl⟩ F.entry_tuple_lt (F.args_tuple_lt_2 _ _) (tuple_ltAt l b items items2 n n2 dd dd2 sl sl2 e r) ⟨ho, ho2, he, hr, h⟩
theorem oneLt_tups {f : Bool} {xs ys : List PyData} {a b : Value} {as bs : List Addr} {Q : Bool → Shared → Prop} (ra : Reads s.heap a (.tuple xs) as) (rb : Reads s.heap b (.tuple ys) bs) (h : alike (.tuple xs) (.tuple ys) = true)
    (hu : A.units + min (PyData.tuple xs).depth (PyData.tuple ys).depth < cLine) (hq : Q (dataLt (.tuple xs) (.tuple ys)) s) : wpAny (model prog w) A (oneLt' f a b) Q E s := by
  cases f with
  | false => exact oneLt_alike (fun z => nomatch z) ra rb h (fun z => nomatch z) hu hq
  | true =>
    have hal : alikeAll xs ys = true := by simpa [alike] using h
    cases ra with
    | @tuple l o vs n _ as₁ h1 h2 h3 h4 =>
      cases rb with
      | @tuple l' o' vs' n' _ bs₁ k1 k2 k3 k4 =>
        have n1 : vs.size = xs.length := by simpa using ReadsAll.length _ _ _ h4
        have n2 : vs'.size = ys.length := by simpa using ReadsAll.length _ _ _ k4
        rw [dataLt_tuple, ← firstLt_toks xs ys hal, ← n1, ← n2] at hq
        rw [oneLt'_eq]
        simp only [if_true]
        refine wpAny_bind (wpAny_cRoomFor (room_here hu) ?_)
        refine wpAny_bind (wpAny_callSpecialIfBound?_slot (T := "tuple") ⟨_, h1, h2⟩ F.slot_tuple_lt (call_tuple_lt (e := pairEq xs ys) (r := fun j => dataLt (xs.getD j .none) (ys.getD j .none)) ⟨_, h1, h2, _, h3⟩ ⟨_, k1, k2, _, k3⟩ (fun j j1 j2 => ?_) (fun j j1 j2 hj => ?_) (wpAny_truthy_bool hq)))
        · have := eqAt_alikeAll xs ys A.in1 s vs.toList vs'.toList _ _ h4 k4 hal (room_in hu) j (by simpa using j1) (by simpa using j2)
          simpa using this
        · have := rcLt_alikeAll xs ys A.in1 s vs.toList vs'.toList _ _ h4 k4 hal (room_in hu) j (by simpa using j1) (by simpa using j2) hj
          simpa using this
theorem each_right {α β : Type} {R : α → β → Prop} : ∀ {as : List α} {bs : List β}, EachIs R as bs → ∀ b ∈ bs, ∃ a ∈ as, R a b
  | _, _, .nil, b, hb => by cases hb
  | _, _, .cons r t, b, hb => by
    rcases List.mem_cons.mp hb with z | z
    · subst z; exact ⟨_, List.mem_cons_self, r⟩
    · obtain ⟨a, ha, q⟩ := each_right t b z
      exact ⟨a, List.mem_cons_of_mem _ ha, q⟩
theorem firsts_any : ∀ (vs : List Value) (f : Value → Option Value) {Q : List (Option Value) → Shared → Prop}, (∀ v ∈ vs, ∃ a o xs n, v = .ref a ∧ s.heap.get? a = some o ∧ o.cls = .type "tuple" ∧ o.data = .seq xs n ∧ xs[0]? = f v) →
    Q (vs.map f) s → wpAny (model prog w) A (vs.mapM firstOfTuple') Q E s
  | [], f, Q, _, h => by rw [List.mapM_nil]; exact wpAny_pure h
  | v :: vs, f, Q, t, h => by
    obtain ⟨a, o, xs, n, rfl, ho, hc, hd, hf⟩ := t v List.mem_cons_self
    rw [List.mapM_cons]
    refine wpAny_bind ?_
    rw [kas_first_eq]
    refine wpAny_bind (Looks.here (show Looks _ s.heap (typeOf (.ref a)) o.cls from (Looks.ld ho).andThen .now) ?_)
    rw [hc, if_neg (by first | decide | simp)]
    refine wpAny_bind (listItems_at ho hd (wpAny_pure ?_))
    rw [hf]
    exact wpAny_bind (firsts_any vs f (Q := fun bs s' => wpAny (model prog w) A (pure (f (.ref a) :: bs)) Q E s') (fun v hv => t v (List.mem_cons_of_mem _ hv)) (wpAny_pure h))
/-- tuples that read as alike data, some of them perhaps empty, can be sorted -/
theorem sortsAt_tups {vs : List Value} {ds : List PyData} (e : EachIs (fun v d => ∃ as, Reads s.heap v d as) vs ds) (hal : AllAlike ds) (ht : ∀ d ∈ ds, ∃ xs, d = .tuple xs) (hu : ∀ d, d ∈ ds → A.units + d.depth < cLine) : SortsAt prog w A s (dataKind s.heap ds) vs := by
  by_cases hne : ∀ d ∈ ds, ∃ x r, d = .tuple (x :: r)
  · exact SortsAt.data e hal (.inl hne) hu
  have room : ∀ {d d' : PyData}, d ∈ ds → A.units + min d.depth d'.depth < cLine := fun {d d'} hd => Nat.lt_of_le_of_lt (Nat.add_le_add_left (Nat.min_le_left _ _) _) (hu d hd)
  have lt : ∀ (kd : SortKind), (∃ f, ∀ x y, keyLt' kd x y = oneLt' f x y) → H.LtAt prog w A s (dataKind s.heap ds) kd := fun kd ⟨f, hf⟩ => by
    intro E x y a b Q ha hb hq
    obtain ⟨d, as, hd, ra, rfl⟩ := dataKind_inv ha
    obtain ⟨d', as', hd', rb, rfl⟩ := dataKind_inv hb
    rw [hf]
    obtain ⟨xs, rfl⟩ := ht d hd
    obtain ⟨ys, rfl⟩ := ht d' hd'
    exact oneLt_tups ra rb (hal _ hd _ hd') (room hd) hq
  have first : ∃ f : Value → Option Value, ∀ v ∈ vs, ∃ a o xs n, v = .ref a ∧ s.heap.get? a = some o ∧ o.cls = .type "tuple" ∧ o.data = .seq xs n ∧ xs[0]? = f v := by
    refine ⟨fun v => match v with | .ref a => (match s.heap.get? a with | some o => (match o.data with | .seq xs _ => xs[0]? | _ => none) | none => none) | _ => none, fun v hv => ?_⟩
    obtain ⟨d, hd, as, r⟩ := e.left v hv
    obtain ⟨xs, rfl⟩ := ht d hd
    cases r with
    | @tuple l o ws n _ _ h1 h2 h3 h4 => exact ⟨l, o, ws, n, rfl, h1, h2, h3, by simp only [h1, h3]⟩
  obtain ⟨f, hf⟩ := first
  -- not all have a first item
  have hno : ((vs.map f).toArray.all fun x => x.isSome) = false := by
    cases hc : ((vs.map f).toArray.all fun x => x.isSome) with
    | false => rfl
    | true =>
      refine absurd (fun d hd => ?_) hne
      obtain ⟨v, hv, as, r⟩ := each_right e d hd
      obtain ⟨a, o, ws, n, ev, ho, _, hdt, hw⟩ := hf v hv
      obtain ⟨xs, rfl⟩ := ht d hd
      cases r with
      | @tuple l o' ws' n' _ _ h1 h2 h3 h4 =>
        cases ev
        rw [h1] at ho
        cases ho
        rw [h3] at hdt
        cases hdt
        have hs : (f (.ref a)).isSome = true := by
          simp only [List.all_toArray, List.all_map, List.all_eq_true, Function.comp] at hc
          exact hc _ hv
        rw [← hw] at hs
        have n1 : ws.size = xs.length := by simpa using ReadsAll.length _ _ _ h4
        cases xs with
        | cons x r => exact ⟨x, r, rfl⟩
        | nil =>
          have z : ws.size = 0 := n1
          rw [Array.getElem?_eq_none (by omega)] at hs
          exact absurd hs (by decide)
  refine ⟨fun v hv => ?_, ?_⟩
  · obtain ⟨d, hd, as, r⟩ := e.left v hv
    exact ⟨_, dataKind_some hal hd r⟩
  · have hT : ∀ v ∈ vs, Looks (model prog w) s.heap (typeOf v) (Value.type "tuple") := fun v hv => by
      obtain ⟨a, o, ws, n, ev, ho, hc, _, _⟩ := hf v hv
      subst ev
      rw [← hc]
      exact (Looks.ld ho).andThen .now
    by_cases h1 : ((vs.map f).toArray[0]?.bind id).isSome = true
    · refine ⟨general', lt _ ⟨false, fun _ _ => rfl⟩, fun h2 E Q hq => ?_⟩
      rw [kat_kind_eq, List.mapM_toArray, map_eq_pure_bind]
      refine wpAny_bind (wpAny_bind (firsts_any vs f hf (wpAny_pure ?_)))
      rw [if_neg (by rw [hno]; decide), if_pos h1]
      exact wpAny_pure hq
    · refine ⟨oneType', lt _ ⟨true, fun _ _ => keyLt'_oneType _ _⟩, fun h2 E Q hq => ?_⟩
      rw [kat_kind_eq, List.mapM_toArray, map_eq_pure_bind]
      refine wpAny_bind (wpAny_bind (firsts_any vs f hf (wpAny_pure ?_)))
      rw [if_neg (by rw [hno]; decide), if_neg h1, oneTypeOnly'_eq, List.mapM_toArray, map_eq_pure_bind]
      refine wpAny_bind (wpAny_bind (wpAny_bind (kas_mapM (r := Value.type "tuple") _ (fun v hv Q' hq => (hT v hv).here hq) (wpAny_pure ?_))))
      have hall : ((List.map (fun _ => Value.type "tuple") vs).toArray.all fun x => x == Value.type "tuple") = true := by
        simp only [List.all_toArray, List.all_map, List.all_eq_true]
        intro _ _
        exact beq_self_eq_true _
      have h0 : (List.map (fun _ => Value.type "tuple") vs).toArray[0]? = some (Value.type "tuple") := by
        match vs, h2 with
        | v :: _, _ => simp
      rw [h0]
      simp only [hall, if_true]
      exact wpAny_pure (wpAny_pure hq)
end
end RS
/-! S8 -/
set_option Elab.async false
set_option linter.all false
set_option maxRecDepth 100000
set_option maxHeartbeats 4000000
namespace RS
open PySem PySem.Spec PyProof.Rows PySem.W PySem.SeqAt
section
variable {prog : Program} {w : World} {A : Around} {E : Value → Shared → Prop} {s : Shared} {β : Type} {R : Value → β → Prop} {enc : β → PyData} {vs : List Value} {bs : List β}
/-- what may be sorted: as the library says, or tuples of which some may be empty -/
def SortableT (ds : List PyData) : Prop := Sortable ds ∨ ∀ d ∈ ds, ∃ xs, d = .tuple xs
theorem sortsAt_any {ds : List PyData} (e : EachIs (fun v d => ∃ as, Reads s.heap v d as) vs ds) (hal : AllAlike ds) (hk : SortableT ds) (hu : ∀ d, d ∈ ds → A.units + d.depth < cLine) : SortsAt prog w A s (dataKind s.heap ds) vs :=
  hk.elim (fun h => SortsAt.data e hal h hu) fun h => sortsAt_tups e hal h hu
theorem sorted_any {l : Addr} {Q : Value → Shared → Prop} (hl : s.heap.IsList l vs.toArray) (e : EachIs R vs bs) (er : EachIs (fun v b => ∃ as, Reads s.heap v (enc b) as) vs bs) (hal : AllAlike (bs.map enc)) (hk : SortableT (bs.map enc)) (hL : bs.length ≤ sizeLine)
    (hu : ∀ b, b ∈ bs → A.units + 2 + (enc b).depth < cLine) (h : ∀ out, out.length = bs.length → EachIs R out (bs.mergeSort (dataLe false enc)) → Q (.ref (s.heap.objs.size + 1)) { s with heap := sortedAll s.heap vs (List.toArray out) }) :
    wpAny (model prog w) A (call (.builtin "sorted") [.ref l]) Q E s := by
  have er' : EachIs (fun v b => ∃ as, Reads (sortingHeap (copyHeap s.heap vs) (s.heap.objs.size + 1) vs) v (enc b) as) vs bs := er.mono fun _ _ ⟨as, r⟩ => ⟨as, PyProof.Rows.Reads.keeps (fun _ _ => sorting_copy_old) r⟩
  refine sorted_vals hl (sortsAt_any (s := { s with heap := sortingHeap (copyHeap s.heap vs) (s.heap.objs.size + 1) vs }) (each_map (R := fun v d => ∃ as, Reads (sortingHeap (copyHeap s.heap vs) (s.heap.objs.size + 1) vs) v d as) enc er') hal hk (bound_map hu)) (by rw [e.length]; exact hL) ?_
  exact h _ (by rw [sortVals_length false rfl]; exact e.length) (sortVals_data false e er' hal)
end
end RS
namespace RL
open PySem PySem.Spec PyProof.Rows L2 PpSet
open PySem.W (AllAlike EachIs dataLe)
/-- values, each beside the datum that it reads as -/
abbrev VD := V × PyData
section
variable {X : Cx}
theorem each_of_vals : ∀ {zs : List VD} {us : List Value}, Vals (zs.map (·.1)) us → EachIs (fun v (z : VD) => RelV z.1 v) us zs
  | [], _, .nil => .nil
  | z :: zs, _, .cons r t => .cons r (each_of_vals t)
theorem vals_of_each : ∀ {zs : List VD} {us : List Value}, EachIs (fun v (z : VD) => RelV z.1 v) us zs → Vals (zs.map (·.1)) us
  | _, _, .nil => .nil
  | _, _, .cons r t => .cons r (vals_of_each t)
theorem each_reads {pins : List (Addr × Obj)} {σ : L2.St} {H : Hp} {s : Shared} (I : Inv X pins σ H s) : ∀ {zs : List VD} {us : List Value}, (∀ z ∈ zs, Dp X.K H z.1 z.2) → EachIs (fun v (z : VD) => RelV z.1 v) us zs → EachIs (fun v (z : VD) => ∃ as, Reads s.heap v z.2 as) us zs
  | _, _, _, .nil => .nil
  | _, _, h, .cons r t => .cons (Dp.reads I _ _ _ (h _ List.mem_cons_self) r) (each_reads I (fun z hz => h z (List.mem_cons_of_mem _ hz)) t)
/-- sorted(xs), xs a list of alike data -/
def rSortedD (K : PySem.W.Frag) : List V → Hp → VK → Prop := fun vs H Q => ∃ (a : Addr) (zs : List VD), vs = [V.ref a] ∧ SqL K H a (zs.map (·.1)) ∧ (∀ z ∈ zs, Dp K H z.1 z.2) ∧ AllAlike (zs.map (·.2)) ∧ RS.SortableT (zs.map (·.2)) ∧ (∀ z ∈ zs, z.2.depth ≤ 40) ∧
  NewL H Q ((zs.mergeSort (dataLe false (·.2))).map (·.1))
theorem cr_sortedD (hu : X.A.units + 64 < cLine) : CallR X (.builtin "sorted") (rSortedD X.K) := by
  intro pins s σ H vs us Q I r h
  obtain ⟨a, zs, rfl, hs, hx, hal, hk, hd, q⟩ := h
  obtain ⟨its, rv, hl, hz⟩ := I.list hs
  rw [Vals.ref1 r]
  have e := each_of_vals rv
  have hlen : zs.length ≤ sizeLine := by rw [List.length_map] at hz; exact hz
  refine RS.sorted_any (enc := fun z : VD => z.2) hl.isList e (each_reads I hx e) hal hk hlen (fun z hz => ?_) fun out h1 h2 => ?_
  · have := hd z hz
    omega
  · have fresh : H (s.heap.objs.size + 1) = none := I.hok.fresh (Nat.le_succ _)
    obtain ⟨n, hn⟩ := sortedAll_at s.heap its out.toArray
    refine ⟨.ref (s.heap.objs.size + 1), _, I.laid (t' := s.toks) (o := .lst ((zs.mergeSort (dataLe false (·.2))).map (·.1))) (fun b o q => sortedAll_old q) (Nat.le_succ _) ⟨?_, out, n, vals_of_each h2, hn⟩, rfl, NewL.al q _ fresh⟩
    rw [List.length_map, List.length_mergeSort]
    exact hlen
/-- the datum of a row of ints -/
abbrev dTup (k : List Int) : PyData := .tuple (k.map .int)
theorem depth_tup (k : List Int) : (dTup k).depth ≤ 1 := by
  show PyData.depth (.tuple (k.map .int)) ≤ 1
  simp only [PyData.depth, PySem.W.depth_ints]
  omega
theorem alike_tup (k l : List Int) : PySem.W.alike (dTup k) (dTup l) = true := by
  show PySem.W.alike (.tuple (k.map .int)) (.tuple (l.map .int)) = true
  simp only [PySem.W.alike]
  exact PySem.W.alike_ints k l
end
end RL
/-! S9 -/
set_option Elab.async false
set_option linter.all false
set_option maxRecDepth 100000
set_option maxHeartbeats 4000000
namespace RL
open PySem PySem.Spec PyProof.Rows L2 PpSet
open PySem.W (AllAlike EachIs dataLe)
section
variable {P : Program} {w : World} {A : Around} {E : Value → Shared → Prop} {s : Shared}
theorem reads_isT {h : Heap} {k : List Int} {a : Addr} (x : TS.TupInts h (.ref a) k) : ∃ as, Reads h (.ref a) (dTup k) as := by
  obtain ⟨b, xs, e, ⟨o, ho, hc, n, hd⟩, hi⟩ := x
  cases e
  have all : ∀ {us : List Value} {ns : List Int}, IntsAre us ns → ∃ as, ReadsAll h us (ns.map .int) as := by
    intro us ns q
    induction q with
    | nil => exact ⟨_, .nil⟩
    | cons n t _ ih =>
      obtain ⟨as, r⟩ := ih
      exact ⟨_, .cons (Reads.int n t) r⟩
  obtain ⟨as, r⟩ := all hi
  exact ⟨_, Reads.tuple ho hc hd r⟩
theorem sorted_setU {a : Addr} {L : List (Addr × List Int)} {es : Array (Int × Value)} {ep : Nat} {t : SetTable} {Q : Value → Shared → Prop} (R : SetTR P w s.heap a L es ep t) (hh : A.handled = none) (hu : A.units + 8 < cLine)
    (hQ : ∀ s' p (out : List Value) (c : Nat) (L1 : List (Addr × List Int)), (∀ b o, s.heap.get? b = some o → s'.heap.get? b = some o) → s'.gens = s.gens → s'.os = s.os → s.heap.objs.size ≤ p →
      s'.heap.get? p = some (seqObj "list" out.toArray c) → L1.Perm L → out = (L1.mergeSort (dataLe false fun q => dTup q.2)).map (fun q => Value.ref q.1) → Q (.ref p) s') :
    wpAny (model P w) A (call (.builtin "sorted") [.ref a]) Q E s := by
  obtain ⟨o, ho, hex, hd⟩ := R.ob
  have hsz := R.size
  have hfew := R.few
  refine Calls.call_function_entry kind_sorted plain_sorted entry_sorted (args_sorted1 _) ?_
  unfold Builtin.«sorted»
  refine wpAny_bind (m := checkCount "sorted" 1 1 _) (wpAny_pure ?_)
  refine wpAny_bind (collect_set (A := A.in1) hh ⟨o, ho, hex.1, hd⟩ R.fits (by unfold scanBound; omega) R.tab.ris R.led fun s1 vs k1 hz g1 o1 pm => ?_)
  have hes : es.toList.map (·.2) = L.map fun q => Value.ref q.1 := by
    rw [R.rows]
    unfold rowsOf
    rw [List.map_map] <;> rfl
  rw [hes] at pm
  -- some arrangement of the rows
  have arr : ∀ (vs : List Value) (L : List (Addr × List Int)), vs.Perm (L.map fun q => Value.ref q.1) → ∃ L1 : List (Addr × List Int), L1.Perm L ∧ vs = L1.map fun q => Value.ref q.1 := by
    intro vs
    induction vs with
    | nil =>
      intro L p
      have e : L = [] := by
        have q := p.length_eq
        rw [List.length_map] at q
        exact List.eq_nil_of_length_eq_zero q.symm
      exact ⟨[], by rw [e], rfl⟩
    | cons v vs ih =>
      intro L p
      obtain ⟨q, hq, e⟩ := List.mem_map.mp (p.mem_iff.mp (List.mem_cons_self))
      obtain ⟨l1, l2, rfl⟩ := List.append_of_mem hq
      have p2 : vs.Perm ((l1 ++ l2).map fun q => Value.ref q.1) := by
        have z : (v :: vs).Perm (v :: ((l1 ++ l2).map fun q => Value.ref q.1)) := by
          refine p.trans ?_
          rw [← e, List.map_append, List.map_append, List.map_cons]
          exact List.perm_middle
        exact z.cons_inv
      obtain ⟨L1, pL, e1⟩ := ih _ p2
      exact ⟨q :: L1, (pL.cons q).trans List.perm_middle.symm, by rw [List.map_cons, e, e1]⟩
  obtain ⟨L1, pL, rfl⟩ := arr vs L pm
  have hlen : (L1.map fun q => Value.ref q.1).length ≤ sizeLine := by rw [List.length_map, pL.length_eq, sizeLine_eq]; omega
  refine wpAny_bind (wpAny_newList ?_ (by exact hlen))
  have hoL : (s1.heap.push (seqObj "list" (L1.map fun q => Value.ref q.1).toArray 0)).get? s1.heap.objs.size = some (seqObj "list" (L1.map fun q => Value.ref q.1).toArray 0) := Heap.get?_push_size _ rfl
  generalize hh1 : s1.heap.push (seqObj "list" (L1.map fun q => Value.ref q.1).toArray 0) = h1 at hoL ⊢
  have old1 : ∀ b o, s.heap.get? b = some o → h1.get? b = some o := fun b o e => by rw [← hh1]; exact Heap.get?_push_of_some _ (k1 b o e)
  have ne : ∀ b o, s.heap.get? b = some o → b ≠ s1.heap.objs.size := fun b o e => Nat.ne_of_lt (Heap.lt_size (k1 b o e))
  have rd : ∀ q ∈ L1, ∃ as, Reads (PySem.W.sortingHeap h1 s1.heap.objs.size (L1.map fun q => Value.ref q.1)) (.ref q.1) (dTup q.2) as := fun q hq => by
    have x : IsT P w s.heap q.2 q.1 := R.tup q (pL.mem_iff.mp hq)
    exact reads_isT (tupInts_of (P := P) (w := w) (isT_keep x fun b o e => PySem.W.sortingHeap_old (ne b o e) (old1 b o e)))
  have eR : ∀ l : List (Addr × List Int), EachIs (fun v (q : Addr × List Int) => v = Value.ref q.1) (l.map fun q => Value.ref q.1) l := by
    intro l
    induction l with
    | nil => exact .nil
    | cons q l ih => exact .cons rfl ih
  have er : ∀ l : List (Addr × List Int), (∀ q ∈ l, q ∈ L1) → EachIs (fun v (q : Addr × List Int) => ∃ as, Reads (PySem.W.sortingHeap h1 s1.heap.objs.size (L1.map fun q => Value.ref q.1)) v (dTup q.2) as) (l.map fun q => Value.ref q.1) l := by
    intro l
    induction l with
    | nil => intro _; exact .nil
    | cons q l ih => intro h; exact .cons (rd q (h q List.mem_cons_self)) (ih fun r hr => h r (List.mem_cons_of_mem _ hr))
  have er1 := er L1 fun _ h => h
  have hal : AllAlike (L1.map fun q => dTup q.2) := PySem.W.AllAlike.of fun b b' => alike_tup _ _
  have hS := RS.sortsAt_any (prog := P) (w := w) (A := A.in1.in1) (s := { s1 with heap := PySem.W.sortingHeap h1 s1.heap.objs.size (L1.map fun q => Value.ref q.1) }) (PySem.W.each_map (R := fun v d => ∃ as, Reads (PySem.W.sortingHeap h1 s1.heap.objs.size (L1.map fun q => Value.ref q.1)) v d as) (fun q : Addr × List Int => dTup q.2) er1) hal (.inr fun d hd => by
      obtain ⟨q, _, e⟩ := List.mem_map.mp hd
      exact ⟨_, e.symm⟩) (fun d hd => by
      obtain ⟨q, _, e⟩ := List.mem_map.mp hd
      have := depth_tup q.2
      rw [← e]
      show A.units + 1 + 1 + (dTup q.2).depth < cLine
      omega)
  have outs := PySem.W.sortVals_data (R := fun v (q : Addr × List Int) => v = Value.ref q.1) (enc := fun q : Addr × List Int => dTup q.2) false (eR L1) er1 hal
  have outE : ∀ (vs : List Value) (l : List (Addr × List Int)), EachIs (fun v (q : Addr × List Int) => v = Value.ref q.1) vs l → vs = l.map fun q => Value.ref q.1 := by
    intro vs l e
    induction e with
    | nil => rfl
    | cons r _ ih => rw [List.map_cons, r, ih]
  have outs' := outE _ _ outs
  refine wpAny_bind (wpAny_holding (wpAny_call_entry slot_list_sort ⟨_, hoL, rfl⟩ entry_list_sort ?_ (args_list_sort _)))
  refine PySem.W.list_sort_vals (s := { s1 with heap := h1 }) hoL hS hlen ⟨_, rfl, wpAny_pure ⟨_, rfl, ?_⟩⟩
  obtain ⟨c, hc⟩ := sortedHeap_at (vs := L1.map fun q => Value.ref q.1) (out := (PySem.W.sortVals (PySem.W.dataKind (PySem.W.sortingHeap h1 s1.heap.objs.size (L1.map fun q => Value.ref q.1)) (L1.map fun q => dTup q.2)) false (L1.map fun q => Value.ref q.1) (L1.map fun q => Value.ref q.1)).toArray) hoL
  refine hQ _ s1.heap.objs.size _ c L1 (fun b u e => ?_) g1 o1 hz hc pL outs'
  show (sortedHeap h1 s1.heap.objs.size _ _).get? b = some u
  rw [sortedHeap_old (ne b u e) (Heap.lt_size (old1 b u e))]
  exact old1 b u e
end
end RL
/-! S10 -/
set_option Elab.async false
set_option linter.all false
set_option maxRecDepth 100000
set_option maxHeartbeats 4000000
namespace RL
open PySem PySem.Spec PyProof.Rows L2 PpSet
open PySem.W (AllAlike EachIs dataLe)
section
variable {X : Cx}
/-- sorted(a set of tuples of ints) -/
def rSortedU (K : PySem.W.Frag) (P : Program) (w : World) : List V → Hp → VK → Prop := fun vs H Q => ∃ (a : Addr) (L : List (Addr × List Int)), vs = [V.ref a] ∧ SetTs K P w H a L ∧
  ∀ L1 : List (Addr × List Int), L1.Perm L → (L1.map (·.2)).Nodup → NewL H Q ((L1.mergeSort (dataLe false fun q => dTup q.2)).map fun q => V.ref q.1)
theorem cr_sortedU (hc : X.calm = true) (hu : X.A.units + 8 < cLine) : CallR X (.builtin "sorted") (rSortedU X.K X.prog X.w) := by
  intro pins s σ H vs us Q I r h
  obtain ⟨a, L, rfl, ⟨ha, hk⟩, q⟩ := h
  have R0 : SetT0 X.prog X.w s.heap a L := (I.hok a _ ha).1
  obtain ⟨es, ep, t, R⟩ := R0.full fun p hp => I.isT (hk p hp)
  rw [Vals.ref1 r]
  refine sorted_setU R (I.ok.hd hc) hu fun s' p out c L1 k g o hp hg pm hout => ?_
  have hnd : (L1.map (·.2)).Nodup := (pm.map (·.2)).nodup_iff.mpr R.nd
  have hlen : ((L1.mergeSort (dataLe false fun q => dTup q.2)).map fun q => V.ref q.1).length ≤ sizeLine := by
    have := R.few
    rw [List.length_map, List.length_mergeSort, pm.length_eq, sizeLine_eq]
    omega
  have hn : H p = none := I.hok.fresh hp
  have hv : Vals ((L1.mergeSort (dataLe false fun q => dTup q.2)).map fun q => V.ref q.1) out := by rw [hout]; exact vals_of_refs _
  have J : Inv X pins σ (upd H p (.lst ((L1.mergeSort (dataLe false fun q => dTup q.2)).map fun q => V.ref q.1))) { s with heap := s'.heap, gens := s'.gens, drawn := s'.drawn, toks := s'.toks } :=
    I.call (ch := []) (Un.laid k hp hn) (I.hok.laid k hp ⟨hlen, out, c, hv, hg⟩) (by rw [g]; exact I.bare) (fun _ z => nomatch z)
  have e : s' = { s with heap := s'.heap, gens := s'.gens, drawn := s'.drawn, toks := s'.toks } := by
    cases s'
    cases s
    cases o
    rfl
  rw [e]
  exact ⟨.ref p, _, J, rfl, NewL.al (q L1 pm hnd) p hn⟩
/-- a comprehension over a tuple, its members tuples of ints -/
theorem sc_tupT {K : PySem.W.Frag} {P : Program} {w : World} {a : Addr} {xs : List V} {g : TG} {tt : TT} {te : TE} {vs : List Nat} {σ : L2.St} {H1 : Hp} {D : Addr} {Qd : Hp → Prop} (Pv : Nat → Hp → Prop) (h0 : Pv 0 (upd H1 D (SetTO P w D []))) (hl : ∀ i H, i ≤ xs.length → Pv i H → SqT K H a xs)
    (hs : ∀ i x H, xs[i]? = some x → Pv i H → g x (wipe σ vs) H fun σ2 H2 => wipe σ2 vs = wipe σ vs ∧ tt σ2 H2 fun b H3 =>
      if b = true then te σ2 H3 fun y H4 => ∃ (c : Addr) (k : List Int) (L : List (Addr × List Int)), y = .ref c ∧ SetTs K P w H4 D L ∧ SqT K H4 c (k.map V.int) ∧ L.length + 1 < 64 ∧
        ∀ L', (k ∈ L.map (·.2) → L' = L) → (k ∉ L.map (·.2) → L'.Perm ((c, k) :: L)) → Pv (i + 1) (upd H4 D (SetTO P w D L')) else Pv (i + 1) H3) (hd : ∀ H, Pv xs.length H → Qd H) :
    ∃ W : Nat → Nat → Hp → Prop, (∃ m, W 0 m (upd H1 D (SetTO P w D []))) ∧ ∀ i m H, W i m H →
      ((Itt K a).stop i H ∧ Qd H) ∨ ((Itt K a).go i H ∧ ∃ Nx : Hp → Prop, (∀ H', Nx H' → ∃ m', m' < m ∧ W (i + 1) m' H') ∧ ∀ x H', (Itt K a).yld i H x H' → g x (wipe σ vs) H' fun σ2 H2 => wipe σ2 vs = wipe σ vs ∧ tt σ2 H2 fun b H3 =>
        if b = true then te σ2 H3 fun y H4 => ∃ (c : Addr) (k : List Int) (L : List (Addr × List Int)), y = .ref c ∧ SetTs K P w H4 D L ∧ SqT K H4 c (k.map V.int) ∧ L.length + 1 < 64 ∧
          ∀ L', (k ∈ L.map (·.2) → L' = L) → (k ∉ L.map (·.2) → L'.Perm ((c, k) :: L)) → Nx (upd H4 D (SetTO P w D L')) else Nx H3) := by
  refine ⟨fun i m H => m = xs.length - i ∧ i ≤ xs.length ∧ Pv i H, ⟨xs.length, by simp, Nat.zero_le _, h0⟩, fun i m H ⟨em, hi, p⟩ => ?_⟩
  subst em
  have q := hl i H hi p
  rcases Nat.lt_or_ge i xs.length with hlt | hge
  · refine .inr ⟨⟨xs, xs[i], q, by simp [hlt]⟩, Pv (i + 1), fun H' p' => ⟨xs.length - (i + 1), by omega, rfl, hlt, p'⟩, fun x H' y => ?_⟩
    obtain ⟨e, y⟩ := y
    subst e
    exact hs i x _ (y xs q) p
  · have e : i = xs.length := Nat.le_antisymm hi hge
    subst e
    exact .inl ⟨⟨xs, q, Nat.le_refl _⟩, hd H p⟩
end
end RL
/-! S11 -/
set_option Elab.async false
set_option linter.all false
set_option maxRecDepth 100000
set_option maxHeartbeats 2000000
namespace RL
open PySem PySem.Spec PyProof.Rows L2 PpSet
section
variable {X : Cx}
theorem call_repr_bl : CallR X (.builtin "repr") (fun xs H Q => ∃ b, xs = [.bl b] ∧ Q (.str (if b then "True" else "False")) H) := by
  intro pins s σ H xs us Q I r h
  obtain ⟨b, rfl, q⟩ := h
  obtain ⟨u, rfl, e⟩ := vals1 r
  cases (show u = Value.bool b from e)
  exact PySem.P.repr_of_bool ⟨.str _, H, I.tok _, ⟨_, rfl⟩, q⟩
/-- list(g) -/
def tListGS (tg : TGen) : TE := fun σ H Q => tg σ H fun out H2 => NewL H2 Q out
def upG (tg : TGen) : TGen := fun σ H Q => ∃ Q0 : List V → Hp → Prop, tg σ H Q0 ∧ ∀ x H1, Q0 x H1 → Q x H1
end
/-! ### values by what they are -/
/-- a row of ints stands at v -/
def IsW (K : PySem.W.Frag) (H : Hp) (v : V) (k : List Int) : Prop := ∃ a, v = .ref a ∧ SqT K H a (k.map V.int)
theorem IsW.same {K : PySem.W.Frag} {H H' : Hp} {v : V} {k : List Int} (e : Same H H') (h : IsW K H v k) : IsW K H' v k := let ⟨a, q, s⟩ := h; ⟨a, q, Same.sqt e s⟩
theorem IsW.dp {K : PySem.W.Frag} {H : Hp} {v : V} {k : List Int} (h : IsW K H v k) : Dp K H v (dTup k) := by
  obtain ⟨a, rfl, s⟩ := h
  refine .tup s ?_
  clear s
  induction k with
  | nil => exact .nil
  | cons n k ih => exact .cons (.int n) ih
theorem lay_ints (k : List Int) : PyData.canLayAll0 (k.map PyData.int) = true := by
  induction k with
  | nil => simp [PyData.canLayAll0]
  | cons n k ih => simp [PyData.canLayAll0, PyData.canLay0, ih]
theorem shaped_tup (k : List Int) : SeqAt.shaped (dTup k) = true := by
  have d := depth_tup k
  unfold SeqAt.shaped
  rw [Bool.and_eq_true]
  exact ⟨by simp only [PyData.canLay0, lay_ints], decide_eq_true (by omega)⟩
theorem eqv_tup (k l : List Int) : PyData.eqv (dTup k) (dTup l) = decide (k = l) := by
  have h : ∀ k l : List Int, PyData.eqvAll (k.map PyData.int) (l.map PyData.int) = decide (k = l) := by
    intro k
    induction k with
    | nil => intro l; cases l <;> simp [PyData.eqvAll]
    | cons n k ih =>
      intro l
      cases l with
      | nil => simp [PyData.eqvAll]
      | cons m l =>
        simp only [List.map_cons, PyData.eqvAll, PyData.eqv, ih, List.cons.injEq, Bool.decide_and]
        congr 1
  simp only [PyData.eqv, h]
theorem cut_map (k : List Int) (lo hi : Option Int) : cutV (k.map V.int) lo hi = ((k.drop (HT.sIx k.length 0 lo)).take (HT.sIx k.length k.length hi - HT.sIx k.length 0 lo)).map V.int := by
  unfold cutV
  rw [List.length_map, List.map_take, List.map_drop]
/-- k[i:] -/
theorem cut_from (k : List Int) {i : Int} (h0 : 0 ≤ i) : cutV (k.map V.int) (some i) none = (k.drop i.toNat).map V.int := by
  rw [cut_map]
  have e1 : HT.sIx k.length 0 (some i) = min i.toNat k.length := by
    show (if i < 0 then (i + (k.length : Int)).toNat else min i.toNat k.length) = _
    rw [if_neg (by omega)]
  have e2 : HT.sIx k.length k.length none = k.length := rfl
  rw [e1, e2]
  congr 1
  by_cases h : i.toNat ≤ k.length
  · rw [Nat.min_eq_left h]
    exact List.take_of_length_le (by rw [List.length_drop]; exact Nat.le_refl _)
  · rw [Nat.min_eq_right (by omega), List.drop_length, List.drop_eq_nil_of_le (by omega)]
    simp
/-- k[:i] -/
theorem cut_to (k : List Int) {i : Int} (h0 : 0 ≤ i) : cutV (k.map V.int) none (some i) = (k.take i.toNat).map V.int := by
  rw [cut_map]
  have e1 : HT.sIx k.length k.length (some i) = min i.toNat k.length := by
    show (if i < 0 then (i + (k.length : Int)).toNat else min i.toNat k.length) = _
    rw [if_neg (by omega)]
  have e2 : HT.sIx k.length 0 none = 0 := rfl
  rw [e1, e2, Nat.sub_zero, List.drop_zero]
  congr 1
  by_cases h : i.toNat ≤ k.length
  · rw [Nat.min_eq_left h]
  · rw [Nat.min_eq_right (by omega), List.take_length, List.take_of_length_le (by omega)]
theorem at_int {k : List Int} {i : Int} {x : Int} (h0 : 0 ≤ i) (h : k[i.toNat]? = some x) : atI (k.map V.int) i = some (.int x) := by
  have e : i = ((i.toNat : Nat) : Int) := by omega
  rw [e]
  exact atI_nat (by rw [List.getElem?_map, h] <;> rfl)
theorem at_v {k : List V} {i : Int} {x : V} (h0 : 0 ≤ i) (h : k[i.toNat]? = some x) : atI k i = some x := by
  have e : i = ((i.toNat : Nat) : Int) := by omega
  rw [e]
  exact atI_nat h
theorem rep_int (k : List Int) (n : Nat) : (List.replicate n (k.map V.int)).flatten = ((List.replicate n k).flatten).map V.int := by
  induction n with
  | zero => rfl
  | succ n ih => rw [List.replicate_succ, List.replicate_succ, List.flatten_cons, List.flatten_cons, ih, List.map_append]
theorem size200 {n : Nat} (h : n ≤ 100000) : n ≤ sizeLine := by rw [sizeLine_eq]; omega
/-- a number, a truth value, or something that is no int at all -/
def NumV (K : PySem.W.Frag) (H : Hp) (v : V) : Prop := (∃ i, v = .int i) ∨ (∃ b, v = .bl b) ∨ ((∀ i, v ≠ .int i) ∧ (∀ b, v ≠ .bl b) ∧ ∃ t, TyX K H v t ∧ PySem.W.kitOne K t (.type "int") = some false)
/-- is_number's answer -/
def numB (v : V) (lo hi : Int) : Bool := match v with
  | .int i => decide (lo ≤ i) && decide (i ≤ hi)
  | _ => false
theorem clsv (n : String) : ClsV (.ty n) (.type n) := by first | exact .ty n | exact rfl | constructor
end RL
/-! S12 -/
set_option Elab.async false
set_option linter.all false
set_option maxRecDepth 100000
set_option maxHeartbeats 2000000
namespace RL
open PySem PySem.Spec PyProof.Rows L2 PpSet
theorem same_mut {H H' : Hp} {D : Addr} {o : HO} (h : H D = none) (s : Same H H') : Same H (upd H' D o) := fun b u q => by rw [upd_ne (ne_of_none q h)]; exact s b u q
theorem ifT {c : Bool} {A B : Prop} (hc : c = true) (h : A) : if c = true then A else B := by
  rw [if_pos hc]
  exact h
theorem ifF {c : Bool} {A B : Prop} (hc : c = false) (h : B) : if c = true then A else B := by
  rw [hc, if_neg Bool.false_ne_true]
  exact h
theorem take_more {α : Type} : ∀ {l : List α} {i : Nat} {x : α}, l[i]? = some x → l.take (i + 1) = l.take i ++ [x]
  | [], i, x, h => by simp at h
  | a :: l, 0, x, h => by
    cases Option.some.inj h
    rfl
  | a :: l, i + 1, x, h => by
    have ih := take_more (l := l) (i := i) (x := x) h
    show a :: l.take (i + 1) = a :: l.take i ++ [x]
    rw [ih]
    rfl
theorem wipe_one (σ : L2.St) (i : Nat) (v : Option V) : wipe ((wipe σ [i]).set i v) [i] = wipe σ [i] := by
  show (((σ.set i none).set i v).set i none) = σ.set i none
  rw [List.set_set, List.set_set]
section
variable {K : PySem.W.Frag} {a : Addr} {xs : List V} {te : TE} {σ : L2.St} {H1 : Hp} {i : Nat}
/-- [e for x in t]: e says f x of x, and leaves what is tracked -/
theorem lc_tupF {Qd : Addr → Hp → Prop} (f : V → V) (hx : SqT K H1 a xs) (hz : xs.length < sizeLine) (el : ∀ x ∈ xs, ∀ (H : Hp) (Q : VK), Same H1 H → (∀ H', Same H H' → Q (f x) H') → te ((wipe σ [i]).set i (some x)) H Q) (fin : ∀ H' p, Same H1 H' → H1 p = none → H' p = some (.lst (xs.map f)) → Qd p H') :
    ∀ D, H1 D = none → ∃ W : Nat → Nat → Hp → Prop, (∃ m, W 0 m (upd H1 D (.lst []))) ∧ ∀ j m H, W j m H →
      ((Itt K a).stop j H ∧ Qd D H) ∨ ((Itt K a).go j H ∧ ∃ Nx : Hp → Prop, (∀ H', Nx H' → ∃ m', m' < m ∧ W (j + 1) m' H') ∧ ∀ x H', (Itt K a).yld j H x H' → gName i x (wipe σ [i]) H' fun σ2 H2 => wipe σ2 [i] = wipe σ [i] ∧ tYes σ2 H2 fun b H3 =>
        if b = true then te σ2 H3 fun y H4 => ∃ acc, H4 D = some (.lst acc) ∧ acc.length < sizeLine ∧ Nx (upd H4 D (.lst (acc ++ [y]))) else Nx H3) := by
  intro D hD
  refine lc_tup (xs := xs) (Qd := fun H => Qd D H) (fun j H => Same H1 H ∧ H D = some (.lst ((xs.take j).map f))) ⟨same_upd hD _, upd_same⟩ (fun j H _ p => Same.sqt p.1 hx) (fun j x H hj p => ?_) fun H p => ?_
  · refine ⟨wipe_one _ _ _, ?_⟩
    dsimp only [tYes]
    rw [if_pos rfl]
    refine el x (List.mem_of_getElem? hj) H _ p.1 fun H' s => ⟨_, s _ _ p.2, ?_, same_mut hD (Same.trans p.1 s), ?_⟩
    · rw [List.length_map, List.length_take]
      omega
    · rw [upd_same, take_more hj, List.map_append] <;> rfl
  · rw [List.take_length] at p
    exact fin H D p.1 hD p.2
/-- [e for x in l] -/
theorem lc_lstF {Qd : Addr → Hp → Prop} (f : V → V) (hx : SqL K H1 a xs) (hz : xs.length < sizeLine) (el : ∀ x ∈ xs, ∀ (H : Hp) (Q : VK), Same H1 H → (∀ H', Same H H' → Q (f x) H') → te ((wipe σ [i]).set i (some x)) H Q) (fin : ∀ H' p, Same H1 H' → H1 p = none → H' p = some (.lst (xs.map f)) → Qd p H') :
    ∀ D, H1 D = none → ∃ W : Nat → Nat → Hp → Prop, (∃ m, W 0 m (upd H1 D (.lst []))) ∧ ∀ j m H, W j m H →
      ((Itl K a).stop j H ∧ Qd D H) ∨ ((Itl K a).go j H ∧ ∃ Nx : Hp → Prop, (∀ H', Nx H' → ∃ m', m' < m ∧ W (j + 1) m' H') ∧ ∀ x H', (Itl K a).yld j H x H' → gName i x (wipe σ [i]) H' fun σ2 H2 => wipe σ2 [i] = wipe σ [i] ∧ tYes σ2 H2 fun b H3 =>
        if b = true then te σ2 H3 fun y H4 => ∃ acc, H4 D = some (.lst acc) ∧ acc.length < sizeLine ∧ Nx (upd H4 D (.lst (acc ++ [y]))) else Nx H3) := by
  intro D hD
  refine lc_list (xs := xs) (Qd := fun H => Qd D H) (fun j H => Same H1 H ∧ H D = some (.lst ((xs.take j).map f))) ⟨same_upd hD _, upd_same⟩ (fun j H _ p => p.1.seq hx) (fun j x H hj p => ?_) fun H p => ?_
  · refine ⟨wipe_one _ _ _, ?_⟩
    dsimp only [tYes]
    rw [if_pos rfl]
    refine el x (List.mem_of_getElem? hj) H _ p.1 fun H' s => ⟨_, s _ _ p.2, ?_, same_mut hD (Same.trans p.1 s), ?_⟩
    · rw [List.length_map, List.length_take]
      omega
    · rw [upd_same, take_more hj, List.map_append] <;> rfl
  · rw [List.take_length] at p
    exact fin H D p.1 hD p.2
theorem range_more (f : Nat → V) (n : Nat) : (List.range (n + 1)).map f = (List.range n).map f ++ [f n] := by rw [List.range_succ, List.map_append] <;> rfl
/-- [e for x in range(lo, lo + n)] -/
theorem lc_rngF {Qd : Addr → Hp → Prop} {lo : Int} {n : Nat} (f : Nat → V) (hz : n < sizeLine) (el : ∀ j, j < n → ∀ (H : Hp) (Q : VK), Same H1 H → (∀ H', Same H H' → Q (f j) H') → te ((wipe σ [i]).set i (some (.int (lo + j)))) H Q) (fin : ∀ H' p, Same H1 H' → H1 p = none → H' p = some (.lst ((List.range n).map f)) → Qd p H') :
    ∀ D, H1 D = none → ∃ W : Nat → Nat → Hp → Prop, (∃ m, W 0 m (upd H1 D (.lst []))) ∧ ∀ j m H, W j m H →
      ((Itr lo n).stop j H ∧ Qd D H) ∨ ((Itr lo n).go j H ∧ ∃ Nx : Hp → Prop, (∀ H', Nx H' → ∃ m', m' < m ∧ W (j + 1) m' H') ∧ ∀ x H', (Itr lo n).yld j H x H' → gName i x (wipe σ [i]) H' fun σ2 H2 => wipe σ2 [i] = wipe σ [i] ∧ tYes σ2 H2 fun b H3 =>
        if b = true then te σ2 H3 fun y H4 => ∃ acc, H4 D = some (.lst acc) ∧ acc.length < sizeLine ∧ Nx (upd H4 D (.lst (acc ++ [y]))) else Nx H3) := by
  intro D hD
  refine lc_range (Qd := fun H => Qd D H) (fun j H => j ≤ n ∧ Same H1 H ∧ H D = some (.lst ((List.range j).map f))) ⟨Nat.zero_le _, same_upd hD _, upd_same⟩ (fun j H hj p => ?_) fun H p => ?_
  · refine ⟨wipe_one _ _ _, ?_⟩
    dsimp only [tYes]
    rw [if_pos rfl]
    refine el j hj H _ p.2.1 fun H' s => ⟨_, s _ _ p.2.2, ?_, hj, same_mut hD (Same.trans p.2.1 s), ?_⟩
    · rw [List.length_map, List.length_range]
      omega
    · rw [upd_same, range_more]
  · exact fin H D p.2.1 hD p.2.2
/-- [x for x in l if t]: t says p x of x, and leaves what is tracked -/
theorem lc_lstP {Qd : Addr → Hp → Prop} {tt : TT} (f : V → V) (p : V → Bool) (hx : SqL K H1 a xs) (hz : xs.length < sizeLine) (tel : ∀ x ∈ xs, ∀ (H : Hp) (Q : Bool → Hp → Prop), Same H1 H → (∀ H', Same H H' → Q (p x) H') → tt ((wipe σ [i]).set i (some x)) H Q)
    (el : ∀ x ∈ xs, p x = true → ∀ (H : Hp) (Q : VK), Same H1 H → (∀ H', Same H H' → Q (f x) H') → te ((wipe σ [i]).set i (some x)) H Q) (fin : ∀ H' D, Same H1 H' → H1 D = none → H' D = some (.lst ((xs.filter p).map f)) → Qd D H') :
    ∀ D, H1 D = none → ∃ W : Nat → Nat → Hp → Prop, (∃ m, W 0 m (upd H1 D (.lst []))) ∧ ∀ j m H, W j m H →
      ((Itl K a).stop j H ∧ Qd D H) ∨ ((Itl K a).go j H ∧ ∃ Nx : Hp → Prop, (∀ H', Nx H' → ∃ m', m' < m ∧ W (j + 1) m' H') ∧ ∀ x H', (Itl K a).yld j H x H' → gName i x (wipe σ [i]) H' fun σ2 H2 => wipe σ2 [i] = wipe σ [i] ∧ tt σ2 H2 fun b H3 =>
        if b = true then te σ2 H3 fun y H4 => ∃ acc, H4 D = some (.lst acc) ∧ acc.length < sizeLine ∧ Nx (upd H4 D (.lst (acc ++ [y]))) else Nx H3) := by
  intro D hD
  refine lc_list (xs := xs) (Qd := fun H => Qd D H) (fun j H => Same H1 H ∧ H D = some (.lst (((xs.take j).filter p).map f))) ⟨same_upd hD _, upd_same⟩ (fun j H _ p => p.1.seq hx) (fun j x H hj q => ?_) fun H q => ?_
  · refine ⟨wipe_one _ _ _, ?_⟩
    have hm := List.mem_of_getElem? hj
    refine tel x hm H _ q.1 fun H' s => ?_
    cases hp : p x with
    | true =>
      rw [if_pos rfl]
      refine el x hm hp H' _ (Same.trans q.1 s) fun H2 s2 => ⟨_, s2 _ _ (s _ _ q.2), ?_, same_mut hD (Same.trans q.1 (Same.trans s s2)), ?_⟩
      · have l1 := List.length_filter_le p (xs.take j)
        rw [List.length_map]
        rw [List.length_take] at l1
        omega
      · rw [upd_same, take_more hj, List.filter_append, List.map_append]
        simp [hp]
    | false =>
      rw [if_neg Bool.false_ne_true]
      refine ⟨Same.trans q.1 s, ?_⟩
      rw [take_more hj, List.filter_append]
      simp [hp]
      exact s _ _ q.2
  · rw [List.take_length] at q
    exact fin H D q.1 hD q.2
end
end RL
/-! S13 -/
set_option Elab.async false
set_option linter.all false
set_option maxRecDepth 100000
set_option maxHeartbeats 2000000
namespace RL
open PySem PySem.Spec PyProof.Rows L2 PpSet
/-- place by place -/
inductive Each {α β : Type} (R : α → β → Prop) : List α → List β → Prop
  | nil : Each R [] []
  | cons {a : α} {b : β} {as : List α} {bs : List β} : R a b → Each R as bs → Each R (a :: as) (b :: bs)
theorem Each.snoc {α β : Type} {R : α → β → Prop} {a : α} {b : β} (h : R a b) : ∀ {as : List α} {bs : List β}, Each R as bs → Each R (as ++ [a]) (bs ++ [b])
  | _, _, .nil => .cons h .nil
  | _, _, .cons q t => .cons q (Each.snoc h t)
theorem Each.imp {α β : Type} {R S : α → β → Prop} (f : ∀ a b, R a b → S a b) : ∀ {as : List α} {bs : List β}, Each R as bs → Each S as bs
  | _, _, .nil => .nil
  | _, _, .cons q t => .cons (f _ _ q) (Each.imp f t)
theorem Each.length {α β : Type} {R : α → β → Prop} : ∀ {as : List α} {bs : List β}, Each R as bs → as.length = bs.length
  | _, _, .nil => rfl
  | _, _, .cons _ t => congrArg (· + 1) (Each.length t)
/-- the tuples stand, and what is locked -/
def Stay (H H' : Hp) : Prop := (∀ b xs, H b = some (.tup xs) → H' b = some (.tup xs)) ∧ ∀ b o u, H b = some (.frz o u) → H' b = some (.frz o u)
theorem Stay.refl (H : Hp) : Stay H H := ⟨fun _ _ h => h, fun _ _ _ h => h⟩
theorem Stay.trans {H H1 H2 : Hp} (a : Stay H H1) (b : Stay H1 H2) : Stay H H2 := ⟨fun c x h => b.1 c x (a.1 c x h), fun c o u h => b.2 c o u (a.2 c o u h)⟩
theorem stay_of {H H' : Hp} (s : Same H H') : Stay H H' := ⟨fun b _ h => s b _ h, fun b _ _ h => s b _ h⟩
theorem stay_upd {H : Hp} {D : Addr} {o o' : HO} (hD : H D = some o) (n1 : ∀ ys, o ≠ .tup ys) (n2 : ∀ ob u, o ≠ .frz ob u) : Stay H (upd H D o') :=
  ⟨fun b xs h => by rw [upd_ne (fun z => by rw [z, hD] at h; exact n1 _ (Option.some.inj h))]; exact h, fun b ob u h => by rw [upd_ne (fun z => by rw [z, hD] at h; exact n2 _ _ (Option.some.inj h))]; exact h⟩
theorem stay_lst {H : Hp} {D : Addr} {xs : List V} {o' : HO} (hD : H D = some (.lst xs)) : Stay H (upd H D o') := stay_upd hD (fun _ z => nomatch z) (fun _ _ z => nomatch z)
theorem stay_set {P : Program} {w : World} {H : Hp} {D : Addr} {L : List (Addr × List Int)} {o' : HO} (hD : H D = some (SetTO P w D L)) : Stay H (upd H D o') := stay_upd hD (fun _ z => by unfold SetTO at z; cases z) (fun _ _ z => by unfold SetTO at z; cases z)
theorem Stay.sqt {K : PySem.W.Frag} {H H' : Hp} {a : Addr} {xs : List V} (e : Stay H H') (h : SqT K H a xs) : SqT K H' a xs := by
  rcases h with (h | ⟨o, h⟩) | h
  · exact .inl (.inl (e.1 _ _ h))
  · exact .inl (.inr ⟨o, e.2 _ _ _ h⟩)
  · exact .inr h
theorem IsW.stay {K : PySem.W.Frag} {H H' : Hp} {v : V} {k : List Int} (e : Stay H H') (h : IsW K H v k) : IsW K H' v k := let ⟨a, q, s⟩ := h; ⟨a, q, e.sqt s⟩
section
variable {K : PySem.W.Frag} {a : Addr} {xs : List V} {te : TE} {σ : L2.St} {H1 : Hp} {i : Nat}
/-- one turn of a comprehension that makes something new -/
theorem turn_new {R : Hp → V → V → Prop} (mono : ∀ H H' x y, Stay H H' → R H x y → R H' x y) {H H' : Hp} {D : Addr} {zs ys : List V} {x y : V} (hD : H1 D = none) (s : Same H1 H) (s2 : Same H H') (hys : H D = some (.lst ys)) (e : Each (R H) zs ys) (r : R H' x y) :
    H' D = some (.lst ys) ∧ Same H1 (upd H' D (.lst (ys ++ [y]))) ∧ ∃ ys', upd H' D (.lst (ys ++ [y])) D = some (.lst ys') ∧ Each (R (upd H' D (.lst (ys ++ [y])))) (zs ++ [x]) ys' := by
  have h := s2 _ _ hys
  have st := stay_lst (o' := .lst (ys ++ [y])) h
  exact ⟨h, same_mut hD (Same.trans s s2), _, upd_same, Each.snoc (mono _ _ _ _ st r) (e.imp fun a b q => mono _ _ _ _ (Stay.trans (stay_of s2) st) q)⟩
/-- [e for x in l], e makes something new -/
theorem lc_lstR {Qd : Addr → Hp → Prop} (R : Hp → V → V → Prop) (mono : ∀ H H' x y, Stay H H' → R H x y → R H' x y) (hx : SqL K H1 a xs) (hz : xs.length < sizeLine) (el : ∀ x ∈ xs, ∀ (H : Hp) (Q : VK), Same H1 H → (∀ H' y, Same H H' → R H' x y → Q y H') → te ((wipe σ [i]).set i (some x)) H Q)
    (fin : ∀ H' p ys, Same H1 H' → H1 p = none → H' p = some (.lst ys) → Each (R H') xs ys → Qd p H') :
    ∀ D, H1 D = none → ∃ W : Nat → Nat → Hp → Prop, (∃ m, W 0 m (upd H1 D (.lst []))) ∧ ∀ j m H, W j m H →
      ((Itl K a).stop j H ∧ Qd D H) ∨ ((Itl K a).go j H ∧ ∃ Nx : Hp → Prop, (∀ H', Nx H' → ∃ m', m' < m ∧ W (j + 1) m' H') ∧ ∀ x H', (Itl K a).yld j H x H' → gName i x (wipe σ [i]) H' fun σ2 H2 => wipe σ2 [i] = wipe σ [i] ∧ tYes σ2 H2 fun b H3 =>
        if b = true then te σ2 H3 fun y H4 => ∃ acc, H4 D = some (.lst acc) ∧ acc.length < sizeLine ∧ Nx (upd H4 D (.lst (acc ++ [y]))) else Nx H3) := by
  intro D hD
  refine lc_list (xs := xs) (Qd := fun H => Qd D H) (fun j H => Same H1 H ∧ ∃ ys, H D = some (.lst ys) ∧ Each (R H) (xs.take j) ys) ⟨same_upd hD _, [], upd_same, .nil⟩ (fun j H _ p => p.1.seq hx) (fun j x H hj p => ?_) fun H p => ?_
  · obtain ⟨s, ys, hys, e⟩ := p
    refine ⟨wipe_one _ _ _, ?_⟩
    dsimp only [tYes]
    rw [if_pos rfl]
    refine el x (List.mem_of_getElem? hj) H _ s fun H' y s2 r => ?_
    obtain ⟨h1, h2, h3⟩ := turn_new mono hD s s2 hys e r
    refine ⟨ys, h1, ?_, h2, by rw [take_more hj]; exact h3⟩
    have := e.length
    rw [List.length_take] at this
    omega
  · obtain ⟨s, ys, hys, e⟩ := p
    rw [List.take_length] at e
    exact fin H D ys s hD hys e
/-- [e for x in range(lo, lo + n)], e makes something new -/
theorem lc_rngR {Qd : Addr → Hp → Prop} {lo : Int} {n : Nat} (R : Hp → V → V → Prop) (mono : ∀ H H' x y, Stay H H' → R H x y → R H' x y) (hz : n < sizeLine) (el : ∀ j, j < n → ∀ (H : Hp) (Q : VK), Same H1 H → (∀ H' y, Same H H' → R H' (.int (lo + j)) y → Q y H') → te ((wipe σ [i]).set i (some (.int (lo + j)))) H Q)
    (fin : ∀ H' p ys, Same H1 H' → H1 p = none → H' p = some (.lst ys) → Each (R H') ((List.range n).map fun j => V.int (lo + (j : Nat))) ys → Qd p H') :
    ∀ D, H1 D = none → ∃ W : Nat → Nat → Hp → Prop, (∃ m, W 0 m (upd H1 D (.lst []))) ∧ ∀ j m H, W j m H →
      ((Itr lo n).stop j H ∧ Qd D H) ∨ ((Itr lo n).go j H ∧ ∃ Nx : Hp → Prop, (∀ H', Nx H' → ∃ m', m' < m ∧ W (j + 1) m' H') ∧ ∀ x H', (Itr lo n).yld j H x H' → gName i x (wipe σ [i]) H' fun σ2 H2 => wipe σ2 [i] = wipe σ [i] ∧ tYes σ2 H2 fun b H3 =>
        if b = true then te σ2 H3 fun y H4 => ∃ acc, H4 D = some (.lst acc) ∧ acc.length < sizeLine ∧ Nx (upd H4 D (.lst (acc ++ [y]))) else Nx H3) := by
  intro D hD
  refine lc_range (Qd := fun H => Qd D H) (fun j H => j ≤ n ∧ Same H1 H ∧ ∃ ys, H D = some (.lst ys) ∧ Each (R H) ((List.range j).map fun j => V.int (lo + (j : Nat))) ys) ⟨Nat.zero_le _, same_upd hD _, [], upd_same, .nil⟩ (fun j H hj p => ?_) fun H p => ?_
  · obtain ⟨_, s, ys, hys, e⟩ := p
    refine ⟨wipe_one _ _ _, ?_⟩
    dsimp only [tYes]
    rw [if_pos rfl]
    refine el j hj H _ s fun H' y s2 r => ?_
    obtain ⟨h1, h2, h3⟩ := turn_new mono hD s s2 hys e r
    refine ⟨ys, h1, ?_, hj, h2, by rw [range_more (fun j => V.int (lo + (j : Nat)))]; exact h3⟩
    have := e.length
    rw [List.length_map, List.length_range] at this
    omega
  · obtain ⟨_, s, ys, hys, e⟩ := p
    exact fin H D ys s hD hys e
end
end RL
/-! S14 -/
set_option Elab.async false
set_option linter.all false
set_option maxRecDepth 100000
namespace RL
open PySem PySem.Spec PyProof.Rows L2
variable {X : Cx}
theorem op_catK {K : PySem.W.Frag} (hK : X.K = K) : OpR X (binaryOp .Add) (rCatS K) := hK ▸ op_catS
theorem pe_revK {K : PySem.W.Frag} (hK : X.K = K) {e : Expr} {te : TE} {k : Nat} {p1 p2 p3 pos : Pos} (he : PE X e te) : PE X (.Subscript e (.Slice none none (some (.UnaryOp .USub (.Constant (.int 1) k p1) p2)) p3) pos) (tRevS K te) := hK ▸ pe_revS he
theorem pe_tupK {K : PySem.W.Frag} (hK : X.K = K) {es : List Expr} {t : TA} {x1} {pos : Pos} (h : PA X es t) : PE X (.Tuple es x1 pos) (tTupS K t) := hK ▸ pe_tupS h
theorem pg_tupK {K : PySem.W.Frag} (hK : X.K = K) {es : List Expr} {k : Nat} {t : TGs} {n : Nat} {pos : Pos} (hc : X.calm = true) (h : PGs X es t)
    (hn : (assignEach es X.env).length = n := by rfl) (hst : (assignEach es X.env).findIdx? (·.1) = none := by rfl) : PG X (.Tuple es k pos) (gTup K n t) := hK ▸ pg_tup hc h hn hst
theorem call_isiK {K : PySem.W.Frag} (hK : X.K = K) : CallR X (.builtin "isinstance") (rIsi K) := hK ▸ call_isi
theorem tt_mid {tt : TT} {σ : L2.St} {H : Hp} {k : Bool → Hp → Prop} (Pr : Bool → Prop) (h : ∀ b, Pr b → k b H) (f : ∀ k' : Bool → Hp → Prop, (∀ b, Pr b → k' b H) → tt σ H k') : tt σ H k := f k h
theorem passE0 {X : Cx} : Passes (CX X.prog X.w) X E0 := fun _ _ _ _ _ _ _ ⟨_, _, _, _, _, _, _, _, _, _, _, _, z⟩ => z.elim
theorem noStopE0 {K : PySem.W.Frag} : NoStop K E0 := fun _ _ _ h => h.elim
end RL
/-! S15 -/
set_option Elab.async false
set_option linter.all false
set_option maxRecDepth 100000
set_option maxHeartbeats 2000000
namespace RL
open PySem PySem.Spec PyProof.Rows L2 PpSet
section
variable {K : PySem.W.Frag} {a : Addr} {xs : List V} {te : TE} {σ : L2.St} {H1 : Hp} {i : Nat}
theorem turn_newA {α : Type} {R : Hp → α → V → Prop} (mono : ∀ H H' x y, Stay H H' → R H x y → R H' x y) {H H' : Hp} {D : Addr} {zs : List α} {ys : List V} {x : α} {y : V} (hD : H1 D = none) (s : Same H1 H) (s2 : Same H H') (hys : H D = some (.lst ys)) (e : Each (R H) zs ys) (r : R H' x y) :
    H' D = some (.lst ys) ∧ Same H1 (upd H' D (.lst (ys ++ [y]))) ∧ ∃ ys', upd H' D (.lst (ys ++ [y])) D = some (.lst ys') ∧ Each (R (upd H' D (.lst (ys ++ [y])))) (zs ++ [x]) ys' := by
  have h := s2 _ _ hys
  have st := stay_lst (o' := .lst (ys ++ [y])) h
  exact ⟨h, same_mut hD (Same.trans s s2), _, upd_same, Each.snoc (mono _ _ _ _ st r) (e.imp fun a b q => mono _ _ _ _ (Stay.trans (stay_of s2) st) q)⟩
/-- [e for x in l], e makes something new; l's items are named by other things -/
theorem lc_lstA {α : Type} {Qd : Addr → Hp → Prop} {zs : List α} (f : α → V) (R : Hp → α → V → Prop) (mono : ∀ H H' x y, Stay H H' → R H x y → R H' x y) (hx : SqL K H1 a (zs.map f)) (hz : zs.length < sizeLine) (el : ∀ z ∈ zs, ∀ (H : Hp) (Q : VK), Same H1 H → (∀ H' y, Same H H' → R H' z y → Q y H') → te ((wipe σ [i]).set i (some (f z))) H Q)
    (fin : ∀ H' p ys, Same H1 H' → H1 p = none → H' p = some (.lst ys) → Each (R H') zs ys → Qd p H') :
    ∀ D, H1 D = none → ∃ W : Nat → Nat → Hp → Prop, (∃ m, W 0 m (upd H1 D (.lst []))) ∧ ∀ j m H, W j m H →
      ((Itl K a).stop j H ∧ Qd D H) ∨ ((Itl K a).go j H ∧ ∃ Nx : Hp → Prop, (∀ H', Nx H' → ∃ m', m' < m ∧ W (j + 1) m' H') ∧ ∀ x H', (Itl K a).yld j H x H' → gName i x (wipe σ [i]) H' fun σ2 H2 => wipe σ2 [i] = wipe σ [i] ∧ tYes σ2 H2 fun b H3 =>
        if b = true then te σ2 H3 fun y H4 => ∃ acc, H4 D = some (.lst acc) ∧ acc.length < sizeLine ∧ Nx (upd H4 D (.lst (acc ++ [y]))) else Nx H3) := by
  intro D hD
  refine lc_list (xs := zs.map f) (Qd := fun H => Qd D H) (fun j H => Same H1 H ∧ ∃ ys, H D = some (.lst ys) ∧ Each (R H) (zs.take j) ys) ⟨same_upd hD _, [], upd_same, .nil⟩ (fun j H _ p => p.1.seq hx) (fun j x H hj p => ?_) fun H p => ?_
  · obtain ⟨s, ys, hys, e⟩ := p
    rw [List.getElem?_map] at hj
    obtain ⟨z, hz', rfl⟩ := Option.map_eq_some_iff.mp hj
    refine ⟨wipe_one _ _ _, ?_⟩
    dsimp only [tYes]
    rw [if_pos rfl]
    refine el z (List.mem_of_getElem? hz') H _ s fun H' y s2 r => ?_
    obtain ⟨h1, h2, h3⟩ := turn_newA mono hD s s2 hys e r
    refine ⟨ys, h1, ?_, h2, by rw [take_more hz']; exact h3⟩
    have := e.length
    rw [List.length_take] at this
    omega
  · obtain ⟨s, ys, hys, e⟩ := p
    rw [List.length_map, List.take_length] at e
    exact fin H D ys s hD hys e
/-- as lc_rngR, the indices by their number -/
theorem lc_rngA {Qd : Addr → Hp → Prop} {lo : Int} {n : Nat} (R : Hp → Nat → V → Prop) (mono : ∀ H H' x y, Stay H H' → R H x y → R H' x y) (hz : n < sizeLine) (el : ∀ j, j < n → ∀ (H : Hp) (Q : VK), Same H1 H → (∀ H' y, Same H H' → R H' j y → Q y H') → te ((wipe σ [i]).set i (some (.int (lo + j)))) H Q)
    (fin : ∀ H' p ys, Same H1 H' → H1 p = none → H' p = some (.lst ys) → Each (R H') (List.range n) ys → Qd p H') :
    ∀ D, H1 D = none → ∃ W : Nat → Nat → Hp → Prop, (∃ m, W 0 m (upd H1 D (.lst []))) ∧ ∀ j m H, W j m H →
      ((Itr lo n).stop j H ∧ Qd D H) ∨ ((Itr lo n).go j H ∧ ∃ Nx : Hp → Prop, (∀ H', Nx H' → ∃ m', m' < m ∧ W (j + 1) m' H') ∧ ∀ x H', (Itr lo n).yld j H x H' → gName i x (wipe σ [i]) H' fun σ2 H2 => wipe σ2 [i] = wipe σ [i] ∧ tYes σ2 H2 fun b H3 =>
        if b = true then te σ2 H3 fun y H4 => ∃ acc, H4 D = some (.lst acc) ∧ acc.length < sizeLine ∧ Nx (upd H4 D (.lst (acc ++ [y]))) else Nx H3) := by
  intro D hD
  refine lc_range (Qd := fun H => Qd D H) (fun j H => j ≤ n ∧ Same H1 H ∧ ∃ ys, H D = some (.lst ys) ∧ Each (R H) (List.range j) ys) ⟨Nat.zero_le _, same_upd hD _, [], upd_same, .nil⟩ (fun j H hj p => ?_) fun H p => ?_
  · obtain ⟨_, s, ys, hys, e⟩ := p
    refine ⟨wipe_one _ _ _, ?_⟩
    dsimp only [tYes]
    rw [if_pos rfl]
    refine el j hj H _ s fun H' y s2 r => ?_
    obtain ⟨h1, h2, h3⟩ := turn_newA mono hD s s2 hys e r
    refine ⟨ys, h1, ?_, hj, h2, by rw [List.range_succ]; exact h3⟩
    have := e.length
    rw [List.length_range] at this
    omega
  · obtain ⟨_, s, ys, hys, e⟩ := p
    exact fin H D ys s hD hys e
end
end RL
/-! S20 -/
set_option Elab.async false
set_option linter.all false
set_option maxRecDepth 100000
set_option maxHeartbeats 2000000
namespace RK
open PySem PySem.Spec PyProof.Rows PySem.SeqAt
section
variable {M : Model} {prog : Program} {w : World} {A : Around} {E : Value → Shared → Prop} {s : Shared} {K : PySem.W.Frag} {x C f : Addr} {ox : Obj} {od : Option Obj} {b tb : Value}
theorem ifBound_ne {args : List Value} {Q : Option Value → Shared → Prop} (X : K.In s.heap) (I : PySem.W.InstAt s.heap x ox C od) (hs : PySem.W.findIn K (.ref C) "__ne__" = some (some (.builtin "object.__ne__")))
    (h : wpAny M A (call (.builtin "object.__ne__") (.ref x :: args)) (fun v => Q (some v)) E s) : wpAny M A (callSpecialIfBound? (.ref x) "__ne__" args) Q E s := by
  simp only [callSpecialIfBound?, bindSpecialIfBound?]
  refine wpAny_holding (wpAny_bind (wpAny_bind (wpAny_bind (I.type.here ((PySem.W.looks_findIn X hs).here ?_)))))
  refine wpAny_bind (wpAny_askSetting (wpAny_ite ?_))
  have fin : wpAny M A (call (.builtin "object.__ne__") ([.ref x] ++ args) >>= fun v => pure (some v)) Q E s := wpAny_bind (wpAny_mono h (fun v s' h' => wpAny_pure h') fun _ _ h' => h')
  split
  · exact wpAny_bind (wpAny_of_eq (F.cmp_object.ne.bind _) (wpAny_pure (by exact fin)))
  · exact wpAny_tryCatch (wpAny_bind (wpAny_of_eq (F.cmp_object.ne.bind _) (wpAny_pure (by exact fin))))
theorem entry_ne {Q : Fin → Shared → Prop} (hu : A.units < cLine) (X : K.In s.heap) (I : PySem.W.InstAt s.heap x ox C od) (hs : PySem.W.findIn K (.ref C) "__eq__" = some (some (.ref f))) (hf : PySem.W.isFn K (.ref f) = true)
    (h : wpAny M A (call (.ref f) [.ref x, b]) (fun v s' => ∃ k, v = .bool k ∧ Q (.done (.ret (.bool (!k)))) s') E s) : wpAny M A (Builtin.«object.__ne__» ⟨[.ref x, b], []⟩) Q E s := by
  unfold Builtin.«object.__ne__»
  repeat (first
    | with_reducible refine wpAny_cRoomFor hu ?_
    | (refine wpAny_bind (m := callSpecialIfBound? (.ref x) (Str.ofString "__eq__") [b])
        (PySem.W.ifBound_K X I hs hf (wpAny_mono h (fun r s' hr => by
          obtain ⟨k, rfl, hq⟩ := hr
          repeat (first | exact hq | exact wpAny_pure hq | exact wpAny_truthy_bool hq | (refine wpAny_bind (m := truthy (.bool _)) (wpAny_truthy_bool ?_)) | wp_step)) fun _ _ e => e)))
    | wp_step)
theorem ne_own {Q : Value → Shared → Prop} (hu : A.units + 1 < cLine) (X : K.In s.heap) (I : PySem.W.InstAt s.heap x ox C od) (hm : PySem.W.mroIn K C (.type "object") = some true) (hb : PySem.W.Looks (model prog w) s.heap (typeOf b) tb) (hn : PySem.W.notFirst K C tb = true)
    (hs : PySem.W.findIn K (.ref C) "__eq__" = some (some (.ref f))) (hne : PySem.W.findIn K (.ref C) "__ne__" = some (some (.builtin "object.__ne__"))) (hf : PySem.W.isFn K (.ref f) = true)
    (h : wpAny (model prog w) A.in1 (call (.ref f) [.ref x, b]) (fun v s' => ∃ k, v = .bool k ∧ Q (.bool (!k)) s') E s) : wpAny (model prog w) A (richCompare .NotEq (.ref x) b) Q E s := by
  have one : wpAny (model prog w) A (tryCompare (.ref x) "__ne__" b) (fun r s' => ∃ v, r = some v ∧ Q v s') E s := by
    unfold tryCompare
    refine wpAny_bind (ifBound_ne X I hne (wpAny_call (codeAny_call_builtin F.cmp_object.ne.plain F.cmpEntry_ne (PySem.W.check_slot F.cmpKind_ne F.cmpSplit_ne (I.type.andThen (PySem.W.looks_mroIn X hm)) (F.cmpArgs_ne _ _) ?_))))
    refine entry_ne (A := A.in1) (by exact hu) X I hs hf (wpAny_mono h (fun v s' hv => ?_) fun _ _ e => e)
    obtain ⟨k, rfl, hq⟩ := hv
    first | exact ⟨k, rfl, wpAny_pure ⟨_, rfl, hq⟩⟩ | exact ⟨k, rfl, wpAny_pure (wpAny_pure ⟨_, rfl, hq⟩)⟩ | exact ⟨k, rfl, ⟨_, rfl, hq⟩⟩
  simp only [richCompare, cmpInfo_NotEq, oneThing_ref]
  refine wpAny_holding (wpAny_bind (wpAny_cRoomFor (Nat.lt_of_succ_lt hu) ?_))
  refine wpAny_bind (I.type.here (wpAny_bind (hb.here ?_)))
  split
  · rename_i q
    have e : PySem.W.subIn K tb (.ref C) = some false := by
      rcases Bool.or_eq_true_iff.mp hn with e | e
      · rw [beq_iff_eq.mp e] at q; simp at q
      · exact beq_iff_eq.mp e
    refine wpAny_bind ((PySem.W.looks_subIn X e).here ?_)
    simp only [Bool.false_eq_true, if_false]
    refine wpAny_bind (wpAny_mono one (fun r s' z => ?_) fun _ _ e => e)
    obtain ⟨v, rfl, hq⟩ := z
    exact wpAny_pure hq
  · refine wpAny_bind (wpAny_pure ?_)
    simp only [Bool.false_eq_true, if_false]
    refine wpAny_bind (wpAny_mono one (fun r s' z => ?_) fun _ _ e => e)
    obtain ⟨v, rfl, hq⟩ := z
    exact wpAny_pure hq
end
end RK
/-! S21 -/
set_option Elab.async false
set_option linter.all false
set_option maxRecDepth 100000
set_option maxHeartbeats 2000000
namespace RK
open PySem PySem.Spec PyProof.Rows PySem.SeqAt
section
variable {prog : Program} {w : World} {A : Around} {E : Value → Shared → Prop} {s : Shared} {K : PySem.W.Frag} {x C f : Addr} {ox : Obj} {od : Option Obj} {b tb : Value}
/-- x + t: the def of x, t a tuple -/
theorem add_tup {Q : Value → Shared → Prop} (X : K.In s.heap) (I : PySem.W.InstAt s.heap x ox C od) (hb : PySem.W.Looks (model prog w) s.heap (typeOf b) (.type "tuple")) (hc : PySem.W.selfFirst K C = true)
    (hs : PySem.W.findIn K (.ref C) "__add__" = some (some (.ref f))) (hf : PySem.W.isFn K (.ref f) = true) (h : wpAny (model prog w) A (call (.ref f) [.ref x, b]) (PySem.W.CmpBack Q) E s) : wpAny (model prog w) A (binaryOp .Add (.ref x) b) Q E s := by
  obtain ⟨cd, rest, hcd, hm⟩ := PySem.W.ksp_first hc
  have one := PySem.W.ksp_try (name := "__add__") X I hs hf h
  have L3 : PySem.W.Looks (model prog w) s.heap (fillsNumberSlot (.ref C) "add") true := PySem.W.fills_K X hcd hm hs
  have hne : (Value.ref C == Value.type "tuple") = false := Bool.eq_false_iff.mpr fun q => by cases beq_iff_eq.mp q
  unfold binaryOp
  refine wpAny_holding (wpAny_bind ?_)
  show wpAny _ _ (binaryOp1 "add" (.ref x) b) _ _ _
  unfold binaryOp1
  refine wpAny_bind (I.type.here (wpAny_bind (hb.here (wpAny_bind (L3.here ?_)))))
  simp only [hne, Bool.false_eq_true, if_false]
  refine wpAny_bind (wpAny_of_eq noFill_tuple_add ?_)
  simp only [Bool.and_false, Bool.false_eq_true, if_false, Bool.false_and]
  refine wpAny_bind (wpAny_pure ?_)
  simp only [Bool.false_eq_true, if_false, if_true]
  refine wpAny_bind (m := tryMethod (.ref x) _ b) (wpAny_mono one (fun r s' z => ?_) fun _ _ e => e)
  obtain ⟨v, rfl, hq⟩ := z
  exact wpAny_pure (wpAny_pure hq)
end
end RK
/-! S22 -/
set_option Elab.async false
set_option linter.all false
set_option maxRecDepth 100000
set_option maxHeartbeats 2000000
namespace RL
open PySem PySem.Spec PyProof.Rows L2
section
variable {X : Cx} {CX : CXT} {C g : Addr} {n : Nat} {sp : Sp} {E : XK} {fd : FuncData} {ps : List Str}
/-- a def that runs below the running body -/
theorem run_below {pins : List (Addr × Obj)} {σ : L2.St} {H : Hp} {s : Shared} {A : Around} {Q : VK} {us : List Value} {ws : List V} (F : FnOk X.prog X.w X.K X.mg X.base CX n g fd ps sp) (hr : Room n A) (e0 : Env0 X.prog X.w X.K X.mg X.base A X.stack s H) (hb : Binds X.K fd ps []) (hx : Passes CX X E)
    (I : Inv X pins σ H s) (r : Vals ws us) (h : sp ws H Q E) : wpAny (model X.prog X.w) A (call (.ref g) us) (EP X pins σ Q) X.xe s := by
  have hl : us.length = ps.length := by rw [← r.length]; exact F.len _ _ _ _ h
  have b := hb s us I.kIn (by rw [List.append_nil]; exact hl)
  rw [List.append_nil] at b
  refine wpAny_call (codeAny_mono (F.run A X.stack s H ⟨us, []⟩ us ws Q E hr e0 b r h) fun r s' hq => ?_)
  cases r with
  | error e => exact hx pins σ H s e s' I hq
  | ok fl =>
    cases fl with
    | ret u => exact I.after hq
    | next => exact False.elim hq
    | brk => exact False.elim hq
    | cont => exact False.elim hq
theorem ty_of {pins : List (Addr × Obj)} {σ : L2.St} {H : Hp} {s : Shared} {y : V} {u t : Value} (I : Inv X pins σ H s) (r : RelV y u) (ty : TyX X.K H y t) : PySem.W.Looks (model X.prog X.w) s.heap (typeOf u) t := by
  obtain ⟨P, k, hp, _⟩ := kit_of I r ty
  exact k.ty _ _ I.kIn hp
theorem ins_at {pins : List (Addr × Obj)} {σ : L2.St} {H : Hp} {s : Shared} {a dx : Addr} {fs : List (Str × V)} (I : Inv X pins σ H s) (h : H a = some (.ins C dx fs)) : ∃ ox od, PySem.W.InstAt s.heap a ox C od := by
  obtain ⟨mA, O, _, _, _, _⟩ := ins_get I.hok h
  obtain ⟨od, J, _⟩ := O.look
  exact ⟨_, _, J⟩
/-- x == y by the def of x's class -/
def rEqO (K : PySem.W.Frag) (C : Addr) (sp : Sp) (E : XK) : R2 := fun x y H Q => ∃ a dx fs t, x = .ref a ∧ H a = some (.ins C dx fs) ∧ TyX K H y t ∧ PySem.W.notFirst K C t = true ∧ sp [x, y] H Q E
theorem op_eqO (hs : PySem.W.findIn X.K (.ref C) "__eq__" = some (some (.ref g))) (hf : PySem.W.isFn X.K (.ref g) = true) (F : FnOk X.prog X.w X.K X.mg X.base CX n g fd ps sp) (hr : Room n X.A) (hb : Binds X.K fd ps []) (hx : Passes CX X E) : OpR X (compareOp .Eq) (rEqO X.K C sp E) := by
  intro pins s σ H x y v u Q I rx ry h
  obtain ⟨a, dx, fs, t, rfl, ha, ty, hn, q⟩ := h
  obtain ⟨ox, od, J⟩ := ins_at I ha
  cases (show v = Value.ref a from rx)
  obtain ⟨m, hF⟩ := I.fr
  show wpAny _ _ (richCompare .Eq (.ref a) u) _ _ _
  refine PySem.W.cmp_K (op := .Eq) (tb := t) hr.units0 hF I.ok.mod.kin J (ty_of I ry ty) hn hs hf ?_
  refine wpAny_mono (run_below F hr I.env0 hb hx I (.cons rx (.cons ry .nil)) q) (fun w s' z => ?_) fun _ _ x => x
  obtain ⟨z', H', I', rz, qz⟩ := z
  exact SlX.cmpback rz ⟨z', H', I', rz, qz⟩
/-- x != y: not what == says -/
def rNeO (K : PySem.W.Frag) (C : Addr) (sp : Sp) (E : XK) : R2 := fun x y H Q => ∃ a dx fs t, x = .ref a ∧ H a = some (.ins C dx fs) ∧ TyX K H y t ∧ PySem.W.notFirst K C t = true ∧ sp [x, y] H (fun z H' => ∃ k, z = .bl k ∧ Q (.bl (!k)) H') E
theorem op_neO (hm : PySem.W.mroIn X.K C (.type "object") = some true) (hs : PySem.W.findIn X.K (.ref C) "__eq__" = some (some (.ref g))) (hne : PySem.W.findIn X.K (.ref C) "__ne__" = some (some (.builtin "object.__ne__"))) (hf : PySem.W.isFn X.K (.ref g) = true)
    (F : FnOk X.prog X.w X.K X.mg X.base CX n g fd ps sp) (hr : Room (n + 1) X.A) (hb : Binds X.K fd ps []) (hx : Passes CX X E) : OpR X (compareOp .NotEq) (rNeO X.K C sp E) := by
  intro pins s σ H x y v u Q I rx ry h
  obtain ⟨a, dx, fs, t, rfl, ha, ty, hn, q⟩ := h
  obtain ⟨ox, od, J⟩ := ins_at I ha
  cases (show v = Value.ref a from rx)
  show wpAny _ _ (richCompare .NotEq (.ref a) u) _ _ _
  refine RK.ne_own (tb := t) (Nat.lt_of_le_of_lt (Nat.add_le_add_left (by decide : 1 ≤ 64) _) hr.units) I.kIn J hm (ty_of I ry ty) hn hs hne hf ?_
  refine wpAny_mono (run_below F hr.in1 I.env0.in1 hb hx I (.cons rx (.cons ry .nil)) q) (fun w s' z => ?_) fun _ _ x => x
  obtain ⟨z', H', I', rz, k, rfl, qz⟩ := z
  cases (show w = Value.bool k from rz)
  exact ⟨k, rfl, .bl (!k), H', I', rfl, qz⟩
/-- x + t, t a tuple, by the def of x's class -/
def rAddO (K : PySem.W.Frag) (C : Addr) (sp : Sp) (E : XK) : R2 := fun x y H Q => ∃ a dx fs, x = .ref a ∧ H a = some (.ins C dx fs) ∧ TyX K H y (.type "tuple") ∧ sp [x, y] H Q E
theorem op_addO (hc : PySem.W.selfFirst X.K C = true) (hs : PySem.W.findIn X.K (.ref C) "__add__" = some (some (.ref g))) (hf : PySem.W.isFn X.K (.ref g) = true) (F : FnOk X.prog X.w X.K X.mg X.base CX n g fd ps sp) (hr : Room n X.A) (hb : Binds X.K fd ps []) (hx : Passes CX X E) :
    OpR X (binaryOp .Add) (rAddO X.K C sp E) := by
  intro pins s σ H x y v u Q I rx ry h
  obtain ⟨a, dx, fs, rfl, ha, ty, q⟩ := h
  obtain ⟨ox, od, J⟩ := ins_at I ha
  cases (show v = Value.ref a from rx)
  refine RK.add_tup I.kIn J (ty_of I ry ty) hc hs hf ?_
  refine wpAny_mono (run_below F hr I.env0 hb hx I (.cons rx (.cons ry .nil)) q) (fun w s' z => ?_) fun _ _ x => x
  obtain ⟨z', H', I', rz, qz⟩ := z
  exact SlX.cmpback rz ⟨z', H', I', rz, qz⟩
/-- len(x) by the def of x's class -/
def rLenO (C : Addr) (sp : Sp) (E : XK) : List V → Hp → VK → Prop := fun xs H Q => ∃ a dx fs, xs = [V.ref a] ∧ H a = some (.ins C dx fs) ∧ sp [.ref a] H (fun z H' => ∃ i : Int, z = .int i ∧ 0 ≤ i ∧ i < 2 ^ 63 ∧ Q (.int i) H') E
theorem call_lenO (hs : PySem.W.findIn X.K (.ref C) "__len__" = some (some (.ref g))) (hf : PySem.W.isFn X.K (.ref g) = true) (F : FnOk X.prog X.w X.K X.mg X.base CX n g fd ps sp) (hr : Room (n + 1) X.A) (hb : Binds X.K fd ps []) (hx : Passes CX X E) : CallR X (.builtin "len") (rLenO C sp E) := by
  intro pins s σ H xs us Q I r h
  obtain ⟨a, dx, fs, rfl, ha, q⟩ := h
  obtain ⟨u, rfl, ru⟩ := r.one
  cases (show u = Value.ref a from ru)
  obtain ⟨ox, od, J⟩ := ins_at I ha
  obtain ⟨m, hF⟩ := I.fr
  refine PySem.W.len_K hF I.ok.mod.kin J hs hf ?_
  refine wpAny_mono (run_below (ws := [.ref a]) F hr.in1 I.env0.in1 hb hx I (.cons rfl .nil) q) (fun w s' z => ?_) fun _ _ x => x
  obtain ⟨z', H', I', rz, i, rfl, i0, i1, qz⟩ := z
  obtain ⟨t, e⟩ := (show ∃ t, w = Value.int i t from rz)
  cases e
  exact ⟨⟨i0, i1⟩, .int i, H', I'.tok _, ⟨_, rfl⟩, qz⟩
/-- str(x) by the def of x's class -/
def rStrO (C : Addr) (sp : Sp) (E : XK) : List V → Hp → VK → Prop := fun xs H Q => ∃ a dx fs, xs = [V.ref a] ∧ H a = some (.ins C dx fs) ∧ sp [.ref a] H (fun z H' => ∃ i : Str, z = .str i ∧ Q (.str i) H') E
theorem call_strO (hs : PySem.W.findIn X.K (.ref C) "__str__" = some (some (.ref g))) (hf : PySem.W.isFn X.K (.ref g) = true) (F : FnOk X.prog X.w X.K X.mg X.base CX n g fd ps sp) (hr : Room (n + 2) X.A) (hb : Binds X.K fd ps []) (hx : Passes CX X E) : CallR X (.type "str") (rStrO C sp E) := by
  intro pins s σ H xs us Q I r h
  obtain ⟨a, dx, fs, rfl, ha, q⟩ := h
  obtain ⟨u, rfl, ru⟩ := r.one
  cases (show u = Value.ref a from ru)
  obtain ⟨ox, od, J⟩ := ins_at I ha
  have hr2 : Room n X.A.in1.in1 := (show Room (n + 1) X.A.in1 from Room.in1 hr).in1
  refine PySem.W.kso_call hr2.units0 I.kIn J hs hf ?_
  refine wpAny_mono (run_below (ws := [.ref a]) F hr2 I.env0.in1.in1 hb hx I (.cons rfl .nil) q) (fun w s' z => ?_) fun _ _ x => x
  obtain ⟨z', H', I', rz, i, rfl, qz⟩ := z
  obtain ⟨t, e⟩ := (show ∃ t, w = Value.str i t from rz)
  cases e
  exact ⟨.str i, H', I', ⟨_, rfl⟩, qz⟩
end
end RL
/-! S23 -/
set_option Elab.async false
set_option linter.all false
set_option maxRecDepth 100000
set_option maxHeartbeats 2000000
namespace RL
open PySem PySem.Spec PyProof.Rows L2
/-- t * k, t not empty, together at most a million letters -/
def rRepW (K : PySem.W.Frag) : R2 := fun x y H Q => ∃ l k xs, x = .ref l ∧ y = .int k ∧ SqT K H l xs ∧ xs ≠ [] ∧ -(2 ^ 62) ≤ k ∧ k ≤ 1000000 ∧ xs.length ≤ 1000 ∧ xs.length * k.toNat ≤ 1000000 ∧ NewT K H Q (List.replicate k.toNat xs).flatten
theorem op_repW {X : Cx} : OpR X (binaryOp .Mult) (rRepW X.K) := by
  intro pins s σ H x y v u Q I rx ry h
  obtain ⟨l, k, xs, rfl, rfl, hT, hne, h1, h2, hz, hp, q⟩ := h
  rcases Int.lt_or_le 1 k with hk | hk
  · cases rx
    obtain ⟨tk, rfl⟩ := ry
    obtain ⟨its, r, ⟨⟨cl, dd, dt, sl⟩, ho, hc, cap, hd⟩, _⟩ := I.tuple hT
    obtain rfl : cl = .type "tuple" := hc
    obtain rfl : dt = .seq its.toArray cap := hd
    have len : its.length = xs.length := r.length.symm
    have some_ : 0 < its.length := by rw [len]; exact List.length_pos_iff.mpr hne
    have empty : its.toArray.isEmpty = false := by
      cases its with
      | nil => cases some_
      | cons a b => rfl
    have all : (List.replicate k.toNat its).flatten.length ≤ sizeLine := by
      rw [PyProof.Rows.lm_len_rep_flat, len, sizeLine_eq, Nat.mul_comm]
      omega
    have prod : ((its.toArray.size : Nat) : Int) * k ≤ 1000000 := by
      have e : ((its.toArray.size : Nat) : Int) * k = ((xs.length * k.toNat : Nat) : Int) := by
        rw [List.size_toArray, len, Int.natCast_mul, Int.toNat_of_nonneg (by omega)]
      rw [e]
      omega
    have mul := tuple_mulW l its.toArray cap dd sl k tk (by rw [decide_eq_false (by omega), decide_eq_false (by omega)]; rfl) (by rw [empty, Bool.false_or]; exact beq_eq_false_iff_ne.mpr (by omega)) (by rw [empty, Bool.or_false]; exact decide_eq_false (by omega)) (by omega)
      (by unfold Builtin.Tuple.tupleTooMany; rw [sizeLine_eq]; exact decide_eq_false (by omega)) (by rw [size_rep, List.size_toArray]; exact all)
    refine wpAny_binaryOp_repeat_ref (T := "tuple") (U := "int") (by decide) ⟨_, ho, rfl⟩ (fun s' => typeIs_int s' k tk) noFill_tuple_mul F.fills_int_mul F.slot_int_rmul repeat_tuple F.slot_int_index.lookup
      (call_meets F.slot_int_rmul (typeIs_int s k tk) F.entry_int_rmul (F.args_int_rmul_2 _ _) (int_rmul_tuple k tk l its.toArray cap dd sl) ⟨ho, rfl, ⟨_, ho, rfl⟩, call_meets F.slot_tuple_mul ⟨_, ho, rfl⟩ F.entry_tuple_mul (F.args_tuple_mul_2 _ _) mul ⟨ho, ?_⟩⟩)
    rw [size_rep]
    refine ⟨.ref s.heap.objs.size, _, I.laid (t' := s.toks) (o := .tup (List.replicate k.toNat xs).flatten) (fun b ob z => Heap.get?_push_of_some _ z) (Nat.le_refl _) ⟨?_, _, r.rep k.toNat, IsTup.new _ _⟩, rfl, q.al _ (I.hok.fresh (Nat.le_refl _))⟩
    rw [PyProof.Rows.lm_len_rep_flat, sizeLine_eq, Nat.mul_comm]
    omega
  · exact op_repS pins s σ H _ _ v u Q I rx ry ⟨l, k, xs, rfl, rfl, hT, h1, by omega, hz, q⟩
end RL
/-! S24 -/
set_option Elab.async false
set_option linter.all false
set_option maxRecDepth 100000
set_option maxHeartbeats 2000000
/-! a for of a generator's body -/
namespace RL
open PySem PySem.Spec PyProof.Rows L2 GenW
section
variable {M : Model} {A : Around} {R : GenEnd} {Y : Protocol} {n : Nat} {s₀ : Shared} {c : Code} {fs : List Frame} {s : Shared} {env : Env}
  {K : Flow → Sem PySem.Fin} {J : Value → Sem PySem.Fin} {gd : Bool → Bool} {lv : List Value → List Value}
theorem seg_For {target iter : Expr} {body orelse : List Stmt} {pos : Pos}
    (h : wpAny M (A.over c fs) (eval iter env) (fun x s₁ => wpAny M (A.over c fs) (pyIter x) (fun it s₂ =>
      ∀ p, Seg M A R Y n s₀ (.forLoop target it body orelse env) (M.den (.forLoop target it body orelse env))
        (.ret (fun r => ((match r with | .ok f => (.pure f : Sem Flow) | .error e => .raise e).onRaise (cameBack env)).wrap K J gd lv) none (gd false) (lv []) c p [] :: fs) s₂)
      (fun x s' => Seg M A R Y n s₀ c (J x) fs s') s₁) (fun x s' => Seg M A R Y n s₀ c (J x) fs s') s)
    (hs : ∀ x, foldedSetIterable iter env x = pure x) :
    Seg M A R Y n s₀ c ((exec (.For target iter body orelse pos) env).wrap K J gd lv) fs s := by
  rw [exec_For]
  refine seg_bind_wrap (wpAny_standAt (seg_bind_wrap (wpAny_mono h (fun x s1 h1 => ?_) fun _ _ z => z)))
  refine seg_bind_wrap (wpAny_of_eq (hs x) (seg_bind_wrap (wpAny_standAt (seg_bind_wrap (wpAny_holding (wpAny_mono h1 (fun it s2 h2 => ?_) fun _ _ z => z))))))
  exact seg_call h2
end
section
variable {prog : Program} {w : World} {A : Around} {R : GenEnd} {Y : Protocol} {n : Nat} {s₀ : Shared} {fs : List Frame} {s : Shared} {env : Env}
theorem seg_block_nil (h : Seg (model prog w) A R Y n s₀ (.block [] env) (.pure (.done .next)) fs s) : Seg (model prog w) A R Y n s₀ (.block [] env) ((model prog w).den (.block [] env)) fs s := h
theorem seg_forLoop {target : Expr} {it : Value} {body : List Stmt}
    (h : wpAny (model prog w) (A.over (.forLoop target it body [] env) fs) (pyNext it) (fun r s1 => match r with
        | none => Seg (model prog w) A R Y n s₀ (.forLoop target it body [] env) (.pure (.again (.block [] env))) fs s1
        | some v => wpAny (model prog w) (A.over (.forLoop target it body [] env) fs) (letOwnedTupleGo target it v) (fun _ s1' =>
            wpAny (model prog w) (A.over (.forLoop target it body [] env) fs) (assign target env v) (fun _ s2 =>
              Seg (model prog w) A R Y n s₀ (.forLoop target it body [] env) ((execs body env).wrap (fun f => match f with
                | .next | .cont => .pure (.again (.forLoop target it body [] env))
                | .brk => .pure (.done .next)
                | .ret v => .pure (.done (.ret v))) (fun e => (do noteFrame e env; theTreesLotGoes e : Sem Unit).wrap (fun _ => .raise e) .raise id id) id id) fs s2)
              (fun x s' => Seg (model prog w) A R Y n s₀ (.forLoop target it body [] env) ((do noteFrame x env; theTreesLotGoes x : Sem Unit).wrap (fun _ => .raise x) .raise id id) fs s') s1')
            (fun x s' => Seg (model prog w) A R Y n s₀ (.forLoop target it body [] env) ((do noteFrame x env; theTreesLotGoes x : Sem Unit).wrap (fun _ => .raise x) .raise id id) fs s') s1)
      (fun x s' => Seg (model prog w) A R Y n s₀ (.forLoop target it body [] env) ((do noteFrame x env; theTreesLotGoes x : Sem Unit).wrap (fun _ => .raise x) .raise id id) fs s') s) :
    Seg (model prog w) A R Y n s₀ (.forLoop target it body [] env) ((model prog w).den (.forLoop target it body [] env)) fs s := by
  show Seg _ A R Y n s₀ _ ((forTurn target it body [] env).onRaise (fun x => do noteFrame x env; theTreesLotGoes x)) fs s
  have e : ((forTurn target it body [] env).onRaise (fun x => do noteFrame x env; theTreesLotGoes x)) = (forTurn target it body [] env).wrap .pure (fun e => (do noteFrame e env; theTreesLotGoes e : Sem Unit).wrap (fun _ => .raise e) .raise id id) id id := by
    rw [Sem.onRaise_eq_wrap]
    exact Sem.wrap_congr _ _ _ (fun f => rfl) (fun e => Sem.bind_eq_wrap _ _)
  rw [e]
  unfold forTurn
  refine seg_bind_wrap (wpAny_standAt (seg_bind_wrap (wpAny_onRaise (wpAny_mono h (fun r s1 h1 => ?_) fun _ _ z => wpAny_standAt z))))
  cases r with
  | none => exact h1
  | some v =>
    refine seg_bind_wrap (wpAny_mono h1 (fun _ s2 h2 => seg_bind_wrap (wpAny_mono h2 (fun _ s3 h3 => ?_) fun _ _ z => z)) fun _ _ z => z)
    rw [Sem.bind_eq_wrap', Sem.wrap_wrap]
    refine Eq.mpr (congrArg (fun t => Seg (model prog w) A R Y n s₀ (.forLoop target it body [] env) t fs s3) (Sem.wrap_congr (execs body env) _ _ (K' := fun f => match f with
            | .next | .cont => .pure (.again (.forLoop target it body [] env))
            | .brk => .pure (.done .next)
            | .ret v => .pure (.done (.ret v))) (H' := (fun e => (do noteFrame e env; theTreesLotGoes e : Sem Unit).wrap (fun _ => .raise e) .raise id id))
        (fun f => by cases f <;> rfl) (fun e => rfl))) h3
end
/-- as tFor, by what is out so far -/
def tGFor (wi : TI) (g : TG) (tb : TGn) : TGn := fun D ys σ H => wi σ H fun J H1 => ∃ W : Nat → Nat → List V → L2.St → Hp → Prop, (∃ m, W 0 m ys σ H1) ∧ ∀ i m ys σ H, W i m ys σ H →
  (J.stop i H ∧ D.nx ys σ H) ∨ (J.go i H ∧ ∃ N : List V → L2.St → Hp → Prop, (∀ ys' σ' H', N ys' σ' H' → ∃ m', m' < m ∧ W (i + 1) m' ys' σ' H') ∧ ∀ x H', J.yld i H x H' → g x σ H' fun σ2 H2 => tb { D with nx := N, ct := N, bk := D.nx } ys σ2 H2)
section
variable {X : Cx}
theorem gs_for {tg iter : Expr} {body : List Stmt} {pos : Pos} {wi : TI} {g : TG} {tb : TGn} (hp : PassesOwn (model X.prog X.w) X.A X.env X.xe) (hc : X.calm = true) (hi : PI X tg iter wi) (hg : PG X tg g) (hb : GSs X body tb)
    (hs : ∀ x, foldedSetIterable iter X.env x = pure x := by intro _; rfl) : GS X (.For tg iter body [] pos) (tGFor wi g tb) := by
  refine ⟨fun A S ip R n ys s₀ c fs K J gd lv s σ H D gc hn k hI ht => ?_⟩
  obtain ⟨acc, cc, r, I⟩ := hI
  refine seg_For ?_ hs
  rw [gc.over]
  refine wpAny_mono (hi.run _ s σ H _ I ht) (fun v s1 h1 => wpAny_mono h1 (fun itv s2 h2 => ?_) fun x s' hx => k.exc n s₀ x s' hx) fun x s' hx => k.exc n s₀ x s' hx
  obtain ⟨it, fp, tn, Jt, H2, e, I2, T, st2, f2, W, ⟨m0, w0⟩, turn⟩ := h2
  subst e
  intro p
  have gl := fun (kk : Result → Sem PySem.Fin) => gc_loop (k := kk) (c' := .forLoop tg (.ref it) body [] X.env) (l := lv []) (kp := []) (p := p) gc rfl rfl
  -- what stays true of the iterator's objects through the loop
  have nS : ∀ b ∈ fp, S ≠ b := fun b hb => (f2 b hb).2.2.2.2.2 (S, lstObj acc cc) (List.mem_append_right _ List.mem_cons_self)
  have stat : ∀ {H' : Hp} {acc' : Array Value} {cc' : Nat}, (∀ b ∈ fp, H' b = none) → ∀ b ∈ fp, FpOk X ((S, lstObj acc' cc') :: ip) H' b := fun hn b hb => by
    obtain ⟨_, q2, q3, q4, q5, q6⟩ := f2 b hb
    refine ⟨hn b hb, q2, q3, q4, q5, fun p hp => ?_⟩
    rcases List.mem_append.mp hp with hp | hp
    · exact q6 p (List.mem_append_left _ hp)
    · rcases List.mem_cons.mp hp with hp | hp
      · rw [hp]; exact nS b hb
      · exact q6 p (List.mem_append_right _ (List.mem_cons_of_mem _ hp))
  have loop : ∀ (m i n : Nat) (ys : List V) (s₀ s : Shared) (σ : L2.St) (H : Hp), n + ys.length = sizeLine → W i m ys σ H → GI X S ip ys σ H s → tn i s.heap → (∀ b ∈ fp, H b = none) →
      Seg (model X.prog X.w) A R (GY X S) n s₀ (.forLoop tg (.ref it) body [] X.env) ((model X.prog X.w).den (.forLoop tg (.ref it) body [] X.env))
        (.ret (fun r => ((match r with | .ok f => (.pure f : Sem Flow) | .error e => .raise e).onRaise (cameBack X.env)).wrap K J gd lv) none (gd false) (lv []) c p [] :: fs) s := by
    intro m
    induction m using Nat.strongRecOn with
    | ind m ih =>
      intro i n ys s₀ s σ H hn w hI st fr
      have ee : ∀ (n : Nat) (s₀ : Shared) (x : Value) (s' : Shared), X.xe x s' → Seg (model X.prog X.w) A R (GY X S) n s₀ (.forLoop tg (.ref it) body [] X.env)
          ((do noteFrame x X.env; theTreesLotGoes x : Sem Unit).wrap (fun _ => .raise x) .raise id id)
          (.ret (fun r => ((match r with | .ok f => (.pure f : Sem Flow) | .error e => .raise e).onRaise (cameBack X.env)).wrap K J gd lv) none (gd false) (lv []) c p [] :: fs) s' := fun n s₀ x s' hx => by
        refine seg_wrap ?_
        rw [(gl _).over]
        refine wpAny_bind (wpAny_mono (hp x s' hx) (fun _ s'' hcb => wpAny_theTreesLotGoes ?_) fun y s'' hcb => ?_)
        · exact seg_leaf (.error x) (seg_cameBack gc k hcb)
        · exact seg_leaf (.error y) (seg_cameBack gc k hcb)
      refine seg_forLoop ?_
      rw [(gl _).over]
      obtain ⟨acc, cc, r, I⟩ := hI
      rcases turn i m ys σ H w with ⟨stop, qn⟩ | ⟨go, N, hN, step⟩
      · refine wpAny_mono (T.done X rfl rfl rfl hc i _ s σ H X.xe I (stat fr) st stop) (fun rr s4 h4 => ?_) fun x s' hx => ee n s₀ x s' hx
        obtain ⟨rfl, I4⟩ := h4
        refine seg_again rfl (seg_block_nil ?_)
        exact seg_leaf (.ok .next) (k.ok n ys s₀ s4 .next hn ⟨σ, H, ⟨acc, cc, r, I4⟩, qn⟩)
      · refine wpAny_mono (T.item X rfl rfl rfl hc i _ s σ H X.xe I (stat fr) st go) (fun rr s4 h4 => ?_) fun x s' hx => ee n s₀ x s' hx
        obtain ⟨u, rfl, h4⟩ := h4
        refine wpAny_mono h4 (fun _ s5 h5 => ?_) fun x s' hx => ee n s₀ x s' hx
        obtain ⟨x, H5, I5, r5, y5, st5, fr5⟩ := h5
        have I5' : Inv X ((S, lstObj acc cc) :: (ip ++ pinsAt fp s5.heap)) σ H5 s5 := I5.pinned (stat fr5) (T.obj _ _ st5)
        refine wpAny_mono (hg.run _ s5 σ H5 x u _ I5' r5 (step x H5 y5)) (fun _ s6 h6 => ?_) fun x s' hx => ee n s₀ x s' hx
        obtain ⟨σ6, H6, I6, q6⟩ := h6
        have gl' : GC X S (ip ++ pinsAt fp s5.heap) A (.forLoop tg (.ref it) body [] X.env) (.ret (fun r => ((match r with | .ok f => (.pure f : Sem Flow) | .error e => .raise e).onRaise (cameBack X.env)).wrap K J gd lv) none (gd false) (lv []) c p [] :: fs) id :=
          { gl _ with ip := fun q hq => (List.mem_append.mp hq).elim (gc.ip q) fun z => Ne.symm (nS q.1 (of_pinsAt z).1) }
        have back : ∀ {ys' : List V} {σ7 : L2.St} {H7 : Hp} {s7 : Shared}, GI X S (ip ++ pinsAt fp s5.heap) ys' σ7 H7 s7 → GI X S ip ys' σ7 H7 s7 ∧ tn (i + 1) s7.heap ∧ ∀ b ∈ fp, H7 b = none := fun {ys' σ7 H7 s7} h7 => by
          obtain ⟨acc7, cc7, r7, I7⟩ := h7
          refine ⟨⟨acc7, cc7, r7, I7.pins_of fun q hq => I7.pin q (List.mem_append_right _ ?_)⟩, T.keep _ _ _ st5 fun b hb o e => (I7.pin (b, o) (List.mem_append_right _ (List.mem_cons_of_mem _ (List.mem_append_right _ (mem_pinsAt hb e))))).1, fun b hb => ?_⟩
          · rcases List.mem_cons.mp hq with z | z
            · rw [z]; exact List.mem_cons_self
            · exact List.mem_cons_of_mem _ (List.mem_append_left _ z)
          · obtain ⟨o, e, d⟩ := T.obj _ _ st5 b hb
            exact (I7.pin (b, o) (List.mem_append_right _ (List.mem_cons_of_mem _ (List.mem_append_right _ (mem_pinsAt hb e))))).2.1
        refine hb.run A S (ip ++ pinsAt fp s5.heap) R n ys s₀ _ _ _ _ id id s6 σ6 H6 { D with nx := N, ct := N, bk := D.nx } gl' hn ⟨fun n' ys' s₀' s7 f hn' hs7 => ?_, fun n' s₀' x s7 hx => ee n' s₀' x s7 hx⟩ ⟨acc, cc, r, I6⟩ q6
        cases f with
        | next =>
          obtain ⟨σ7, H7, I7, n7⟩ := hs7
          obtain ⟨m', hm, w7⟩ := hN ys' σ7 H7 n7
          obtain ⟨b1, b2, b3⟩ := back I7
          exact seg_again rfl (ih m' hm (i + 1) n' ys' s₀' s7 σ7 H7 hn' w7 b1 b2 b3)
        | cont =>
          obtain ⟨σ7, H7, I7, n7⟩ := hs7
          obtain ⟨m', hm, w7⟩ := hN ys' σ7 H7 n7
          obtain ⟨b1, b2, b3⟩ := back I7
          exact seg_again rfl (ih m' hm (i + 1) n' ys' s₀' s7 σ7 H7 hn' w7 b1 b2 b3)
        | brk =>
          obtain ⟨σ7, H7, I7, n7⟩ := hs7
          exact seg_leaf (.ok .next) (k.ok n' ys' s₀' s7 .next hn' ⟨σ7, H7, (back I7).1, n7⟩)
        | ret v =>
          obtain ⟨x7, σ7, H7, I7, rv, n7⟩ := hs7
          exact seg_leaf (.ok (.ret v)) (k.ok n' ys' s₀' s7 (.ret v) hn' ⟨x7, σ7, H7, (back I7).1, rv, n7⟩)
  exact loop m0 0 n ys s₀ s2 σ H2 hn w0 ⟨acc, cc, r, I2⟩ st2 fun b hb => (f2 b hb).1
end
/-- over a range that is walked to its end -/
theorem gfor_range {lo : Int} {n : Nat} {g : TG} {tb : TGn} {D : GEnds} {ys : List V} {σ : L2.St} {H : Hp} (Pv : Nat → List V → L2.St → Hp → Prop) (h0 : Pv 0 ys σ H)
    (hs : ∀ i ys σ H, i < n → Pv i ys σ H → g (.int (lo + i)) σ H fun σ2 H2 => tb { D with nx := Pv (i + 1), ct := Pv (i + 1), bk := D.nx } ys σ2 H2) (hd : ∀ ys σ H, Pv n ys σ H → D.nx ys σ H) :
    ∃ W : Nat → Nat → List V → L2.St → Hp → Prop, (∃ m, W 0 m ys σ H) ∧ ∀ i m ys σ H, W i m ys σ H →
      ((Itr lo n).stop i H ∧ D.nx ys σ H) ∨ ((Itr lo n).go i H ∧ ∃ N : List V → L2.St → Hp → Prop, (∀ ys' σ' H', N ys' σ' H' → ∃ m', m' < m ∧ W (i + 1) m' ys' σ' H') ∧ ∀ x H', (Itr lo n).yld i H x H' → g x σ H' fun σ2 H2 => tb { D with nx := N, ct := N, bk := D.nx } ys σ2 H2) := by
  refine ⟨fun i m ys σ H => m = n - i ∧ i ≤ n ∧ Pv i ys σ H, ⟨n, by simp, Nat.zero_le _, h0⟩, ?_⟩
  rintro i m ys σ H ⟨rfl, hi, p⟩
  by_cases hlt : i < n
  · refine .inr ⟨hlt, Pv (i + 1), fun ys' σ' H' p' => ⟨n - (i + 1), by omega, rfl, hlt, p'⟩, fun x H' y => ?_⟩
    obtain ⟨e, y⟩ := y
    subst e y
    exact hs i ys σ _ hlt p
  · have e : i = n := by omega
    subst e
    exact .inl ⟨Nat.le_refl _, hd ys σ H p⟩
end RL
/-! S25 -/
set_option Elab.async false
set_option linter.all false
set_option maxRecDepth 100000
set_option maxHeartbeats 2000000
namespace RL
open PySem PySem.Spec PyProof.Rows L2
/-! ### rules for two kinds of values in one place -/
section
variable {X : Cx}
theorem op_or {f : Value → Value → Sem Value} {r r' : R2} (h : OpR X f r) (h' : OpR X f r') : OpR X f (fun x y H Q => r x y H Q ∨ r' x y H Q) :=
  fun pins s σ H x y v u Q I rx ry q => q.elim (h pins s σ H x y v u Q I rx ry) (h' pins s σ H x y v u Q I rx ry)
theorem callr_or {f : Value} {r r' : List V → Hp → VK → Prop} (h : CallR X f r) (h' : CallR X f r') : CallR X f (fun xs H Q => r xs H Q ∨ r' xs H Q) :=
  fun pins s σ H vs us Q I r q => q.elim (h pins s σ H vs us Q I r) (h' pins s σ H vs us Q I r)
theorem pg_unlK {K : PySem.W.Frag} (hK : X.K = K) {es : List Expr} {k : Nat} {t : TGs} {n : Nat} {pos : Pos} (hc : X.calm = true) (h : PGs X es t)
    (hn : (assignEach es X.env).length = n := by rfl) (hst : (assignEach es X.env).findIdx? (·.1) = none := by rfl) : PG X (.Tuple es k pos) (gUnl K n t) := hK ▸ pg_unl hc h hn hst
/-- len() of a tuple, a list, or by the def of the class -/
def rLenE (K : PySem.W.Frag) (C : Addr) (sp : Sp) (E : XK) : List V → Hp → VK → Prop := fun xs H Q => (∃ a ys, xs = [V.ref a] ∧ (SqL K H a ys ∨ SqT K H a ys) ∧ Q (.int (ys.length : Nat)) H) ∨ rLenO C sp E xs H Q
theorem call_lenE {K : PySem.W.Frag} (hK : X.K = K) {CX : CXT} {C g : Addr} {n : Nat} {sp : Sp} {E : XK} {fd : FuncData} {ps : List Str} (hs : PySem.W.findIn X.K (.ref C) "__len__" = some (some (.ref g))) (hf : PySem.W.isFn X.K (.ref g) = true) (F : FnOk X.prog X.w X.K X.mg X.base CX n g fd ps sp) (hr : Room (n + 1) X.A) (hb : Binds X.K fd ps []) (hx : Passes CX X E) :
    CallR X (.builtin "len") (rLenE K C sp E) := hK ▸ callr_or call_len_seq (call_lenO hs hf F hr hb hx)
/-- t + u of tuples, or by the def of the class -/
def rAddE (K : PySem.W.Frag) (C : Addr) (sp : Sp) (E : XK) : R2 := fun x y H Q => rCatS K x y H Q ∨ rAddO K C sp E x y H Q
theorem op_addE {K : PySem.W.Frag} (hK : X.K = K) {CX : CXT} {C g : Addr} {n : Nat} {sp : Sp} {E : XK} {fd : FuncData} {ps : List Str} (hc : PySem.W.selfFirst X.K C = true) (hs : PySem.W.findIn X.K (.ref C) "__add__" = some (some (.ref g))) (hf : PySem.W.isFn X.K (.ref g) = true) (F : FnOk X.prog X.w X.K X.mg X.base CX n g fd ps sp) (hr : Room n X.A) (hb : Binds X.K fd ps []) (hx : Passes CX X E) :
    OpR X (binaryOp .Add) (rAddE K C sp E) := hK ▸ op_or op_catS (op_addO hc hs hf F hr hb hx)
theorem sl_tupK {K : PySem.W.Frag} (hK : X.K = K) : SlR X (rSlU K) := hK ▸ sl_tupU
theorem sl_lstK {K : PySem.W.Frag} (hK : X.K = K) : SlR X (rSlV K) := hK ▸ sl_lstU
end
end RL
/-! S30 -/
set_option Elab.async false
set_option linter.all false
set_option maxRecDepth 100000
set_option maxHeartbeats 2000000
/-! an own exception class over any built-in one, whose __init__ keeps its one argument: self.f = f -/
namespace PySem
namespace OwX
open PySem.W PySem.Calls PyProof.Rows PySem.HandSPX Builtin Builtin.ObjectAttr
def kA (f : Str) (p1 p2 : Pos) : Arguments :=
  { posonlyargs := [], args := [{ arg := "self", annotation := none, pos := p1 }, { arg := f, annotation := none, pos := p2 }],
    vararg := none, kwonlyargs := [], kw_defaults := [], kwarg := none, defaults := [] }
def kB (f : Str) (q1 q2 q3 q4 : Pos) : List Stmt :=
  [.Assign [.Attribute (.Name "self" q1) f q2] (.Name f q3) q4]
def kS (f : Str) : Scope :=
  { kind := .function, names := [(PySem.Str.ofString "self", .local), (f, .local)],
    isGenerator := false, isCoroutine := false, more := [] }
/-- what is asked of the field's name: all by rfl for a written one -/
structure FName (f : Str) : Prop where
  bind : ∀ (qn : Str) (p1 p2 q1 q2 q3 q4 : Pos) (doc pm cdv ct x v : Value) (an : Option Addr),
    bindArgs (fnOf "__init__" qn (kA f p1 p2) (kB f q1 q2 q3 q4) (kS f) .none .none doc pm an cdv ct) ⟨[x, v], []⟩ = pure ([("self", x), (f, v)] : List (Str × Value))
  all : ∀ x v : Value, ([(("self" : Str), x), (f, v)].all fun y => (kS f).names.lookup y.1 == some .local || (kS f).names.lookup y.1 == some .cell) = true
  one : ∀ (qn : Str) (L a : Addr) (cd x v : Value), bindL (envOfC qn (kS f) L a cd).kindOf ([("self", x), (f, v)] : List (Str × Value)) (fun _ => none) "self" = some x
  two : ∀ (qn : Str) (L a : Addr) (cd x v : Value), bindL (envOfC qn (kS f) L a cd).kindOf ([("self", x), (f, v)] : List (Str × Value)) (fun _ => none) f = some v
  here : (kS f).names.lookup f = some .local
  dbg : (f == ("__debug__" : Str)) = false
/-- what the written part says of the class cn, at C, and of its __init__, at fI -/
structure KeepT (K : Frag) (mg : Str → Option Value) (cn f : Str) (B newId : String) (bmB : List Value) (C fI : Addr) : Prop where
  gC : mg cn = some (.ref C)
  ini : excInitIn K C bmB newId = true
  ovr : excOver K C bmB = true
  sa : findIn K (.ref C) "__setattr__" = some (some (.builtin "object.__setattr__"))
  ga : findIn K (.ref C) "__getattribute__" = some (some (.builtin "BaseException.__getattribute__"))
  gg : findIn K (.ref C) "__getattr__" = some none
  noN : findIn K (.ref C) f = some none
  iC : findIn K (.ref C) "__init__" = some (some (.ref fI))
  tC : typeIn K (.ref fI) = some (.type "function")
  kC : keepIn K (.ref C) = true
  exC : subIn K (.ref C) (.type "BaseException") = some true
  tyC : typeIn K (.ref C) = some (.type "type")
  hdC : hasDictIn K C = true
  nam : FName f
  fn : ∃ (oc : Value) (od : Option Addr) (qn : Str) (doc pm : Value) (an : Option Addr) (cdv ct : Value) (osl : Array (Option Value)) (p1 p2 q1 q2 q3 q4 : Pos),
    K.lookup fI = some ⟨oc, od, .func (fnOf "__init__" qn (kA f p1 p2) (kB f q1 q2 q3 q4) (kS f) .none .none doc pm an cdv ct), osl⟩ ∧ codeIn K cdv qn = true
theorem ldC {M : Model} {s : Shared} {name : Str} {scope : Scope} {L a : Addr} {cd : Value} {m : Str → Option Value} {x : Str} {pos : Pos} {v : Value} {Q : Value → Shared → Prop} {A : Around} {E : Value → Shared → Prop}
    (hn : s.heap.Ns L m) (hv : m x = some v) (h : Q v s) (hk : scope.kind = .function) (hl : (envOfC name scope L a cd).kindOf x = some .local) (hd : (x == ("__debug__" : Str)) = false) :
    wpAny M A (eval (.Name x pos) (envOfC name scope L a cd)) Q E s := wpAny_Name (wpAny_loadName_local hk hl hn hv h) hd
/-- what __init__ leaves of a new exception at x -/
structure KeepEnd (h h' : Heap) (x C dx t1 : Addr) (f : Str) (v : Value) : Prop where
  keep : ∀ b o, b ≠ x → h.get? b = some o → h'.get? b = some o
  obj : h'.get? x = some { cls := .ref C, dict := some dx, data := .fields #[.ref t1, .none, .none, .none, .bool false, .none] }
  dbig : h.objs.size ≤ dx
  dne : dx ≠ x
  ns : h'.Ns1 dx (fun y => if y = f then some v else none)
/-- a made one -/
structure KeepMade (h h' : Heap) (e C d : Addr) (f : Str) (v : Value) : Prop where
  keep : ∀ b o, h.get? b = some o → h'.get? b = some o
  new : h.objs.size ≤ e
  obj : ∃ oe vs, h'.get? e = some oe ∧ oe.cls = .ref C ∧ oe.dict = some d ∧ oe.data = .fields vs ∧ vs[1]? = some .none
  dbig : h.objs.size ≤ d
  dne : d ≠ e
  ns : h'.Ns1 d (fun y => if y = f then some v else none)
section
variable {prog : Program} {w : World} {A : Around} {E : Value → Shared → Prop} {R : Result → Shared → Prop} {hp : Heap} {g : Array GenState} {d : Drawn} {t : Nat} {os : OsState}
/-- the first store into such an exception -/
theorem osa_first {K : Frag} {B : String} {bmB : List Value} {name : Str} {tk : Tok} {v : Value} {x C : Addr} {fv : Array Value} (SF : StoreFacts B bmB "object.__setattr__" "object")
    (X : K.In hp) (hx : hp.get? x = some { cls := .ref C, data := .fields fv }) (ov : excOver K C bmB = true) (hd : hasDictIn K C = true) (ha : findIn K (.ref C) name = some none)
    (hq : ∀ h' tk' dx, (∀ b o, b ≠ x → hp.get? b = some o → h'.get? b = some o) → hp.objs.size ≤ dx → dx ≠ x →
      h'.get? x = some { cls := .ref C, dict := some dx, data := .fields fv } →
      h'.Ns1 dx (fun y => if y = name then some v else none) → R (.ok (.ret .none)) ⟨h', g, d, tk', os⟩) :
    codeAny (model prog w) A (.call (.builtin "object.__setattr__") ⟨[.ref x, .str name tk, v], []⟩) R ⟨hp, g, d, t, os⟩ := by
  obtain ⟨cd, hcd, hh⟩ := any_some hd
  have tk0 : takerIn K C name = some none := by unfold takerIn; rw [ha]; rfl
  have ne : x ≠ hp.objs.size := Nat.ne_of_lt (Heap.lt_size hx)
  have hcls : Looks (model prog w) hp (classData C) cd := looks_clsIn X hcd
  refine osa_openX (od := none) SF X ⟨hx, rfl, rfl, trivial⟩ ov tk0 fun b => ?_
  show wpAny _ _ (storeInOwnDict (.ref x) (.ref C) (.str name tk) name v b) _ _ _
  obtain ⟨nm, bs, mro, ns, qn, hdd, sn, sb, ab, col, del⟩ := cd
  have hh' : hdd = true := hh
  subst hh'
  unfold storeInOwnDict ownDictForStores
  repeat (first
    | with_reducible refine store_in_new ?_ ?_
    | with_reducible refine wpAny_loadPart_at hx ?_
    | with_reducible refine hcls.at ?_
    | wp_step)
  · refine ⟨_, #[], _, (Heap.get?_update_ne _ _ _ _ ne.symm).trans (Heap.get?_push_at rfl rfl), rfl, fun e he => ?_, fun _ => rfl⟩
    exact absurd he (by simp)
  · intro h' tk' hn' hs
    have h1 : (hp.push { cls := .type "dict", data := .dict #[] }).get? x = some { cls := .ref C, data := .fields fv } := Heap.get?_push_of_some _ hx
    refine hq h' tk' hp.objs.size (fun b o hb ho => ?_) (Nat.le_refl _) ne.symm ?_ hn'
    · refine (hs.2 b (Nat.ne_of_lt (Heap.lt_size ho))).trans ?_
      exact (Heap.get?_update_ne _ _ _ _ hb).trans
        (Heap.get?_push_of_some _ ho)
    · refine (hs.2 x ne).trans ?_
      exact Heap.get?_update_self _ h1 rfl
end
theorem size1 (v : Value) : [v].length ≤ sizeLine := by
  have q : (1 : Nat) ≤ 16777216 := by decide
  rw [sizeLine_eq]
  exact q
section
variable {prog : Program} {w : World} {A : Around} {E : Value → Shared → Prop} {R : Result → Shared → Prop} {s : Shared} {K : Frag} {mg : Str → Option Value} {cn f : Str} {B newId initId : String} {bmB : List Value} {C fI : Addr}
theorem keep_init (T : KeepT K mg cn f B newId bmB C fI) (SF : StoreFacts B bmB "object.__setattr__" "object") {x t0 : Addr} {v : Value} (X : K.In s.heap) (hlim : s.heap.NoLimit) (hx : s.heap.get? x = some (excO C t0)) (hroom : A.depth < recursionLimit)
    (hq : ∀ h' tk dx, KeepEnd s.heap h' x C dx t0 f v → R (.ok (.ret .none)) { s with heap := h', toks := tk }) :
    codeAny (model prog w) A (.call (.ref fI) ⟨[.ref x, v], []⟩) R s := by
  obtain ⟨oc, od, qn, doc, pm, an, cdv, ct, osl, p1, p2, q1, q2, q3, q4, ho, hcd⟩ := T.fn
  have hself : (kS f).names.lookup (PySem.Str.ofString "self") = some NameKind.local := rfl
  refine Att.call_fn (binds := [("self", .ref x), (f, v)]) X hlim ho hcd hroom
    (BindsTo.of_eq (T.nam.bind _ _ _ _ _ _ _ _ _ _ _ _ _ _)) (T.nam.all _ _) (fun s₁ IC => ?_) rfl rfl rfl
  obtain ⟨h₁, tk₁, rfl⟩ := IC.toInCall.same
  have k : ∀ b o, s.heap.get? b = some o → h₁.get? b = some o := IC.toInCall.keep
  have hn := IC.toInCall.ns
  have X₁ : K.In h₁ := X.keeps k
  have hx₁ := k _ _ hx
  show wpAny _ _ (execs _ _) _ _ _
  refine wpAny_execs_cons (plainObj_wpAny_Assign_Attribute ?_)
  refine ldC (v := v) hn (T.nam.two _ _ _ _ _ _) (ldC (v := .ref x) hn (T.nam.one _ _ _ _ _ _) ?_ rfl hself (by decide)) rfl T.nam.here T.nam.dbg
  · refine set_plain X₁ (ox := excO C t0) (od := none) ⟨hx₁, rfl, rfl, trivial⟩ T.sa ?_
    refine osa_first SF X₁ hx₁ T.ovr T.hdC T.noN (fun h₃ tk₃ dx k₃ dn dne hx₃ hn₃ => ?_)
    show wpAny _ _ (execs _ _) _ _ _
    have z : s.heap.objs.size < h₁.objs.size := hn.lt
    exact wpAny_execs_nil (hq h₃ tk₃ dx ⟨fun b o hb e => k₃ b o hb (k b o e), hx₃, Nat.le_of_lt (Nat.lt_of_lt_of_le z dn), dne, hn₃⟩)
theorem fname_given : FName "given" where
  bind := fun _ _ _ _ _ _ _ _ _ _ _ _ _ _ => rfl
  all := fun _ _ => rfl
  one := fun _ _ _ _ _ _ => rfl
  two := fun _ _ _ _ _ _ => rfl
  here := rfl
  dbg := by decide
theorem keep_made (T : KeepT K mg cn f B newId bmB C fI) (SF : StoreFacts B bmB "object.__setattr__" "object") (FB : ExcBaseFacts B newId initId bmB) {v : Value} (X : K.In s.heap) (hlim : s.heap.NoLimit) (hroom : A.depth + 1 < recursionLimit)
    (hq : ∀ h' tk e d, KeepMade s.heap h' e C d f v → R (.ok (.ret (.ref e))) { s with heap := h', toks := tk }) :
    codeAny (model prog w) A (.call (.ref C) ⟨[v], []⟩) R s := by
  obtain ⟨nm, N, qn, bs, bm, hdct, sn, sub, ab, col, dd, k0, k1, k2, k3, k5, hC, hT⟩ := excInit_of X T.ini
  obtain ⟨hp, g, dr, tk, os⟩ := s
  have k : ∀ b o, hp.get? b = some o → ((hp.push (kdv_tup [v])).push (excO C hp.objs.size)).get? b = some o := fun b o e =>
    Heap.get?_push_of_some _ (Heap.get?_push_of_some _ e)
  have hget : ((hp.push (kdv_tup [v])).push (excO C hp.objs.size)).get? (hp.objs.size + 1) = some (excO C hp.objs.size) := by heap_get
  refine call_own FB hT hC (looks_findIn X T.iC) (fun self => bind_fn X self T.tC) (size1 v) ?_
  refine keep_init (s := ⟨(hp.push (kdv_tup [v])).push (excO C hp.objs.size), g, dr, tk, os⟩) T SF (X.keeps k) (hlim.keeps k) hget ?_ fun h' tk' dx ⟨k', hx, dn, dne, hns⟩ => ?_
  · show A.depth + 1 < recursionLimit
    exact hroom
  · have old : ∀ b o, hp.get? b = some o → h'.get? b = some o := fun b o e =>
      k' b o (Nat.ne_of_lt (Nat.lt_succ_of_lt (Heap.lt_size e))) (k b o e)
    have z : hp.objs.size + 1 + 1 ≤ dx := by
      have q := dn
      rw [Heap.size_push, Heap.size_push] at q
      exact q
    exact ⟨rfl, hq h' tk' (hp.objs.size + 1) dx ⟨old, Nat.le_succ _, ⟨_, _, hx, rfl, rfl, rfl, rfl⟩, Nat.le_trans (Nat.le_trans (Nat.le_succ _) (Nat.le_succ _)) z, dne, hns⟩⟩
end
end OwX
end PySem
namespace L2
open PySem PySem.Spec PyProof.Rows
theorem relO_kept {f : Str} {v : V} {v' : Value} (r : RelV v v') (y : Str) : RelO (List.lookup y [(f, v)]) (if y = f then some v' else none) := by
  by_cases h : y = f
  · subst h
    rw [if_pos rfl]
    have q : List.lookup y [(y, v)] = some v := by simp [List.lookup]
    rw [q]
    exact r
  · rw [if_neg h]
    have q : (y == f) = false := by simpa using h
    have q2 : List.lookup y [(f, v)] = none := by simp [List.lookup, q]
    rw [q2]
    trivial
section
variable {X : Cx} {cn f : Str} {B newId initId : String} {bmB : List Value} {C fI : Addr}
/-- cn(e): told of every new place d of its dict -/
def tMkKept (C : Addr) (f : Str) (ta : TA) : St → Hp → XK → Prop := fun σ H Q =>
  ta σ H fun vs H1 => ∃ v, vs = [v] ∧ ∀ d, H1 d = none → Q (.ref C) (some d) (upd H1 d (.xd [(f, v)]))
theorem pmk_kept {a : Expr} {ta : TA} {p pos : Pos} {k : Nat} (T : PySem.OwX.KeepT X.K X.mg cn f B newId bmB C fI) (SF : StoreFacts B bmB "object.__setattr__" "object") (FB : ExcBaseFacts B newId initId bmB) (hr : Room k X.A) (ha : PA X [a] ta) (hg : Gl X cn)
    (hdb : (cn == ("__debug__" : Str)) = false := by decide) (he : starEach (a :: []) X.env = (false, eval a X.env) :: starEach [] X.env := by rfl) (hpl : (backTo pos (starEach [] X.env)).any (·.1) = false := by rfl) :
    PMk X (.Call (.Name cn p) [a] [] pos) (tMkKept C f ta) := by
  intro pins s σ H Q I h
  refine wpAny_Call_Name_kw (ld_glob I hg T.gC ?_ hdb)
  refine PySem.W.callWith_K (h₀ := X.base) I.ok.mod.kin T.kC (thn (ha.run pos pins s σ H _ I h) fun us s1 hh => ?_) he hpl
  obtain ⟨vs, H1, I1, r1, v, ev, q1⟩ := hh
  subst ev
  refine ⟨I1.kIn, ?_⟩
  cases r1 with
  | cons rv rn =>
    rename_i v' us'
    cases rn
    show wpAny _ _ (call (.ref C) [v']) _ _ _
    have hlim := I1.nolimit
    obtain ⟨hp, g, dr, tk, os⟩ := s1
    refine wpAny_call (PySem.OwX.keep_made T SF FB I1.kIn hlim (by have := hr.dp; omega) fun h' tk' e d M => ?_)
    show MkP X pins σ Q (.ref e) ⟨h', g, dr, tk', os⟩
    obtain ⟨oe, fv, hoe, hc, hd, hdat, h1⟩ := M.obj
    have hns := M.ns
    obtain ⟨G', g1, g2⟩ := restrict h' fun b => decide (b ≠ e)
    have gk : ∀ b, b ≠ e → G'.get? b = h'.get? b := fun b hb => g1 b (decide_eq_true hb)
    have ge : G'.get? e = none := g2 e (by simp)
    have old : ∀ b o, hp.get? b = some o → G'.get? b = some o := fun b o q =>
      (gk b (Nat.ne_of_lt (Nat.lt_of_lt_of_le (Heap.lt_size q) M.new))).trans (M.keep b o q)
    have ob : ObjOk X.prog X.w (upd H1 d (.xd [(f, v)])) G' d (.xd [(f, v)]) :=
      ⟨_, hns.at (fun o q => (gk d M.dne).trans q), fun y => relO_kept rv y⟩
    have J : Inv X pins σ (upd H1 d (.xd [(f, v)])) ⟨G', g, dr, tk', os⟩ := I1.laid (t' := tk') old M.dbig ob
    refine ⟨e, oe, fv, ⟨G', g, dr, tk', os⟩, _, .ref C, some d, rfl, J, fun b o q => ?_, ge, hoe, ⟨hc, hd⟩, hdat, h1, ?_, rfl, I1.bare, raises_own T.exC T.tyC, q1 d (I1.hok.fresh M.dbig)⟩
    · by_cases hb : b = e
      · have q' : G'.get? b = some o := q
        rw [hb, ge] at q'; cases q'
      · exact (gk b hb).symm.trans q
    · rw [upd_ne (Ne.symm M.dne)]
      exact I1.hok.fresh M.new
/-- raise cn(e) -/
theorem ps_raiseKept {a : Expr} {ta : TA} {W : WX} {p pos pos2 : Pos} {k : Nat} (hc : X.calm = true) (T : PySem.OwX.KeepT X.K X.mg cn f B newId bmB C fI) (SF : StoreFacts B bmB "object.__setattr__" "object") (FB : ExcBaseFacts B newId initId bmB) (hr : Room k X.A) (tk : Takes X W) (ha : PA X [a] ta) (hg : Gl X cn)
    (hdb : (cn == ("__debug__" : Str)) = false := by decide) (he : starEach (a :: []) X.env = (false, eval a X.env) :: starEach [] X.env := by rfl) (hpl : (backTo pos (starEach [] X.env)).any (·.1) = false := by rfl) :
    PS X (.Raise (some (.Call (.Name cn p) [a] [] pos)) none pos2) (fun _ σ H => tMkKept C f ta σ H fun cls d H' => W cls d σ H') :=
  ps_raise hc tk (pmk_kept T SF FB hr ha hg hdb he hpl)
end
end L2
/-! S31 -/
set_option Elab.async false
set_option linter.all false
set_option maxRecDepth 100000
/-! several except clauses, each with a name or without -/
namespace RL
open PySem PySem.Spec PyProof.Rows L2
abbrev TSX := Addr → Value → Option Addr → TS
/-- the ends behind a suite that has the name at slot i -/
def ends_as (i : Nat) (D : Ends) : Ends :=
  { nx := fun τ G => D.nx (τ.set i none) G, rt := D.rt,
    bk := fun τ G => D.bk (τ.set i none) G, ct := fun τ G => D.ct (τ.set i none) G }
/-- the wish of the clauses -/
def wClauses (K : PySem.W.Frag) (Wo : WX) (D : Ends) : List (Value × Option Nat × TSX) → WX
  | [] => Wo
  | (c, none, ts) :: r => fun cl d τ G => ∃ b, PySem.W.exmOne K cl c = some b ∧
      (b = true → ∀ a, G a = none → ts a cl d D τ G) ∧ (b = false → wClauses K Wo D r cl d τ G)
  | (c, some i, ts) :: r => fun cl d τ G => ∃ b, PySem.W.exmOne K cl c = some b ∧
      (b = true → ∀ a, G a = none → ts a cl d (ends_as i D) (τ.set i (some (.ref a))) G) ∧
      (b = false → wClauses K Wo D r cl d τ G)
/-- a suite's rule -/
def SuiteOk (X : Cx) (st : List Stmt) (ts : TSX) : Prop :=
  ∀ (a : Addr) (ob : Obj) (cl : Value) (d : Option Addr) (pn : List (Addr × Obj)),
    Zc cl d ob → (∃ fv, ob.data = .fields fv) → PSs (X.suite a ((a, ob) :: pn)) st (ts a cl d)
inductive Clauses (X : Cx) : List ExceptHandler → List (Value × Option Nat × TSX) → Prop
  | nil : Clauses X [] []
  | only {x : Str} {c : Value} {ts : TSX} {b₀ : Stmt} {rest : List Stmt} {np pq : Pos} {hs : List ExceptHandler} {l : List (Value × Option Nat × TSX)}
      (hc : Names X x c) (su : SuiteOk X (b₀ :: rest) ts) (r : Clauses X hs l) :
      Clauses X (.ExceptHandler (some (.Name x np)) none (b₀ :: rest) pq :: hs) ((c, none, ts) :: l)
  | named {x n : Str} {c : Value} {i : Nat} {ts : TSX} {b₀ : Stmt} {rest : List Stmt} {np pq : Pos} {hs : List ExceptHandler} {l : List (Value × Option Nat × TSX)}
      (hc : Names X x c) (hi : X.N[i]? = some n) (hk : X.env.kindOf n = some .local) (su : SuiteOk X (b₀ :: rest) ts) (r : Clauses X hs l) :
      Clauses X (.ExceptHandler (some (.Name x np)) (some n) (b₀ :: rest) pq :: hs) ((c, some i, ts) :: l)
section
variable {X : Cx} {body : List Stmt} {h₀ : ExceptHandler} {hs : List ExceptHandler} {l : List (Value × Option Nat × TSX)} {pos : Pos} {tb : WX → TS} {Wo : WX}
theorem ps_try_cl (stk : X.stack = X.env :: X.outer) (hf : X.env.frame = some X.env.locals) (hN : X.N.Nodup) (tk : Takes X Wo)
    (hb : ∀ (W : WX) (pn : List (Addr × Obj)) (xe : Value → Shared → Prop), Takes (X.tr pn xe) W →
      PassesOwn (model X.prog X.w) X.A X.env xe → PSs (X.tr pn xe) body (tb W))
    (hh : Clauses X (h₀ :: hs) l) : PS X (.Try body (h₀ :: hs) [] [] pos) (fun D σ H => tb (wClauses X.K Wo D l) D σ H) := by
  refine ⟨fun pins s σ H D I h => ?_⟩
  have ok := I.ok
  have frm : X.A.frames = some (X.env :: X.outer) := ok.frames.trans (congrArg some stk)
  refine wpAny_Try_except ?_
  refine wpAny_mono ((hb (wClauses X.K Wo D l) (X.pn ++ pins)
    (fun e z₁ => wpAny (model X.prog X.w) X.A (noteFrame e X.env) (fun _ z₂ =>
      wpAny (model X.prog X.w) X.A (setFlight e none) (fun _ z₃ =>
        wpAny (model X.prog X.w) X.A (handleBy e X.env (h₀ :: hs)) (SP X pins D) X.xe z₃) X.xe z₂) X.xe z₁)
    (fun u z caught => ?_) PassesOwn.looking).run [] s σ H D (I.toTry _) h) (fun fl z done => ?_) (fun _ _ he => he)
  · obtain ⟨a, B, zI, pins1, τ, G, cl, d, rfl, J0, nb, up, sky, na, os, ag, wi⟩ := caught
    have J : Inv X pins τ G zI := J0.ofTry ok
    have sky1 : Sky B (X.env :: X.outer) a (Zc cl d) X.env.locals z.heap := stk ▸ sky
    show wpAny (model X.prog X.w) X.A (noteFrame (.ref a) X.env) _ _ _
    refine Sky.land Zc.steady frm hf sky1 fun g3 fly up3 => ?_
    have J3 : Inv X pins τ G { z with heap := g3 } := J.landed nb fly.1 (up.trans up3) os ag
    obtain ⟨ob, fv, hob, hz, hdat⟩ := fly.there
    have off : a ∉ frs (X.env :: X.outer) := fun hm => by
      obtain ⟨_, o2, e2, hnf⟩ := fly.2.2.1.mem hm
      rw [hob] at e2
      cases e2
      exact hnf _ hdat
    have nL : a ≠ X.env.locals := fun e => off (List.mem_filterMap.mpr ⟨X.env, List.mem_cons_self, hf.trans (congrArg some e.symm)⟩)
    have nF : a ∉ X.fs := fun hm => by
      obtain ⟨e1, m1, q1⟩ := List.mem_filterMap.mp hm
      exact off (List.mem_filterMap.mpr ⟨e1, .tail _ m1, q1⟩)
    have S3 := J3.suite hob hdat na nL nF
    have LT : PySem.W.Looks (model X.prog X.w) g3 (typeOf (.ref a)) cl := fun A Q E s k q =>
      wpAny_typeOf_ref (k _ _ hob) (hz.1.symm ▸ q)
    have named : ∀ {x : Str} {c : Value} {np : Pos}, Names X x c → ∀ {Q : Value → Shared → Prop} {E : Value → Shared → Prop}, Q c { z with heap := g3 } →
        wpAny (model X.prog X.w) (X.A.mark (some (.ref a))) (eval (.Name x np) X.env) Q E { z with heap := g3 } := by
      intro x c np hc Q E q
      obtain ⟨hg, hdb, hm | ⟨hm, hv, hn⟩⟩ := hc
      · exact ld_glob (X := X.suite a ((a, ob) :: (X.pn ++ pins))) S3 hg hm q hdb
      · exact ld_blt (X := X.suite a ((a, ob) :: (X.pn ++ pins))) S3 hg hm hv q hn hdb
    have go : ∀ {hs1 : List ExceptHandler} {l1 : List (Value × Option Nat × TSX)}, Clauses X hs1 l1 → wClauses X.K Wo D l1 cl d τ G →
        wpAny (model X.prog X.w) X.A (handleBy (.ref a) X.env hs1) (SP X pins D) X.xe { z with heap := g3 } := by
      intro hs1 l1 hk
      induction hk with
      | nil =>
        intro wi
        refine wpAny_handleBy_nil ?_
        obtain ⟨_, _, _, o4, f4, T4, _, _, ho4, _, hd4, h14, _⟩ := id fly
        unfold PySem.passOn
        refine wpAny_bind (wpAny_field ho4 hd4 h14 ?_)
        rw [if_neg (show ¬ ((Value.ref T4 == Value.none) = true) from by simp)]
        have last : wpAny (model X.prog X.w) X.A (setFlight (.ref a) X.env.frame) (fun _ z4 =>
            wpAny (model X.prog X.w) X.A (throw (.ref a) : Sem Flow) (SP X pins D) X.xe z4) X.xe { z with heap := g3 } := by
          rw [hf]
          refine HandSPX.setFlight_upZ fly fun g4 held up4 => wpAny_throw (tk _ _ ?_)
          exact ⟨a, B, zI, pins, τ, G, cl, d, rfl, J, nb, (up.trans up3).trans up4, .inr (.inr (stk.symm ▸ held)), na, os, ag, wi⟩
        first
          | exact wpAny_bind (wpAny_pure (wpAny_bind last))
          | exact wpAny_bind last
      | @only x c ts b₀ rest np pq hs2 l2 hc su r ih =>
        intro wi
        obtain ⟨b, hb1, yes, no⟩ := wi
        refine wpAny_handleBy_cons (codeAny_handlers_test ?_) (by intro q; cases q)
        have LM := PySem.W.exm_one (M := model X.prog X.w) J3.kIn LT hb1
        refine named hc (LM.here ?_)
        cases b with
        | false =>
          show wpAny _ X.A (handleBy (.ref a) X.env hs2) _ _ _
          exact ih (no rfl)
        | true =>
          refine codeAny_handlers_suite ?_
          refine HandSPX.lands_againZ fly fun g4 fly4 up4 => ?_
          have J4 : Inv X pins τ G { z with heap := g4 } := J.landed nb fly4.1 ((up.trans up3).trans up4) os ag
          obtain ⟨o4, f4, ho4, hz4, hd4⟩ := fly4.there
          have S4 := J4.suite ho4 hd4 na nL nF
          refine wpAny_mono ((su a o4 cl d (X.pn ++ pins) hz4 ⟨_, hd4⟩).run [] _ _ G _ S4 (yes rfl a na)) (fun fl z6 r6 => ?_) (fun _ _ e => e.elim)
          cases fl with
          | ret u => exact let ⟨v, τ6, G6, I6, rv, q⟩ := r6; ⟨v, τ6, G6, I6.unsuite ok, rv, q⟩
          | next => exact let ⟨τ6, G6, I6, q⟩ := r6; ⟨τ6, G6, I6.unsuite ok, q⟩
          | brk => exact let ⟨τ6, G6, I6, q⟩ := r6; ⟨τ6, G6, I6.unsuite ok, q⟩
          | cont => exact let ⟨τ6, G6, I6, q⟩ := r6; ⟨τ6, G6, I6.unsuite ok, q⟩
      | @named x n c i ts b₀ rest np pq hs2 l2 hc hi hk su r ih =>
        intro wi
        obtain ⟨b, hb1, yes, no⟩ := wi
        refine wpAny_handleBy_cons (codeAny_handlers_test ?_) (by intro q; cases q)
        have LM := PySem.W.exm_one (M := model X.prog X.w) J3.kIn LT hb1
        refine named hc (LM.here ?_)
        cases b with
        | false =>
          show wpAny _ X.A (handleBy (.ref a) X.env hs2) _ _ _
          exact ih (no rfl)
        | true =>
          refine codeAny_handlers_suite_as ?_
          refine HandSPX.lands_againZ fly fun g4 fly4 up4 => ?_
          have J4 : Inv X pins τ G { z with heap := g4 } := J.landed nb fly4.1 ((up.trans up3).trans up4) os ag
          obtain ⟨o4, f4, ho4, hz4, hd4⟩ := fly4.there
          have S4 := J4.suite ho4 hd4 na nL nF
          refine store_ok (X := X.suite a ((a, o4) :: (X.pn ++ pins))) (v := .ref a) S4 hN hi (.inl hk) rfl (fun z5 S5 => ?_) (.inr hk)
          refine wpAny_mono ((su a o4 cl d (X.pn ++ pins) hz4 ⟨_, hd4⟩).run [] z5 _ G _ S5 (yes rfl a na)) (fun fl z6 r6 => ?_) (fun _ _ e => e.elim)
          have off : ∀ {τ6 : L2.St} {G6 : Hp} {Q : Shared → Prop}, Inv (X.suite a ((a, o4) :: (X.pn ++ pins))) [] τ6 G6 z6 →
              (∀ z7, Inv X pins (τ6.set i none) G6 z7 → Q z7) →
              wpAny (model X.prog X.w) X.A (do bindName X.env n .none; unbindBehindTheSuite X.env n pq) (fun _ z7 => Q z7) X.xe z6 :=
            fun I6 hq => gone_ok (I6.unsuite ok) hN hi hk hq
          cases fl with
          | ret u => exact let ⟨v, τ6, G6, I6, rv, q⟩ := r6; off I6 fun z7 J7 => ⟨v, _, G6, J7, rv, q⟩
          | next => exact let ⟨τ6, G6, I6, q⟩ := r6; off I6 fun z7 J7 => ⟨_, G6, J7, q⟩
          | brk => exact let ⟨τ6, G6, I6, q⟩ := r6; off I6 fun z7 J7 => ⟨_, G6, J7, q⟩
          | cont => exact let ⟨τ6, G6, I6, q⟩ := r6; off I6 fun z7 J7 => ⟨_, G6, J7, q⟩
    exact go hh wi
  · cases fl with
    | ret u => exact let ⟨v, τ6, G6, I6, rv, q⟩ := done; ⟨v, τ6, G6, I6.ofTry ok, rv, q⟩
    | next => exact let ⟨τ6, G6, I6, q⟩ := done; wpAny_execs_nil ⟨τ6, G6, I6.ofTry ok, q⟩
    | brk => exact let ⟨τ6, G6, I6, q⟩ := done; ⟨τ6, G6, I6.ofTry ok, q⟩
    | cont => exact let ⟨τ6, G6, I6, q⟩ := done; ⟨τ6, G6, I6.ofTry ok, q⟩
end
end RL
/-! S32 -/
set_option Elab.async false
set_option linter.all false
set_option maxRecDepth 100000
/-! repr of data; defs that are told that no repr is under way; wishes handed on -/
namespace RL
open PySem PySem.Spec PyProof.Rows L2
/-- data that repr shows -/
def Shows (d : PyData) : Prop := d.showable = true ∧ d.hasDict = false ∧ d.shown.length ≤ sizeLine ∧ d.depth < 60 ∧ (PyData.str d.shown).canLay0 = true
instance (d : PyData) : Decidable (Shows d) := by unfold Shows; infer_instance
def rReprD (K : PySem.W.Frag) : List V → Hp → VK → Prop := fun xs H Q => ∃ v d, xs = [v] ∧ Dp K H v d ∧ Shows d ∧ Q (.str d.shown) H
theorem call_reprD {X : Cx} (hg : X.A.guards = some []) (hu : X.A.units + 64 < cLine) : CallR X (.builtin "repr") (rReprD X.K) := by
  intro pins s σ H xs us Q I r h
  obtain ⟨v, d, rfl, hd, ⟨h1, h2, h3, h4, _⟩, q⟩ := h
  obtain ⟨u, rfl, ru⟩ := vals1 r
  obtain ⟨as, rd⟩ := Dp.reads I d v u hd ru
  cases d with
  | none =>
    cases rd
    exact PySem.P.repr_of_none ⟨.str _, H, I.tok _, ⟨_, rfl⟩, q⟩
  | bool b =>
    cases rd
    exact PySem.P.repr_of_bool ⟨.str _, H, I.tok _, ⟨_, rfl⟩, q⟩
  | int i =>
    cases rd
    exact PySem.P.repr_of_int (of_decide_eq_true h1) ⟨.str _, H, I.tok _, ⟨_, rfl⟩, q⟩
  | str x =>
    cases rd
    exact PySem.P.repr_of_str ⟨.str _, H, I.tok _, ⟨_, rfl⟩, q⟩ h3
  | list ds =>
    cases rd
    rename_i a o vs n bs e1 e2 e3 e4
    refine repr_of_reads' (Reads.list e1 e2 e3 e4) h1 (fun z => by rw [h2] at z; cases z) hg ?_ (fun _ _ e => e) (fun h' z tk k => ?_) h3
    · omega
    · exact ⟨.str _, H, I.kept k, ⟨_, rfl⟩, q⟩
  | tuple ds =>
    cases rd
    rename_i a o vs n e1 e2 e3 e4
    refine repr_of_reads' (Reads.tuple e1 e2 e3 e4) h1 (fun z => by rw [h2] at z; cases z) hg ?_ (fun _ _ e => e) (fun h' z tk k => ?_) h3
    · omega
    · exact ⟨.str _, H, I.kept k, ⟨_, rfl⟩, q⟩
  | dict kvs => cases hd
/-- what leaves a call leaves the caller -/
theorem passE {X : Cx} {E : XK} (h : Takes X (fun cls d _ H => E cls d H)) : Passes (L2.CX X.prog X.w) X E := passes_call h fun _ _ _ _ z => z
/-- as FnOk, where no repr is under way -/
structure FnG (P : Program) (w : World) (K : PySem.W.Frag) (mg : Str → Option Value) (base : Heap) (CX : CXT) (k : Nat) (f : Addr) (fd : FuncData) (ps : List Str) (sp : Sp) : Prop where
  len : ∀ vs H Q E, sp vs H Q E → vs.length = ps.length
  run : ∀ (A : Around) (outer : List Env) (s : Shared) (H : Hp) (args : Args) (us : List Value) (vs : List V) (Q : VK) (E : XK), A.guards = some [] → Room k A → Env0 P w K mg base A outer s H →
    BindsTo s fd args (ps.zip us) → Vals vs us → sp vs H Q E → codeAny (model P w) A (.call (.ref f) args) (CR CX outer P w H s Q E) s
section
variable {P : Program} {w : World} {K : PySem.W.Frag} {mg : Str → Option Value} {base : Heap}
theorem Fun.okG {x qual : Str} {st : Stmt} {f : Addr} {fd : FuncData} {N ps : List Str} {k : Nat} {sp : Sp} (F : Fun K x qual st f fd) (S : FnScope N ps (defScope st)) (len : ∀ vs H Q E, sp vs H Q E → vs.length = ps.length)
    (hbody : ∀ (cdv : Value) (A : Around) (outer : List Env) (s : Shared) (H : Hp) (vs : List V) (Q : VK) (E : XK), fd.code = cdv → A.guards = some [] →
      Room k (A.deeper (envOfC qual (defScope st) s.heap.objs.size f cdv)) → sp vs H Q E →
      ∃ t, PSs (cxOf CX0 P w K mg base N qual (defScope st) f cdv A outer s H E).nox (defBody st) t ∧ t { nx := fun _ H' => Q .non H', rt := Q } (start N vs) H) :
    FnG P w K mg base CX0 (k + 1) f fd ps sp := by
  obtain ⟨oc, od, kV, doc, pm, an, cdv, ct, osl, rfl, lk, hcd⟩ := F.ex
  refine ⟨len, fun A outer s H args us vs Q E hg hr e0 hb r hsp => ?_⟩
  refine LamX.run_ofS lk hcd S hr e0 hb r (len _ _ _ _ hsp) fun hr' => ?_
  obtain ⟨t, ht, hq⟩ := hbody cdv A outer s H vs Q E rfl hg hr' hsp
  exact ⟨t, ht.nox, hq⟩
end
section
variable {X : Cx} {CX : CXT} {k : Nat} {f : Addr} {fd : FuncData} {ps : List Str} {sp : Sp} {E : XK} {x : Str} {e : Expr} {es : List Expr} {t : TA} {p pos : Pos}
theorem pe_callG (hgu : X.A.guards = some []) (F : FnG X.prog X.w X.K X.mg X.base CX k f fd ps sp) (hr : Room k X.A) (hg : Gl X x) (hm : X.mg x = some (.ref f)) (hk : PySem.W.keepIn X.K (.ref f) = true) (hb : Binds X.K fd ps []) (hx : Passes CX X E)
    (ha : PA X (e :: es) t) (hdb : (x == ("__debug__" : Str)) = false := by decide) (he : starEach (e :: es) X.env = (false, eval e X.env) :: starEach es X.env := by rfl)
    (hpl : (backTo pos (starEach es X.env)).any (·.1) = false := by rfl) : PE X (.Call (.Name x p) (e :: es) [] pos) (tCall sp [] E t) := by
  refine ⟨fun pins s σ H Q I h => ?_⟩
  refine wpAny_Call_Name_kw (ld_glob I hg hm ?_ hdb)
  refine PySem.W.callWith_K (h₀ := X.base) I.ok.mod.kin hk (thn (ha.run pos pins s σ H _ I h) fun us s1 ⟨vs, H1, I1, r, q⟩ => ⟨I1.kIn, ?_⟩) he hpl
  have q' : sp vs H1 Q E := by
    have z : sp (vs ++ []) H1 Q E := q
    rw [List.append_nil] at z
    exact z
  have hl : us.length = ps.length := by rw [← r.length]; exact F.len _ _ _ _ q'
  have bt := hb s1 us I1.kIn (by rw [List.append_nil]; exact hl)
  rw [List.append_nil] at bt
  refine wpAny_call (codeAny_mono (F.run X.A X.stack s1 H1 ⟨us, []⟩ us vs Q E hgu hr I1.env0 bt r q') fun z s' hq => ?_)
  cases z with
  | error er => exact hx pins σ H1 s1 er s' I1 hq
  | ok fl =>
    cases fl with
    | ret u => exact I1.after hq
    | next => exact hq.elim
    | brk => exact hq.elim
    | cont => exact hq.elim
end
end RL
/-! S33 -/
set_option Elab.async false
set_option linter.all false
set_option maxRecDepth 100000
set_option maxHeartbeats 2000000
/-! a law's end: its defs' tables stand empty, and no repr is under way -/
namespace RL
open PySem PySem.Spec PyProof.Rows L2 LamX
section
variable {P : Program} {w : World} {K : PySem.W.Frag} {mg mb : Str → Option Value} {CX : CXT} {k : Nat} {fa a : Addr} {cs : List (Addr × Addr)} {fd : FuncData} {x : Str} {sp : Sp} {z : Shared} {vs : List Value} {ns : List Int}
theorem law_callTG (KX : K.In z.heap) (hns : z.heap.Ns mainGlobals mg) (hb : z.heap.Ns builtinsNs mb) (hbb : ∀ x : Str, x ≠ "__name__" → mb x = bootBuiltins x) (hlim : z.heap.NoLimit) (hg : z.gens = #[])
    (hT : ∀ p ∈ cs, z.heap.get? p.2 = some { cls := .none, data := .fields #[] }) (nT : ∀ p ∈ cs, K.lookup p.2 = none) (C : ∀ p ∈ cs, PySem.W.CodeHd z.heap p.1 p.2)
    (hbm : ∃ (bm : Addr) (ob : Obj), mg "__builtins__" = some (.ref bm) ∧ bm ≠ builtinsNs ∧ z.heap.get? bm = some ob ∧ ob.cls = .type "module" ∧ ob.dict = some builtinsNs ∧ ob.data = .plain)
    (ha : z.heap.get? a = some { cls := .type "list", data := .seq vs.toArray }) (hi : IntsAre vs ns) (hl : ns.length ≤ sizeLine) (hr : Room k callerA)
    (F : ∀ base : Heap, K.In base → base.Ns mainGlobals mg → (∀ p ∈ cs, TabB base mg p.1 p.2) → FnG P w K mg base CX k fa fd [x] sp)
    (hbind : ∀ (s : Shared) (u : Value), BindsTo s fd ⟨[u], []⟩ [(x, u)])
    (hsp : ∀ H : Hp, (∀ p ∈ cs, H p.2 = some (.tbl #[])) → SqL K H a (ns.map V.int) → sp [.ref a] H (fun v _ => v = .bl true) fun _ _ _ => False)
    (hCX : ∀ H e s', CX [] H z (fun _ _ _ => False) e s' → False) :
    codeAny (model P w) callerA (.call (.ref fa) ⟨[.ref a], []⟩)
      (fun r s' => r = .ok (.ret (.bool true)) ∧ OldK z.heap s'.heap ∧ s'.os = z.os ∧ AllBare s'.gens) z := by
  have tabs : ∀ b : Addr, b ∈ cs.map (·.2) → z.heap.get? b = some { cls := .none, data := .fields #[] } := by
    intro b hb
    obtain ⟨p, hp, rfl⟩ := List.mem_map.mp hb
    exact hT p hp
  have inT : ∀ p ∈ cs, p.2 ∈ cs.map (·.2) := fun p hp => List.mem_map_of_mem hp
  have noTa : a ∉ cs.map (·.2) := fun hm => by
    have q := congrArg (Option.map Obj.data) (ha.symm.trans (tabs a hm))
    cases q
  have run : ∀ H : Hp, (∀ p ∈ cs, H p.2 = some (.tbl #[])) →
      (∀ b, H b = none ∨ b ∈ cs.map (·.2) ∨ ∃ o xs, H b = some (.frz o (.lst xs))) → SqL K H a (ns.map V.int) →
      HOk P w H z.heap → (∀ b, H b ≠ none → b = a ∨ b ∈ cs.map (·.2)) → (H a ≠ none → K.lookup a = none) →
      codeAny (model P w) callerA (.call (.ref fa) ⟨[.ref a], []⟩)
        (fun r s' => r = .ok (.ret (.bool true)) ∧ OldK z.heap s'.heap ∧ s'.os = z.os ∧ AllBare s'.gens) z := by
    intro H onT known hS hok only hK
    have off : ∀ {b : Addr} {o : Obj}, z.heap.get? b = some o → (∀ vs n, o.data ≠ .seq vs n) → o.data ≠ .fields #[] → H b = none := by
      intro b o e n1 n2
      cases q : H b with
      | none => rfl
      | some u =>
        have q1 : H b ≠ none := fun y => by rw [q] at y; cases y
        rcases only b q1 with e' | e'
        · subst e'
          cases ha.symm.trans e
          exact absurd rfl (n1 _ _)
        · cases (tabs b e').symm.trans e
          exact absurd rfl n2
    have inB : ∀ {b : Addr} {o : Obj}, z.heap.get? b = some o → H b = none → (hidT z.heap H).get? b = some o := fun e n => hidT_get e n
    have nsB : ∀ {b : Addr} {m : Str → Option Value}, z.heap.Ns b m → (hidT z.heap H).Ns b m := by
      rintro b m ⟨o, es, ep, e, d, r⟩
      refine ⟨o, es, ep, inB e (off e (fun vs n y => ?_) fun y => ?_), d, r⟩ <;> (rw [d] at y; cases y)
    have kinB : K.In (hidT z.heap H) := fun b o e => inB (KX b o e) (by
      cases q : H b with
      | none => rfl
      | some u =>
        have q1 : H b ≠ none := fun y => by rw [q] at y; cases y
        rcases only b q1 with e' | e'
        · subst e'
          cases (hK q1).symm.trans e
        · obtain ⟨p, hp, rfl⟩ := List.mem_map.mp e'
          cases (nT p hp).symm.trans e)
    have mod : L2.Mod K mg (hidT z.heap H) := ⟨kinB, nsB hns, ⟨mb, nsB hb, hbb⟩, let ⟨mc, q1, q2⟩ := hlim; ⟨mc, nsB q1, q2⟩⟩
    have TB : ∀ p ∈ cs, TabB (hidT z.heap H) mg p.1 p.2 := by
      intro p hp
      have hTp := hT p hp
      refine ⟨?_, ?_, fun y => ?_⟩
      · obtain ⟨o, us, file, tf, flags, tg, inF, text, tt, e1, r1, r2, r3, rest⟩ := C p hp
        refine ⟨o, us, file, tf, flags, tg, inF, text, tt, inB e1 (off e1 (fun vs n y => ?_) fun y => ?_), r1, r2, r3, rest⟩
        · cases r2.symm.trans y
        · cases r2.symm.trans y
          simp at r3
      · obtain ⟨bm, ob, b1, b2, b3, b4, b5, b6⟩ := hbm
        have n1 : bm ≠ mainGlobals := fun q => by
          obtain ⟨o, es, ep, e, hd, _⟩ := hns
          subst q
          cases b3.symm.trans e
          cases b6.symm.trans hd
        have n2 : bm ≠ p.2 := fun q => by
          subst q
          cases b3.symm.trans hTp
          cases b6
        refine ⟨bm, ob, b1, b2, n1, n2, inB b3 (off b3 (fun vs n y => ?_) fun y => ?_), b4, b5, b6⟩ <;> cases b6.symm.trans y
      · obtain ⟨o, es, ep, e, hd, _⟩ := hns
        rw [y] at e
        cases e.symm.trans hTp
        cases hd
    have e0 : Env0 P w K mg (hidT z.heap H) callerA [] z H :=
      ⟨rfl, mod, fun b o e => of_hidT e, Nat.le_of_eq (hidT_size _ _), trivial, fun b hb => (by cases hb), hok, .of_eq hg⟩
    have G := F _ kinB (nsB hns) TB
    refine codeAny_mono (G.run callerA [] z H ⟨[.ref a], []⟩ [.ref a] [.ref a] _ _ rfl hr e0 (hbind z (.ref a)) (.cons rfl .nil) (hsp H onT hS)) fun r s' h => ?_
    cases r with
    | error e => exact (hCX H e s' h).elim
    | ok fl =>
      cases fl with
      | next => exact h.elim
      | brk => exact h.elim
      | cont => exact h.elim
      | ret u =>
        obtain ⟨v, H', os, bare, un, hok', r', q⟩ := h
        obtain rfl : v = .bl true := q
        obtain rfl : u = Value.bool true := r'
        have same : ∀ b o, b ∉ cs.map (·.2) → z.heap.get? b = some o → s'.heap.get? b = some o := by
          intro b o nb e
          rcases known b with y | y | ⟨ob, xs, y⟩
          · exact un.keep b o e y (by intro y'; cases y') (by intro y'; cases y')
          · exact absurd y nb
          · obtain ⟨e1, _⟩ := hok b _ y
            obtain ⟨e2, _⟩ := hok' b _ (un.frzs b ob _ y)
            cases e1.symm.trans e
            exact e2
        have grown : ∀ p ∈ cs, ∃ more : Array Value, s'.heap.get? p.2 = some { cls := .none, data := .fields more } := fun p hp =>
          let ⟨more, y⟩ := un.tbls p.2 #[] (onT p hp)
          ⟨_, hok' p.2 _ y⟩
        refine ⟨rfl, ⟨fun b o e => ?_, fun b o e => ?_⟩, os, bare⟩
        · by_cases hm : b ∈ cs.map (·.2)
          · obtain ⟨p, hp, rfl⟩ := List.mem_map.mp hm
            obtain ⟨more, y⟩ := grown p hp
            cases (hT p hp).symm.trans e
            exact .inr (.inl ⟨((C p hp).tab (hT p hp)).isCodeTable, rfl, #[], more, rfl, (Array.empty_append (xs := more)).symm ▸ y⟩)
          · exact .inl (same b o hm e)
        · by_cases hm : b ∈ cs.map (·.2)
          · obtain ⟨p, hp, rfl⟩ := List.mem_map.mp hm
            obtain ⟨more, y⟩ := grown p hp
            exact ⟨_, y⟩
          · exact ⟨o, same b o hm e⟩
  have rv := vals_ints hi
  have lenV := hi.length
  cases hk : K.lookup a with
  | some o =>
    cases (KX a o hk).symm.trans ha
    refine run (fun b => if b ∈ cs.map (·.2) then some (.tbl #[]) else none) (fun p hp => if_pos (inT p hp)) (fun b => ?_)
      (.inr ⟨_, vs.toArray, _, hk, rfl, rfl, rfl, by rw [List.size_toArray, lenV]; exact hl, by simpa using rv⟩) (fun b u y => ?_) (fun b y => ?_) fun y => absurd (if_neg noTa) y
    · by_cases hm : b ∈ cs.map (·.2)
      · exact .inr (.inl hm)
      · exact .inl (if_neg hm)
    · by_cases hm : b ∈ cs.map (·.2)
      · cases (if_pos hm).symm.trans y
        exact tabs b hm
      · cases (if_neg hm).symm.trans y
    · by_cases hm : b ∈ cs.map (·.2)
      · exact .inr hm
      · exact absurd (if_neg hm) y
  | none =>
    refine run (fun b => if b = a then some (.frz { cls := .type "list", data := .seq vs.toArray } (.lst (ns.map V.int))) else if b ∈ cs.map (·.2) then some (.tbl #[]) else none)
      (fun p hp => (if_neg (show ¬ p.2 = a from fun y => noTa (y ▸ inT p hp))).trans (if_pos (inT p hp))) (fun b => ?_) (.inl (.inr ⟨{ cls := .type "list", data := .seq vs.toArray }, if_pos rfl⟩)) (fun b u y => ?_) (fun b y => ?_) fun _ => hk
    · by_cases e : b = a
      · exact .inr (.inr ⟨_, _, if_pos e⟩)
      · by_cases hm : b ∈ cs.map (·.2)
        · exact .inr (.inl hm)
        · exact .inl ((if_neg e).trans (if_neg hm))
    · by_cases e : b = a
      · cases (if_pos e).symm.trans y
        subst e
        exact ⟨ha, (List.length_map (as := ns) V.int).symm ▸ hl, vs, _, rv, ha⟩
      · have y1 := (if_neg e).symm.trans y
        by_cases hm : b ∈ cs.map (·.2)
        · cases (if_pos hm).symm.trans y1
          exact tabs b hm
        · cases (if_neg hm).symm.trans y1
    · by_cases e : b = a
      · exact .inl e
      · by_cases hm : b ∈ cs.map (·.2)
        · exact .inr hm
        · exact absurd ((if_neg e).trans (if_neg hm)) y
end
/-- what is known of the law's promise, at the head's heap h -/
def LawAtG (l : PySem.W.OpenLaw) (w : World) (K : PySem.W.Frag) (CX : CXT) (k n : Nat) (x : Str) (mg : Str → Option Value) (fa : Addr) (h : Heap) : Prop :=
  ∃ (fd : FuncData) (cs : List (Addr × Addr)) (sp : Sp),
    (∀ p ∈ cs, h.get? p.2 = some { cls := .none, data := .fields #[] }) ∧ (∀ p ∈ cs, K.lookup p.2 = none) ∧ (∀ p ∈ cs, PySem.W.CodeHd h p.1 p.2) ∧
    (∀ (s : Shared) (u : Value), BindsTo s fd ⟨[u], []⟩ [(x, u)]) ∧
    (∀ (H : Hp) (a : Addr) (ns : List Int), ns.length ≤ n → (∀ z ∈ ns, Builtin.Int.intBits z ≤ 1048576) → (∀ p ∈ cs, H p.2 = some (.tbl #[])) →
      SqL K H a (ns.map V.int) → sp [.ref a] H (fun v _ => v = .bl true) fun _ _ _ => False) ∧
    ∀ base : Heap, K.In base → base.Ns mainGlobals mg → (∀ p ∈ cs, TabB base mg p.1 p.2) → FnG l.prog w K mg base CX k fa fd [x] sp
/-- the tables of the top's defs are empty at the head's heap -/
def TabsOk (q : Program) (K : PySem.W.Frag) (h : Heap) : Prop :=
  ∀ (x : Str) (c P : Addr), ((recsOf q).find? fun e => e.name == x).isSome = true → PySem.W.tabIn K x = some (c, P) →
    PySem.W.CodeHd h c P ∧ h.get? P = some { cls := .none, data := .fields #[] }
theorem walk_ofTG {l : PySem.W.OpenLaw} {n k : Nat} {q : Program} {loose : List Str} {XP : (Str → Option Value) → Heap → Prop} {YP : World → Heap → Prop} {d : DefRec} {K : Params → PySem.W.Frag} {CX : World → CXT} {x : Str}
    (hn : l.most = some n) (hn2 : n ≤ sizeLine) (hdf : d.params.defaults = []) (hr : Room k callerA) (hY : ∀ (w : World) (h : Heap), YP w h → (K w.params).In h)
    (F : ∀ (w : World) (mg : Str → Option Value) (fa : Addr) (h : Heap), YP w h → (K w.params).In h → h.Ns mainGlobals mg → mg d.name = some (.ref fa) → TabsOk q (K w.params) h →
      LawAtG l w (K w.params) (CX w) k n x mg fa h)
    (hCX : ∀ (w : World) (H : Hp) (s : Shared) (e : Value) (s' : Shared), CX w [] H s (fun _ _ _ => False) e s' → False) :
    PySem.W.WalkO q loose XP YP l.row.toRowW d [] (fun f vs => PySem.call f vs) := by
  refine Att.attach_callB hn hdf fun w s₀ z mg mb fa o pm cd doc a vs ns G Y ho hd hcd hmg hobj hints hlen hbits hg => ?_
  have KX := hY w _ Y
  have own : TabsOk q (K w.params) z.heap := by
    intro y c T hs ht
    obtain ⟨d', hd'⟩ := Option.isSome_iff_exists.mp hs
    exact PySem.W.tab_of G.T KX hd' ht
  obtain ⟨fd, cs, sp, hT, nT, C, hb, hsp, hF⟩ := F w mg fa _ Y KX G.T.g hmg own
  exact law_callTG KX G.T.g G.T.b G.T.builtins G.T.nolimit hg hT nT C G.T.bmain hobj hints (Nat.le_trans hlen hn2) hr hF hb (fun H hH hS => hsp H a ns hlen hbits hH hS) fun H e s' => hCX w H z e s'
end RL
/-! S34 -/
set_option Elab.async false
set_option linter.all false
set_option maxRecDepth 100000
/-! a lambda handed to a def of the text; a held def that may raise; x is True, x is False -/
namespace RL
open PySem PySem.Spec PyProof.Rows L2 LamX
section
variable {X : Cx}
theorem pe_lamF {T : List (Addr × Str)} {TT : (XK → Hp → VK → Prop) → Hp → VK → Prop} {x a : Str} {g c P : Addr} {k : Nat} {st : Stmt} {fd : FuncData} {Ng : List Str} {params : Arguments} {body : Expr} {scope : Scope} {t : XK → TE} {p lpos pos : Pos}
    (hg : Gl X x) (hm : X.mg x = some (.ref g)) (F : Fun X.K x x st g fd) (hb : L2.Binds X.K fd [a] []) (Sg : FnScope Ng [a] (defScope st)) (hNg : Ng[0]? = some a) (hva : Vis (defScope st) a)
    (hG : ∀ cdg, GivesTo X Ng x (defScope st) g cdg (defBody st) a (X.env.qual ++ "<lambda>") TT)
    (TB : TabB X.base X.mg c P) (hcode : X.env.code = .ref c) (hmT : (P, X.env.qual ++ "<lambda>") ∈ T) (hu : ∀ p ∈ T, p.1 = P → p.2 = X.env.qual ++ "<lambda>") (hr : Room (k + 2) X.A) (L : LamS X.env.scope scope)
    (hbody : ∀ (A : Around) (outer : List Env) (s : Shared) (H : Hp) (E : XK) (f c' : Addr), Room k (A.deeper (lamEnv X scope s.heap.objs.size f c')) → PE (lamCx X A outer s H E scope f c') body (t E))
    (hdef : defaultsOf params X.env = ([], []) := by rfl)
    (hbind : ∀ (q : Str) (cl : List (Str × Addr)) (pm cv ctv : Value), bindArgs (PySem.W.kla_fn "<lambda>" q params body scope cl pm cv ctv) ⟨[], []⟩ = pure [] := by exact fun _ _ _ _ _ => rfl)
    (hdb : (x == ("__debug__" : Str)) = false := by decide) (hd : (a == ("__debug__" : Str)) = false := by decide) (hcd : (a == ("__classdict__" : Str)) = false := by decide) :
    PE X (.Call (.Name x p) [.Lambda params body scope lpos] [] pos) (tLam T TT t) := by
  obtain ⟨oc, od, kV, doc, pm, an, cdv, ct, osl, e, lk, hcg⟩ := F.ex
  subst e
  exact pe_lamcall hg hm F.kp lk hcg hb Sg hNg hva (hG cdv) TB hcode hmT hu hr L hdef hbind hbody hdb hd hcd
end
/-- of several defs that the slot may hold, which may raise -/
structure HeldX (P : Program) (w : World) (K : PySem.W.Frag) (mg : Str → Option Value) (base : Heap) (k : Nat) (f : Addr) (sp : Sp) : Prop where
  ex : ∃ (fd : FuncData) (ps : List Str), FnOk P w K mg base (L2.CX P w) k f fd ps sp ∧ PySem.W.keepIn K (.ref f) = true ∧ Binds K fd ps []
def tCallAX (i : Nat) (S : Addr → Sp → Prop) (E : XK) (t : TA) : TE := fun σ H Q => ∃ f sp, σ[i]? = some (some (.ref f)) ∧ S f sp ∧ t σ H fun vs H1 => sp vs H1 Q E
section
variable {X : Cx} {k i : Nat} {E : XK} {x : Str} {p pos : Pos} {e : Expr} {es : List Expr} {t : TA}
theorem pe_callAX {S : Addr → Sp → Prop} (A : ∀ f sp, S f sp → HeldX X.prog X.w X.K X.mg X.base k f sp) (hr : Room k X.A) (hN : X.N[i]? = some x) (hv : Vis X.env.scope x) (hx : Passes (L2.CX X.prog X.w) X E) (ha : PA X (e :: es) t)
    (hdb : (x == ("__debug__" : Str)) = false := by decide) (hcd : (x == ("__classdict__" : Str)) = false := by decide)
    (he : starEach (e :: es) X.env = (false, eval e X.env) :: starEach es X.env := by rfl) (hpl : (backTo pos (starEach es X.env)).any (·.1) = false := by rfl) :
    PE X (.Call (.Name x p) (e :: es) [] pos) (tCallAX i S E t) := by
  refine ⟨fun pins s σ H Q I h => ?_⟩
  obtain ⟨f, sp, hs, hS, ht⟩ := h
  obtain ⟨fd, ps, F, hk, hb⟩ := (A f sp hS).ex
  refine (pe_callL (i := i) (f := f) (sp := sp) (dvs := []) (E := E) F hr hN hv hk hb .nil hx ha hdb hcd he hpl).run pins s σ H Q I ⟨hs, ?_⟩
  have e0 : (fun (vs : List V) (H1 : Hp) => sp (vs ++ []) H1 Q E) = fun vs H1 => sp vs H1 Q E := by
    funext vs H1
    rw [List.append_nil]
  show t σ H (fun vs H1 => sp (vs ++ []) H1 Q E)
  rw [e0]
  exact ht
/-- b is c, of True and False -/
theorem op_isB : OpR X (compareOp .Is) (fun x y H Q => ∃ b c, x = .bl b ∧ y = .bl c ∧ Q (.bl (b == c)) H) := by
  intro pins s σ H x y v u Q I rx ry h
  obtain ⟨b, c, rfl, rfl, q⟩ := h
  cases (show v = Value.bool b from rx)
  cases (show u = Value.bool c from ry)
  have z : (compareOp .Is (.bool b) (.bool c) : Sem Value) = pure (.bool (b == c)) := by cases b <;> cases c <;> rfl
  rw [z]
  exact wpAny_pure ⟨.bl _, H, I, rfl, q⟩
end
end RL
/-! S35 -/
set_option Elab.async false
set_option linter.all false
set_option maxRecDepth 100000
/-! what stands while tables grow; kinds of values; wishes of errors -/
namespace RL
open PySem PySem.Spec PyProof.Rows L2 LamX
theorem Same.ext {H H' : Hp} (s : Same H H') : ExtN H H' := fun b o h _ => s b o h
theorem ext_sqt {K : PySem.W.Frag} {H H' : Hp} (e : ExtN H H') {a : Addr} {xs : List V} (h : SqT K H a xs) : SqT K H' a xs := by
  rcases h with (h | ⟨o, h⟩) | h
  · exact .inl (.inl (e _ _ h fun ps z => by cases z))
  · exact .inl (.inr ⟨o, e _ _ h fun ps z => by cases z⟩)
  · exact .inr h
theorem ext_isW {K : PySem.W.Frag} {H H' : Hp} (e : ExtN H H') {v : V} {ws : List Int} (h : IsW K H v ws) : IsW K H' v ws := let ⟨a, q, s⟩ := h; ⟨a, q, ext_sqt e s⟩
theorem ext_tyx {K : PySem.W.Frag} {H H' : Hp} {v : V} {t : Value} (s : ExtN H H') (h : TyX K H v t) : TyX K H' v t := by
  cases h with
  | base h =>
    cases h with
    | non => exact .base .non
    | bl x => exact .base (.bl x)
    | int i => exact .base (.int i)
    | str x => exact .base (.str x)
    | flt x => exact .base (.flt x)
    | lst e => exact .base (.lst (s _ _ e fun ps z => by cases z))
    | frz e => exact .base (.frz (s _ _ e fun ps z => by cases z))
    | tup e => exact .base (.tup (s _ _ e fun ps z => by cases z))
    | dK e => exact .base (.dK (s _ _ e fun ps z => by cases z))
    | dT e => exact .base (.dT (s _ _ e fun ps z => by cases z))
    | ins e cl ha hn htk hm => exact .base (.ins (s _ _ e fun ps z => by cases z) cl ha hn htk hm)
  | byt b => exact .byt b
  | set e => exact .set (s _ _ e fun ps z => by cases z)
  | kList e c => exact .kList e c
  | kTuple e c => exact .kTuple e c
  | kDict e c => exact .kDict e c
  | fTuple e => exact .fTuple (s _ _ e fun ps z => by cases z)
  | fDict e => exact .fDict (s _ _ e fun ps z => by cases z)
theorem ext_numV {K : PySem.W.Frag} {H H' : Hp} {v : V} (s : ExtN H H') (h : NumV K H v) : NumV K H' v := by
  rcases h with h | h | ⟨n1, n2, t, h1, h2⟩
  · exact .inl h
  · exact .inr (.inl h)
  · exact .inr (.inr ⟨n1, n2, t, ext_tyx s h1, h2⟩)
mutual
theorem ext_dp {K : PySem.W.Frag} {H H' : Hp} (s : ExtN H H') : ∀ {v : V} {d : PyData}, Dp K H v d → Dp K H' v d
  | _, _, .non => .non
  | _, _, .bl b => .bl b
  | _, _, .int i => .int i
  | _, _, .str x => .str x
  | _, _, .lst h a => .lst (ext_sql s h) (ext_dpAll s a)
  | _, _, .tup h a => .tup (ext_sqt s h) (ext_dpAll s a)
theorem ext_dpAll {K : PySem.W.Frag} {H H' : Hp} (s : ExtN H H') : ∀ {vs : List V} {ds : List PyData}, DpAll K H vs ds → DpAll K H' vs ds
  | _, _, .nil => .nil
  | _, _, .cons h a => .cons (ext_dp s h) (ext_dpAll s a)
theorem ext_sql {K : PySem.W.Frag} {H H' : Hp} (e : ExtN H H') {a : Addr} {xs : List V} (h : SqL K H a xs) : SqL K H' a xs := by
  rcases h with (h | ⟨o, h⟩) | h
  · exact .inl (.inl (e _ _ h fun ps z => by cases z))
  · exact .inl (.inr ⟨o, e _ _ h fun ps z => by cases z⟩)
  · exact .inr h
end
/-- whether v is spelled with the first k letters, at most so many -/
def spelled (xs : List V) (k most : Int) : Bool := decide ((xs.length : Int) ≤ most) && xs.all fun x => numB x 0 (k - 1)
def SpV (K : PySem.W.Frag) (H : Hp) (v : V) (k most : Int) (b : Bool) : Prop :=
  (b = false ∧ ∃ t, TyX K H v t ∧ PySem.W.kitOne K t (.type "tuple") = some false) ∨
    ∃ a xs, v = .ref a ∧ SqT K H a xs ∧ xs.length < sizeLine ∧ (∀ x ∈ xs, NumV K H x) ∧ b = spelled xs k most
theorem SpV.ext {K : PySem.W.Frag} {H H' : Hp} {v : V} {k most : Int} {b : Bool} (h : SpV K H v k most b) (s : ExtN H H') : SpV K H' v k most b := by
  rcases h with ⟨e, t, h1, h2⟩ | ⟨a, xs, e, h1, h2, h3, h4⟩
  · exact .inl ⟨e, t, ext_tyx s h1, h2⟩
  · exact .inr ⟨a, xs, e, ext_sqt s h1, h2, fun x hx => ext_numV s (h3 x hx), h4⟩
theorem SpV.word {K : PySem.W.Frag} {H : Hp} {v : V} {k most : Int} (h : SpV K H v k most true) : ∃ ws : List Int, IsW K H v ws ∧ (ws.length : Int) ≤ most ∧ ∀ n ∈ ws, 0 ≤ n ∧ n < k := by
  rcases h with ⟨e, _⟩ | ⟨a, xs, rfl, h1, h2, h3, h4⟩
  · cases e
  have h5 : spelled xs k most = true := h4.symm
  unfold spelled at h5
  rw [Bool.and_eq_true, decide_eq_true_eq] at h5
  have key : ∀ l : List V, (l.all fun x => numB x 0 (k - 1)) = true → ∃ ws : List Int, l = ws.map V.int ∧ ∀ n ∈ ws, 0 ≤ n ∧ n < k := by
    intro l
    induction l with
    | nil => exact fun _ => ⟨[], rfl, fun n hn => by cases hn⟩
    | cons x l ih =>
      intro h
      rw [List.all_cons, Bool.and_eq_true] at h
      obtain ⟨ws, rfl, hw⟩ := ih h.2
      cases x with
      | int i =>
        have := h.1
        simp only [numB, Bool.and_eq_true, decide_eq_true_eq] at this
        refine ⟨i :: ws, rfl, fun n hn => ?_⟩
        rcases List.mem_cons.mp hn with e | e
        · rw [e]; omega
        · exact hw n e
      | _ => simp [numB] at h
  obtain ⟨ws, rfl, hw⟩ := key xs h5.2
  exact ⟨ws, ⟨a, rfl, h1⟩, by have := h5.1; rwa [List.length_map] at this, hw⟩
theorem SpV.of {K : PySem.W.Frag} {H : Hp} {v : V} {k most : Int} {ws : List Int} (h : IsW K H v ws) (h1 : (ws.length : Int) ≤ most) (h0 : ws.length ≤ 100000) (h2 : ∀ n ∈ ws, 0 ≤ n ∧ n < k) : SpV K H v k most true := by
  obtain ⟨a, rfl, ha⟩ := h
  refine .inr ⟨a, _, rfl, ha, by rw [List.length_map, sizeLine_eq]; omega, fun x hx => ?_, ?_⟩
  · obtain ⟨n, _, rfl⟩ := List.mem_map.mp hx
    exact .inl ⟨n, rfl⟩
  · unfold spelled
    symm
    rw [Bool.and_eq_true]
    refine ⟨decide_eq_true (by rw [List.length_map]; exact h1), List.all_eq_true.mpr fun x hx => ?_⟩
    obtain ⟨n, hn, rfl⟩ := List.mem_map.mp hx
    have := h2 n hn
    simp only [numB, Bool.and_eq_true, decide_eq_true_eq]
    omega
/-- an error of the class at C that keeps v in f -/
def rKept (C : Addr) (f : Str) (v : V) (E : XK) (H : Hp) : Prop := ∀ d H', Same H H' → H' d = some (.xd [(f, v)]) → E (.ref C) (some d) H'
/-- an error of the class at C -/
def rPlain (C : Addr) (E : XK) (H : Hp) : Prop := ∀ H', Same H H' → E (.ref C) none H'
theorem rKept.same {C : Addr} {f : Str} {v : V} {E : XK} {H H' : Hp} (h : rKept C f v E H) (s : Same H H') : rKept C f v E H' := fun d H2 s2 e => h d H2 (Same.trans s s2) e
theorem rPlain.same {C : Addr} {E : XK} {H H' : Hp} (h : rPlain C E H) (s : Same H H') : rPlain C E H' := fun H2 s2 => h H2 (Same.trans s s2)
theorem rKept.mk {C : Addr} {f : Str} {v : V} {E : XK} {H : Hp} (h : rKept C f v E H) : ∀ d, H d = none → E (.ref C) (some d) (upd H d (.xd [(f, v)])) := fun d hd => h d _ (same_upd hd _) upd_same
/-- errors that end no iterator -/
def ES (K : PySem.W.Frag) (E : XK) : XK := fun cls d H => E cls d H ∧ PySem.W.subIn K cls (.type "StopIteration") = some false
theorem noStopES {K : PySem.W.Frag} {E : XK} : NoStop K (ES K E) := fun _ _ _ h => h.2
theorem passES {X : Cx} {E : XK} (h : Takes X (fun cls d _ H => E cls d H)) : Passes (L2.CX X.prog X.w) X (ES X.K E) := passes_call h fun _ _ _ _ z => z.1
theorem fun_gen {P : Program} {w : World} {K : PySem.W.Frag} {mg : Str → Option Value} {base : Heap} {x qual : Str} {st : Stmt} {f : Addr} {fd : FuncData} {N ps : List Str} {k : Nat} {sp : SpG} (F : Fun K x qual st f fd) (S : GScope N ps (defScope st)) (len : ∀ vs H Q E, sp vs H Q E → vs.length = ps.length)
    (hbody : ∀ (cdv : Value) (A : Around) (outer : List Env) (s : Shared) (H : Hp) (vs : List V) (Q : List V → Hp → Prop) (E : XK) (pn : List (Addr × Obj)), Room k (A.deeper (envOfC qual (defScope st) s.heap.objs.size f cdv)) → sp vs H Q E →
      ∃ t, GSs (gcxOf P w K mg base N qual (defScope st) f cdv A outer s H E pn) (defBody st) t ∧ t { nx := fun ys _ H' => Q ys H', rt := fun ys v H' => v = .non ∧ Q ys H' } [] (start N vs) H) :
    GFn P w K mg base (k + 1) f fd ps sp := by
  obtain ⟨oc, od, kV, doc, pm, an, cdv, ct, osl, rfl, lk, hcd⟩ := F.ex
  exact gfn_of lk hcd S len fun A outer s H vs Q E pn hr hsp => hbody cdv A outer s H vs Q E pn hr hsp
end RL
/-! S36 -/
set_option Elab.async false
set_option linter.all false
set_option maxRecDepth 100000
/-! a list of what calls gave: tuples of texts, one behind another -/
namespace RL
open PySem PySem.Spec PyProof.Rows L2 LamX
def IsSt (K : PySem.W.Frag) (H : Hp) (v : V) (l : List Str) : Prop := ∃ p, v = .ref p ∧ SqT K H p (l.map V.str)
inductive IsSts (K : PySem.W.Frag) (H : Hp) : List V → List (List Str) → Prop
  | nil : IsSts K H [] []
  | cons {v : V} {vs : List V} {l : List Str} {ls : List (List Str)} (h : IsSt K H v l) (t : IsSts K H vs ls) : IsSts K H (v :: vs) (l :: ls)
theorem IsSts.to {K : PySem.W.Frag} {H H' : Hp} (e : ∀ a xs, SqT K H a xs → SqT K H' a xs) : ∀ {vs ls}, IsSts K H vs ls → IsSts K H' vs ls
  | _, _, .nil => .nil
  | _, _, .cons ⟨p, h1, h2⟩ t => .cons ⟨p, h1, e _ _ h2⟩ (t.to e)
theorem IsSts.snoc {K : PySem.W.Frag} {H : Hp} {v : V} {l : List Str} (h : IsSt K H v l) : ∀ {vs ls}, IsSts K H vs ls → IsSts K H (vs ++ [v]) (ls ++ [l])
  | _, _, .nil => .cons h .nil
  | _, _, .cons h1 t => .cons h1 (t.snoc h)
theorem IsSts.length {K : PySem.W.Frag} {H : Hp} : ∀ {vs ls}, IsSts K H vs ls → vs.length = ls.length
  | _, _, .nil => rfl
  | _, _, .cons _ t => congrArg (· + 1) t.length
theorem IsSts.app {K : PySem.W.Frag} {H : Hp} : ∀ {vs ls ws ms}, IsSts K H vs ls → IsSts K H ws ms → IsSts K H (vs ++ ws) (ls ++ ms)
  | _, _, _, _, .nil, h => h
  | _, _, _, _, .cons h1 t, h => .cons h1 (t.app h)
abbrev dSt (l : List Str) : PyData := .tuple (l.map PyData.str)
abbrev dSts (ls : List (List Str)) : PyData := .list (ls.map dSt)
theorem IsSt.dp {K : PySem.W.Frag} {H : Hp} {v : V} {l : List Str} (h : IsSt K H v l) : Dp K H v (dSt l) := by
  obtain ⟨p, rfl, h⟩ := h
  refine .tup h ?_
  clear h
  induction l with
  | nil => exact .nil
  | cons x l ih => exact .cons (.str x) ih
theorem IsSts.dpAll {K : PySem.W.Frag} {H : Hp} : ∀ {vs ls}, IsSts K H vs ls → DpAll K H vs (ls.map dSt)
  | _, _, .nil => .nil
  | _, _, .cons h t => .cons h.dp t.dpAll
theorem IsSts.dp {K : PySem.W.Frag} {H : Hp} {a : Addr} {vs : List V} {ls : List (List Str)} (e : SqL K H a vs) (h : IsSts K H vs ls) : Dp K H (.ref a) (dSts ls) := .lst e h.dpAll
theorem depth_strs : ∀ l : List Str, PyData.depthAll (l.map PyData.str) = 0
  | [] => rfl
  | x :: l => by
    have ih := depth_strs l
    simp [PyData.depthAll, PyData.depth, ih]
theorem depth_sts : ∀ ls : List (List Str), PyData.depthAll (ls.map dSt) ≤ 1
  | [] => by simp [PyData.depthAll]
  | l :: ls => by
    have ih := depth_sts ls
    have h1 : PyData.depth (dSt l) = 1 := by
      show PyData.depthAll (l.map PyData.str) + 1 = 1
      rw [depth_strs]
    rw [List.map_cons, PyData.depthAll, h1]
    exact Nat.max_le.mpr ⟨Nat.le_refl _, ih⟩
theorem lay_strs : ∀ l : List Str, (∀ x ∈ l, (PyData.str x).canLay0 = true) → PyData.canLayAll0 (l.map PyData.str) = true
  | [], _ => by simp [PyData.canLayAll0]
  | x :: l, h => by
    rw [List.map_cons, PyData.canLayAll0, h x List.mem_cons_self, lay_strs l fun y hy => h y (.tail _ hy)]
    rfl
theorem lay_sts : ∀ ls : List (List Str), (∀ l ∈ ls, ∀ x ∈ l, (PyData.str x).canLay0 = true) → PyData.canLayAll0 (ls.map dSt) = true
  | [], _ => by simp [PyData.canLayAll0]
  | l :: ls, h => by
    have h1 : (dSt l).canLay0 = true := by
      show PyData.canLay0 (.tuple _) = true
      rw [PyData.canLay0]
      exact lay_strs l (h l List.mem_cons_self)
    rw [List.map_cons, PyData.canLayAll0, h1, lay_sts ls fun m hm => h m (.tail _ hm)]
    rfl
theorem shaped_sts {ls : List (List Str)} (h : ∀ l ∈ ls, ∀ x ∈ l, (PyData.str x).canLay0 = true) : SeqAt.shaped (dSts ls) = true := by
  unfold SeqAt.shaped
  rw [Bool.and_eq_true]
  refine ⟨?_, decide_eq_true ?_⟩
  · show PyData.canLay0 (.list _) = true
    rw [PyData.canLay0]
    exact lay_sts ls h
  · have := depth_sts ls
    show PyData.depthAll (ls.map dSt) + 1 ≤ 64
    omega
theorem eqv_sts {ls : List (List Str)} (h : ∀ l ∈ ls, ∀ x ∈ l, (PyData.str x).canLay0 = true) : PyData.eqv (dSts ls) (dSts ls) = true := SeqAt.eqv_refl _ (SeqAt.canLay_of_shaped (shaped_sts h))
theorem tabs_upd {T : List (Addr × Str)} {H : Hp} {l : Addr} {xs : List V} {o : HO} (h : Tabs T H) (hl : H l = some (.lst xs)) : Tabs T (upd H l o) := by
  intro p hp
  obtain ⟨ps, h1, h2, h3⟩ := h p hp
  refine ⟨ps, by rw [upd_ne fun z => by rw [z, hl] at h1; cases h1]; exact h1, h2, fun pos cv hc => ?_⟩
  obtain ⟨c, e1, e2⟩ := h3 pos cv hc
  refine ⟨c, e1, ?_⟩
  rw [upd_ne fun z => by rw [z, hl] at e2; unfold CodeO at e2; cases e2]
  exact e2
/-- the list at l holds ls; all else of H0 but tables stands -/
structure Tl (K : PySem.W.Frag) (tabs : List (Addr × Str)) (H0 : Hp) (l : Addr) (H : Hp) (ls : List (List Str)) : Prop where
  ext : ExtN H0 H
  new : ∀ o, H0 l = some o → (∀ ps, o ≠ .tbl ps) → False
  at_ : ∃ vs, H l = some (.lst vs) ∧ IsSts K H vs ls
  tab : Tabs tabs H
theorem op_repK {X : Cx} {K : PySem.W.Frag} (hK : X.K = K) : OpR X (binaryOp .Mult) (rRepS K) := hK ▸ op_repS
theorem op_addK {X : Cx} {K : PySem.W.Frag} {CX : CXT} {C g : Addr} {n : Nat} {fd : FuncData} {ps : List Str} {sp : Sp} {E : XK} (hK : X.K = K) (hc : PySem.W.selfFirst K C = true) (hs : PySem.W.findIn K (.ref C) "__add__" = some (some (.ref g)))
    (hf : PySem.W.isFn K (.ref g) = true) (F : FnOk X.prog X.w K X.mg X.base CX n g fd ps sp) (hr : Room n X.A) (hb : Binds K fd ps []) (hx : Passes CX X E) : OpR X (binaryOp .Add) (rAddO K C sp E) := by
  subst hK
  exact op_addO hc hs hf F hr hb hx
/-- a new tuple of texts -/
def Got (K : PySem.W.Frag) (Q : VK) (H : Hp) (l : List Str) : Prop := ∀ H' p, Same H H' → SqT K H' p (l.map V.str) → Q (.ref p) H'
theorem Got.same {K : PySem.W.Frag} {Q : VK} {H H' : Hp} {l : List Str} (h : Got K Q H l) (s : Same H H') : Got K Q H' l := fun H2 p s2 hp => h H2 p (Same.trans s s2) hp
/-- .. wherever tables have grown -/
def GotN (K : PySem.W.Frag) (tabs : List (Addr × Str)) (Q : VK) (H : Hp) (l : List Str) : Prop := ∀ H1, ExtN H H1 → Tabs tabs H1 → Got K Q H1 l
theorem tl_first {K : PySem.W.Frag} {tabs : List (Addr × Str)} {H0 : Hp} {x : List Str} {D : Addr → Hp → Prop} (q : ∀ l H', Tl K tabs H0 l H' [x] → D l H') :
    GotN K tabs (fun v H' => 1 ≤ sizeLine ∧ ∀ H'' l, Same H' H'' → H' l = none → H'' l = some (.lst [v]) → D l H'') H0 x := by
  intro H1 e1 t1 H2 p s2 hp
  refine ⟨by rw [sizeLine_eq]; omega, fun H3 l s3 hl e3 => q l H3 ⟨(e1.trans (Same.ext s2)).trans (Same.ext s3), fun o ho n => ?_, ⟨_, e3, .cons ⟨p, rfl, Same.sqt s3 hp⟩ .nil⟩, (t1.ext s2).ext s3⟩⟩
  have z := (e1.trans (Same.ext s2)) _ _ ho n
  rw [hl] at z
  cases z
theorem Tl.more {K : PySem.W.Frag} {tabs : List (Addr × Str)} {H0 H : Hp} {l : Addr} {ls : List (List Str)} (h : Tl K tabs H0 l H ls) {x : List Str} {D : Hp → Prop} (hz : ls.length < 1000) (q : ∀ H', Tl K tabs H0 l H' (ls ++ [x]) → D H') :
    GotN K tabs (fun v H' => ∃ l' xs y, V.ref l = .ref l' ∧ [v] = [y] ∧ H' l' = some (.lst xs) ∧ xs.length < sizeLine ∧ D (upd H' l' (.lst (xs ++ [y])))) H x := by
  intro H1 e1 t1 H2 p s2 hp
  obtain ⟨vs, hl, hs⟩ := h.at_
  have e2 := e1.trans (Same.ext s2)
  have hl2 := e2 _ _ hl fun ps z => by cases z
  have hs2 := hs.to fun a xs z => ext_sqt e2 z
  have lv := hs.length
  refine ⟨l, vs, _, rfl, rfl, hl2, by rw [sizeLine_eq]; omega, q _ ⟨fun b o ho n => ?_, h.new, ⟨_, upd_same, ?_⟩, tabs_upd (t1.ext s2) hl2⟩⟩
  · have nb : b ≠ l := fun z => h.new o (z ▸ ho) n
    rw [upd_ne nb]
    exact e2 _ _ (h.ext _ _ ho n) n
  · have st : Stay H2 (upd H2 l (.lst (vs ++ [V.ref p]))) := stay_lst hl2
    exact (hs2.to fun a xs z => Stay.sqt st z).snoc ⟨p, rfl, Stay.sqt st hp⟩
theorem Tl.lst {K : PySem.W.Frag} {tabs : List (Addr × Str)} {H0 H : Hp} {l : Addr} {ls : List (List Str)} (h : Tl K tabs H0 l H ls) : ∃ vs, H l = some (.lst vs) ∧ IsSts K H vs ls := h.at_
theorem rKept.es {K : PySem.W.Frag} {C : Addr} {f : Str} {v : V} {E : XK} {H : Hp} (h : rKept C f v E H) (n : PySem.W.subIn K (.ref C) (.type "StopIteration") = some false) : rKept C f v (ES K E) H := fun d H' s e => ⟨h d H' s e, n⟩
theorem rPlain.es {K : PySem.W.Frag} {C : Addr} {E : XK} {H : Hp} (h : rPlain C E H) (n : PySem.W.subIn K (.ref C) (.type "StopIteration") = some false) : rPlain C (ES K E) H := fun H' s => ⟨h H' s, n⟩
end RL
/-! E1 -/
set_option linter.all false
set_option maxRecDepth 100000
/-! endless words: T, then R again and again (both from the end) -/
namespace EW
def E (R T : List Int) (i : Nat) : Option Int := if i < T.length then T[i]? else R[(i - T.length) % R.length]?
theorem E_abs (R0 T0 : List Int) (x : Int) : E (x :: R0) T0 = E (R0 ++ [x]) (T0 ++ [x]) := by
  funext i
  unfold E
  rw [List.length_append, List.length_singleton, List.length_append, List.length_singleton, List.length_cons]
  rcases Nat.lt_trichotomy i T0.length with h | h | h
  · rw [if_pos h, if_pos (by omega), List.getElem?_append_left h]
  · subst h
    rw [if_neg (by omega), if_pos (by omega), Nat.sub_self, Nat.zero_mod, List.getElem?_append_right (Nat.le_refl _), Nat.sub_self]
    rfl
  · rw [if_neg (by omega), if_neg (by omega)]
    obtain ⟨j, rfl⟩ : ∃ j, i = T0.length + 1 + j := ⟨i - (T0.length + 1), by omega⟩
    have e1 : T0.length + 1 + j - T0.length = j + 1 := by omega
    have e2 : T0.length + 1 + j - (T0.length + 1) = j := by omega
    rw [e1, e2]
    have hm : j % (R0.length + 1) < R0.length + 1 := Nat.mod_lt j (Nat.succ_pos R0.length)
    rcases Nat.lt_or_ge (j % (R0.length + 1)) R0.length with g | g
    · have e3 : (j + 1) % (R0.length + 1) = j % (R0.length + 1) + 1 := by
        rw [Nat.add_mod]
        rcases Nat.eq_zero_or_pos R0.length with z | z
        · omega
        · rw [Nat.mod_eq_of_lt (show 1 < R0.length + 1 by omega), Nat.mod_eq_of_lt (by omega)]
      rw [e3, List.getElem?_append_left g]
      rfl
    · have e3 : j % (R0.length + 1) = R0.length := by omega
      have e4 : (j + 1) % (R0.length + 1) = 0 := by
        have := Nat.div_add_mod j (R0.length + 1)
        rw [e3] at this
        have e5 : j + 1 = (R0.length + 1) * (j / (R0.length + 1) + 1) := by rw [Nat.mul_add]; omega
        rw [e5]
        exact Nat.mul_mod_right _ _
      rw [e3, e4, List.getElem?_append_right (Nat.le_refl _), Nat.sub_self]
      rfl
def Per (f : Nat → Option Int) (d : Nat) : Prop := ∀ i, f (i + d) = f i
theorem Per.mul {f : Nat → Option Int} {d : Nat} (h : Per f d) : ∀ k, Per f (d * k)
  | 0 => fun i => rfl
  | k + 1 => fun i => by rw [Nat.mul_succ, ← Nat.add_assoc, h, Per.mul h k]
theorem Per.sub {f : Nat → Option Int} {a b : Nat} (ha : Per f a) (hb : Per f b) (h : a ≤ b) : Per f (b - a) := fun i => by
  rw [← ha (i + (b - a))]
  have e : i + (b - a) + a = i + b := by omega
  rw [e, hb]
theorem Per.mod {f : Nat → Option Int} {a b : Nat} (ha : Per f a) (hb : Per f b) : Per f (b % a) := by
  have h := (ha.mul (b / a)).sub hb (Nat.mul_div_le b a)
  have e : b - a * (b / a) = b % a := by have := Nat.div_add_mod b a; omega
  rwa [e] at h
theorem Per.gcd {f : Nat → Option Int} {a b : Nat} (ha : Per f a) (hb : Per f b) : Per f (Nat.gcd a b) := by
  induction a, b using Nat.gcd.induction with
  | H0 n => rw [Nat.gcd_zero_left]; exact hb
  | H1 m n hm ih =>
    rw [Nat.gcd_rec]
    exact ih (ha.mod hb) ha
/-- two periodic words that agree long enough are one -/
theorem agree {f g : Nat → Option Int} {p q : Nat} (hp : Per f p) (hq : Per g q) (h : ∀ i, i < p + q → f i = g i) (hp0 : 0 < p) (hq0 : 0 < q) : ∀ n, f n = g n := by
  intro n
  induction n using Nat.strongRecOn with
  | _ n ih =>
    rcases Nat.lt_or_ge n (p + q) with l | l
    · exact h n l
    · have h1 := hq (n - q)
      have h2 := hp (n - q - p)
      have h3 := hq (n - p - q)
      have h4 := hp (n - p)
      rw [Nat.sub_add_cancel (by omega)] at h1 h2 h3 h4
      have e : n - q - p = n - p - q := by omega
      have k1 := ih (n - p) (by omega)
      have k2 := ih (n - q) (by omega)
      have k3 := ih (n - p - q) (by omega)
      rw [e] at h2
      exact h4.trans (k1.trans (h3.trans (k3.symm.trans (h2.symm.trans (k2.trans h1.symm)))))
theorem E_per (R : List Int) : Per (E R []) R.length := fun i => by
  unfold E
  simp
/-- no shorter period divides -/
def Prim (R : List Int) : Prop := R ≠ [] ∧ ∀ d, 0 < d → d ∣ R.length → Per (E R []) d → d = R.length
theorem shift (R T : List Int) (j : Nat) : E R T (T.length + j) = E R [] j := by
  unfold E
  rw [if_neg (by omega), if_neg (by simp)]
  simp
theorem E_eq {R S : List Int} (h : R.length = S.length) (e : ∀ i, E R [] i = E S [] i) : R = S := by
  refine List.ext_getElem? fun i => ?_
  rcases Nat.lt_or_ge i R.length with l | l
  · have := e i
    unfold E at this
    simp only [List.length_nil, Nat.not_lt_zero, if_false, Nat.sub_zero] at this
    rw [Nat.mod_eq_of_lt l, Nat.mod_eq_of_lt (h ▸ l)] at this
    exact this
  · rw [List.getElem?_eq_none l, List.getElem?_eq_none (h ▸ l)]
theorem per_le {f : Nat → Option Int} {a d : Nat} (h : Per f a) (hs : ∀ i, f (i + d) = f (i + d + a)) : True := trivial
/-- what no letter can be taken off -/
def Norm (R T : List Int) : Prop := Prim R ∧ ∀ x, T.getLast? = some x → R.getLast? ≠ some x
theorem norm_half {R S T U : List Int} (hR : Norm R T) (hS : Norm S U) (hl : T.length ≤ U.length) (h : ∀ i, i < U.length + R.length + S.length → E R T i = E S U i) : R = S ∧ T = U := by
  have r0 : 0 < R.length := List.length_pos_iff.mpr hR.1.1
  have s0 : 0 < S.length := List.length_pos_iff.mpr hS.1.1
  -- behind the longer tail both are periodic
  have pf : Per (fun j => E R T (U.length + j)) R.length := fun j => by
    obtain ⟨c, hc⟩ := Nat.exists_eq_add_of_le hl
    show E R T (U.length + (j + R.length)) = E R T (U.length + j)
    rw [hc, Nat.add_assoc, Nat.add_assoc, shift, shift, ← Nat.add_assoc, E_per]
  have pg : Per (fun j => E S U (U.length + j)) S.length := fun j => by
    show E S U (U.length + (j + S.length)) = E S U (U.length + j)
    rw [shift, shift, E_per]
  have ag := agree pf pg (fun i hi => h _ (by omega)) r0 s0
  -- so both have the common period, and so one length
  have pg2 : Per (fun j => E S U (U.length + j)) R.length := fun j => by
    exact (ag _).symm.trans ((pf j).trans (ag j))
  have pS : Per (E S []) (Nat.gcd R.length S.length) := fun j => by
    have : E S U (U.length + (j + Nat.gcd R.length S.length)) = E S U (U.length + j) := Per.gcd pg2 pg j
    rw [shift, shift] at this
    exact this
  have eS := hS.1.2 _ (Nat.gcd_pos_of_pos_left _ r0) (Nat.gcd_dvd_right _ _) pS
  obtain ⟨c, hc⟩ := Nat.exists_eq_add_of_le hl
  have pR : Per (E R []) (Nat.gcd R.length S.length) := by
    have p1 : Per (fun j => E R T (U.length + j)) (Nat.gcd R.length S.length) := fun j => by
      exact (ag _).trans ((Per.gcd pg2 pg j).trans (ag j).symm)
    -- moved to the ring's own beginning
    have p2 : ∀ j, E R [] (c + j + Nat.gcd R.length S.length) = E R [] (c + j) := fun j => by
      have : E R T (U.length + (j + Nat.gcd R.length S.length)) = E R T (U.length + j) := p1 j
      rw [hc, Nat.add_assoc, Nat.add_assoc, shift, shift] at this
      rw [Nat.add_assoc]
      exact this
    intro j
    have q := (E_per R).mul c
    have k := p2 (j + R.length * c - c)
    have le : c ≤ R.length * c := Nat.le_mul_of_pos_left c r0
    have e1 : c + (j + R.length * c - c) = j + R.length * c := by omega
    rw [e1] at k
    have e2 : j + R.length * c + Nat.gcd R.length S.length = j + Nat.gcd R.length S.length + R.length * c := by omega
    rw [e2, q, q] at k
    exact k
  have eR := hR.1.2 _ (Nat.gcd_pos_of_pos_left _ r0) (Nat.gcd_dvd_left _ _) pR
  have len : R.length = S.length := eR.symm.trans eS
  -- a longer tail would end as its ring does
  have c0 : c = 0 := by
    refine Nat.eq_zero_of_not_pos fun cp => ?_
    have hu : U ≠ [] := fun z => by rw [z] at hc; simp at hc; omega
    have k1 := h (U.length - 1) (by omega)
    have k2 := h (U.length - 1 + R.length) (by omega)
    have e1 : U.length - 1 = T.length + (c - 1) := by omega
    have e2 : U.length - 1 + R.length = T.length + (c - 1 + R.length) := by omega
    have f1 : E R T (U.length - 1) = E R [] (c - 1) := by rw [e1, shift]
    have f2 : E R T (U.length - 1 + R.length) = E R [] (c - 1) := by rw [e2, shift, E_per]
    have g1 : E S U (U.length - 1) = U.getLast? := by
      unfold E
      rw [if_pos (by omega), List.getLast?_eq_getElem?]
    have g2 : E S U (U.length - 1 + R.length) = S.getLast? := by
      have e3 : U.length - 1 + R.length = U.length + (S.length - 1) := by omega
      rw [e3, shift]
      unfold E
      simp only [List.length_nil, Nat.not_lt_zero, if_false, Nat.sub_zero]
      rw [Nat.mod_eq_of_lt (by omega), List.getLast?_eq_getElem?]
    rw [f1, g1] at k1
    rw [f2, g2] at k2
    cases e : U.getLast? with
    | none => exact hu (List.getLast?_eq_none_iff.mp e)
    | some x => exact hS.2 x e (k2.symm.trans (k1.trans e))
  have lenT : T.length = U.length := by omega
  refine ⟨E_eq len fun i => ?_, List.ext_getElem? fun i => ?_⟩
  · have : E R T (U.length + i) = E S U (U.length + i) := ag i
    rw [shift, ← lenT, shift] at this
    exact this
  · rcases Nat.lt_or_ge i T.length with l | l
    · have := h i (by omega)
      unfold E at this
      rw [if_pos l, if_pos (lenT ▸ l)] at this
      exact this
    · rw [List.getElem?_eq_none l, List.getElem?_eq_none (lenT ▸ l)]
/-- the normal form is one -/
theorem norm_uniq {R S T U : List Int} (hR : Norm R T) (hS : Norm S U) (h : ∀ i, i < max T.length U.length + R.length + S.length → E R T i = E S U i) : R = S ∧ T = U := by
  rcases Nat.le_total T.length U.length with l | l
  · exact norm_half hR hS l fun i hi => h i (by omega)
  · have := norm_half hS hR l fun i hi => (h i (by omega)).symm
    exact ⟨this.1.symm, this.2.symm⟩
end EW
/-! E2 -/
set_option linter.all false
set_option maxRecDepth 100000
namespace EW
def rep (n : Nat) (w : List Int) : List Int := (List.replicate n w).flatten
theorem rep_len (n : Nat) (w : List Int) : (rep n w).length = n * w.length := by simp [rep]
theorem rep_succ (n : Nat) (w : List Int) : rep (n + 1) w = w ++ rep n w := by simp [rep, List.replicate_succ]
theorem rep_rev (n : Nat) (w : List Int) : (rep n w).reverse = rep n w.reverse := by
  unfold rep
  rw [List.reverse_flatten, List.map_replicate, List.reverse_replicate]
theorem rep_at (w : List Int) : ∀ (n i : Nat), i < n * w.length → (rep n w)[i]? = w[i % w.length]?
  | 0, i, h => by simp at h
  | n + 1, i, h => by
    rw [rep_succ]
    rcases Nat.lt_or_ge i w.length with l | l
    · rw [List.getElem?_append_left l, Nat.mod_eq_of_lt l]
    · rw [List.getElem?_append_right l, rep_at w n (i - w.length) (by rw [Nat.succ_mul] at h; omega), Nat.mod_eq_sub_mod l]
theorem E_ring (R : List Int) (i : Nat) : E R [] i = R[i % R.length]? := by simp [E]
theorem E_rep (R : List Int) {n : Nat} (h : 0 < n) (hr : R ≠ []) : E (rep n R) [] = E R [] := by
  funext i
  have r0 : 0 < R.length := List.length_pos_iff.mpr hr
  rw [E_ring, E_ring, rep_len, rep_at R n _ (Nat.mod_lt _ (Nat.mul_pos h r0)), Nat.mul_comm, Nat.mod_mul_right_mod]
theorem E_tail {R S : List Int} (h : E R [] = E S []) (T : List Int) : E R T = E S T := by
  funext i
  unfold E
  split
  · rfl
  · have := congrFun h (i - T.length)
    rw [E_ring, E_ring] at this
    exact this
/-- the word is its first m letters again and again -/
def hasP (w : List Int) (m : Nat) : Bool := decide (w.length % m = 0) && decide (rep (w.length / m) (w.take m) = w)
theorem per_of {w : List Int} {d : Nat} (hd : 0 < d) (h : hasP w d = true) (hw : w ≠ []) : Per (E w.reverse []) d := by
  unfold hasP at h
  rw [Bool.and_eq_true, decide_eq_true_iff, decide_eq_true_iff] at h
  obtain ⟨h1, h2⟩ := h
  have l0 : 0 < w.length := List.length_pos_iff.mpr hw
  have dl : d ∣ w.length := Nat.dvd_of_mod_eq_zero h1
  have dle := Nat.le_of_dvd l0 dl
  have tl : (w.take d).length = d := by rw [List.length_take]; omega
  have tn : (w.take d).reverse ≠ [] := fun z => by
    have := congrArg List.length z
    rw [List.length_reverse, tl, List.length_nil] at this
    omega
  rw [← h2, rep_rev, E_rep _ (Nat.div_pos dle hd) tn]
  have := E_per (w.take d).reverse
  rw [List.length_reverse, tl] at this
  exact this
theorem of_per {w : List Int} {d : Nat} (hd : 0 < d) (dl : d ∣ w.length) (h : Per (E w.reverse []) d) (hw : w ≠ []) : hasP w d = true := by
  have l0 : 0 < w.length := List.length_pos_iff.mpr hw
  have dle := Nat.le_of_dvd l0 dl
  unfold hasP
  rw [Bool.and_eq_true, decide_eq_true_iff, decide_eq_true_iff]
  refine ⟨Nat.mod_eq_zero_of_dvd dl, ?_⟩
  have tl : (w.take d).length = d := by rw [List.length_take]; omega
  have ml : (rep (w.length / d) (w.take d)).length = w.length := by rw [rep_len, tl, Nat.div_mul_cancel dl]
  -- counted from the front, the letters come back too
  have front : ∀ i, i + d < w.length → w[i + d]? = w[i]? := fun i hi => by
    have q := h (w.length - 1 - (i + d))
    rw [E_ring, E_ring, List.length_reverse, Nat.mod_eq_of_lt (by omega), Nat.mod_eq_of_lt (by omega), List.getElem?_reverse (by omega), List.getElem?_reverse (by omega)] at q
    have e1 : w.length - 1 - (w.length - 1 - (i + d) + d) = i := by omega
    have e2 : w.length - 1 - (w.length - 1 - (i + d)) = i + d := by omega
    rw [e1, e2] at q
    exact q.symm
  have back : ∀ i, i < w.length → w[i]? = w[i % d]? := fun i => by
    induction i using Nat.strongRecOn with
    | _ i ih =>
      intro hi
      rcases Nat.lt_or_ge i d with l | l
      · rw [Nat.mod_eq_of_lt l]
      · have := front (i - d) (by omega)
        rw [Nat.sub_add_cancel l] at this
        rw [this, ih (i - d) (by omega) (by omega), ← Nat.mod_eq_sub_mod l]
  refine List.ext_getElem? fun i => ?_
  rcases Nat.lt_or_ge i w.length with l | l
  · rw [rep_at _ _ _ (by rw [← rep_len, ml]; exact l), tl, back i l, List.getElem?_take_of_lt (Nat.mod_lt _ hd)]
  · rw [List.getElem?_eq_none l, List.getElem?_eq_none (by rw [ml]; exact l)]
def rootL (w : List Int) : Nat := ((List.range' 1 (w.length - 1)).find? (hasP w)).getD w.length
def root (w : List Int) : List Int := w.take (rootL w)
theorem hasP_all {w : List Int} (hw : w ≠ []) : hasP w w.length = true := by
  have l0 : 0 < w.length := List.length_pos_iff.mpr hw
  unfold hasP
  rw [Nat.mod_self, Nat.div_self l0, List.take_length]
  simp [rep]
theorem rootL_spec {w : List Int} (hw : w ≠ []) : 0 < rootL w ∧ rootL w ≤ w.length ∧ hasP w (rootL w) = true ∧ ∀ d, 0 < d → d < rootL w → hasP w d = false := by
  have l0 : 0 < w.length := List.length_pos_iff.mpr hw
  unfold rootL
  cases e : (List.range' 1 (w.length - 1)).find? (hasP w) with
  | none =>
    rw [List.find?_eq_none] at e
    refine ⟨l0, Nat.le_refl _, hasP_all hw, fun d d0 d1 => ?_⟩
    have d1 : d < w.length := d1
    exact Bool.eq_false_iff.mpr (e d (List.mem_range'_1.mpr ⟨d0, by omega⟩))
  | some m =>
    have h1 := List.find?_some e
    obtain ⟨m0, m1⟩ := List.mem_range'_1.mp (List.mem_of_find?_eq_some e)
    refine ⟨m0, by show m ≤ _; omega, h1, fun d d0 d1 => ?_⟩
    have d1 : d < m := d1
    obtain ⟨_, l, r, el, hl⟩ := List.find?_eq_some_iff_append.mp e
    have hd : d ∈ List.range' 1 (w.length - 1) := List.mem_range'_1.mpr ⟨d0, by omega⟩
    have sorted : (List.range' 1 (w.length - 1)).Pairwise (· < ·) := List.pairwise_lt_range'
    rw [el] at hd sorted
    rcases List.mem_append.mp hd with z | z
    · have := hl d z
      simpa using this
    · rcases List.mem_cons.mp z with z | z
      · omega
      · have := (List.pairwise_cons.mp (List.pairwise_append.mp sorted).2.1).1 d z
        omega
theorem root_ne {w : List Int} (hw : w ≠ []) : root w ≠ [] := fun z => by
  have h := rootL_spec hw
  have := congrArg List.length z
  unfold root at this
  rw [List.length_take, List.length_nil] at this
  omega
theorem root_len {w : List Int} (hw : w ≠ []) : (root w).length = rootL w := by
  have h := rootL_spec hw
  unfold root
  rw [List.length_take]
  omega
theorem root_rep {w : List Int} (hw : w ≠ []) : rootL w ∣ w.length ∧ rep (w.length / rootL w) (root w) = w := by
  have h := (rootL_spec hw).2.2.1
  unfold hasP at h
  rw [Bool.and_eq_true, decide_eq_true_iff, decide_eq_true_iff] at h
  exact ⟨Nat.dvd_of_mod_eq_zero h.1, h.2⟩
theorem E_root {w : List Int} (hw : w ≠ []) : E (root w).reverse [] = E w.reverse [] := by
  have h := root_rep hw
  have l0 : 0 < w.length := List.length_pos_iff.mpr hw
  have hs := rootL_spec hw
  have e := E_rep (root w).reverse (n := w.length / rootL w) (Nat.div_pos hs.2.1 hs.1) (by simpa using root_ne hw)
  rw [← rep_rev, h.2] at e
  exact e.symm
theorem prim_root {w : List Int} (hw : w ≠ []) : Prim (root w).reverse := by
  refine ⟨by simpa using root_ne hw, fun d d0 dd hp => ?_⟩
  rw [List.length_reverse, root_len hw] at dd ⊢
  rw [E_root hw] at hp
  have hs := rootL_spec hw
  have dl : d ∣ w.length := Nat.dvd_trans dd (root_rep hw).1
  have := of_per d0 dl hp hw
  rcases Nat.lt_or_ge d (rootL w) with l | l
  · rw [hs.2.2.2 d d0 l] at this
    cases this
  · exact Nat.le_antisymm (Nat.le_of_dvd hs.1 dd) l
theorem root_prim {w : List Int} (h : Prim w.reverse) : root w = w := by
  have hw : w ≠ [] := by simpa using h.1
  have hs := rootL_spec hw
  have := h.2 (rootL w) hs.1 (by rw [List.length_reverse]; exact (root_rep hw).1) (per_of hs.1 hs.2.2.1 hw)
  rw [List.length_reverse] at this
  unfold root
  rw [this, List.take_length]
/-- the tail is taken into the ring, letter by letter -/
def absorb : List Int → List Int → List Int × List Int
  | r, [] => (r, [])
  | [], y :: t => ([], y :: t)
  | x :: r, y :: t => if y = x then absorb (r ++ [x]) t else (x :: r, y :: t)
theorem prim_rot {R0 : List Int} {x : Int} (h : Prim (R0 ++ [x])) : Prim (x :: R0) := by
  refine ⟨List.cons_ne_nil _ _, fun d d0 dd hp => ?_⟩
  have l : (R0 ++ [x]).length = (x :: R0).length := by simp
  have e : ∀ j, E (R0 ++ [x]) [] j = E (x :: R0) [] (j + 1) := fun j => by
    have q := congrFun (E_abs R0 [] x) (j + 1)
    rw [q]
    have := shift (R0 ++ [x]) ([] ++ [x]) j
    simp only [List.nil_append, List.length_singleton] at this ⊢
    rw [Nat.add_comm j 1, this]
  rw [← l]
  refine h.2 d d0 (by rw [l]; exact dd) fun i => ?_
  rw [e, e]
  have e2 : i + d + 1 = i + 1 + d := by omega
  rw [e2, hp]
theorem absorb_E : ∀ (r t : List Int), E (absorb r t).1.reverse (absorb r t).2.reverse = E r.reverse t.reverse
  | r, [] => by simp [absorb]
  | [], y :: t => by simp [absorb]
  | x :: r, y :: t => by
    unfold absorb
    split
    · rename_i e
      subst e
      rw [absorb_E (r ++ [y]) t, List.reverse_append, List.reverse_singleton, List.singleton_append, List.reverse_cons, List.reverse_cons]
      exact E_abs _ _ _
    · rfl
theorem absorb_norm : ∀ (r t : List Int), Prim r.reverse → Norm (absorb r t).1.reverse (absorb r t).2.reverse
  | r, [], h => by
    unfold absorb
    exact ⟨h, fun x z => by simp at z⟩
  | [], y :: t, h => absurd rfl h.1
  | x :: r, y :: t, h => by
    unfold absorb
    split
    · refine absorb_norm (r ++ [x]) t ?_
      rw [List.reverse_append, List.reverse_singleton, List.singleton_append]
      rw [List.reverse_cons] at h
      exact prim_rot h
    · rename_i e
      refine ⟨h, fun z h1 h2 => e ?_⟩
      rw [List.getLast?_reverse, List.head?_cons] at h1 h2
      exact (Option.some.inj h1).trans (Option.some.inj h2).symm
theorem absorb_more : ∀ (r t u : List Int), absorb (absorb r t).1 ((absorb r t).2 ++ u) = absorb r (t ++ u)
  | r, [], u => by simp [absorb]
  | [], y :: t, u => by simp [absorb]
  | x :: r, y :: t, u => by
    by_cases e : y = x
    · have e1 : absorb (x :: r) (y :: t) = absorb (r ++ [x]) t := by rw [absorb, if_pos e]
      have e2 : absorb (x :: r) (y :: t ++ u) = absorb (r ++ [x]) (t ++ u) := by rw [List.cons_append, absorb, if_pos e]
      rw [e1, e2]
      exact absorb_more (r ++ [x]) t u
    · have e1 : absorb (x :: r) (y :: t) = (x :: r, y :: t) := by rw [absorb, if_neg e]
      rw [e1]
/-- the form that is kept -/
def kept (r t : List Int) : List Int × List Int := absorb (root r) t
theorem kept_norm {r : List Int} (hr : r ≠ []) (t : List Int) : Norm (kept r t).1.reverse (kept r t).2.reverse := absorb_norm _ _ (prim_root hr)
theorem kept_E {r : List Int} (hr : r ≠ []) (t : List Int) : E (kept r t).1.reverse (kept r t).2.reverse = E r.reverse t.reverse := by
  unfold kept
  rw [absorb_E, E_tail (E_root hr)]
theorem kept_more {r : List Int} (hr : r ≠ []) (t u : List Int) : kept (kept r t).1 ((kept r t).2 ++ u) = kept r (t ++ u) := by
  have h := kept_norm hr t
  show absorb (root (kept r t).1) _ = absorb (root r) (t ++ u)
  rw [root_prim h.1]
  exact absorb_more _ _ _
/-- the last letters -/
def lastW (r t : List Int) (many : Nat) : List Int := (rep (many / r.length + 1) r ++ t).drop ((rep (many / r.length + 1) r ++ t).length - many)
theorem last_long {r : List Int} (hr : r ≠ []) (t : List Int) (many : Nat) : many ≤ (rep (many / r.length + 1) r ++ t).length := by
  have r0 : 0 < r.length := List.length_pos_iff.mpr hr
  rw [List.length_append, rep_len]
  have := Nat.lt_div_mul_add (a := many) r0
  rw [Nat.succ_mul]
  omega
theorem last_len {r : List Int} (hr : r ≠ []) (t : List Int) (many : Nat) : (lastW r t many).length = many := by
  have := last_long hr t many
  unfold lastW
  rw [List.length_drop]
  omega
theorem last_at {r : List Int} (hr : r ≠ []) (t : List Int) {many i : Nat} (h : i < many) : (lastW r t many).reverse[i]? = E r.reverse t.reverse i := by
  have r0 : 0 < r.length := List.length_pos_iff.mpr hr
  have hl := last_long hr t many
  unfold lastW
  rw [List.reverse_drop, Nat.sub_sub_self hl, List.getElem?_take_of_lt h, List.reverse_append, rep_rev]
  unfold E
  split
  · rename_i l
    rw [List.getElem?_append_left l]
  · rename_i l
    rw [List.getElem?_append_right (Nat.le_of_not_lt l), rep_at]
    rw [List.length_reverse]
    rw [List.length_append, rep_len] at hl
    rw [List.length_reverse] at l ⊢
    have := Nat.lt_div_mul_add (a := many) r0
    rw [Nat.succ_mul]
    omega
theorem last_eq {r s : List Int} (hr : r ≠ []) (hs : s ≠ []) {t u : List Int} {many : Nat} : lastW r t many = lastW s u many ↔ ∀ i, i < many → E r.reverse t.reverse i = E s.reverse u.reverse i := by
  constructor
  · intro h i hi
    rw [← last_at hr t hi, ← last_at hs u hi, h]
  · intro h
    rw [← List.reverse_inj]
    refine List.ext_getElem? fun i => ?_
    rcases Nat.lt_or_ge i many with l | l
    · rw [last_at hr t l, last_at hs u l, h i l]
    · rw [List.getElem?_eq_none (by rw [List.length_reverse, last_len hr]; exact l), List.getElem?_eq_none (by rw [List.length_reverse, last_len hs]; exact l)]
theorem kept_ne {r : List Int} (hr : r ≠ []) (t : List Int) : (kept r t).1 ≠ [] := by
  have := (kept_norm hr t).1.1
  simpa using this
theorem kept_last {r : List Int} (hr : r ≠ []) (t : List Int) (many : Nat) : lastW (kept r t).1 (kept r t).2 many = lastW r t many :=
  (last_eq (kept_ne hr t) hr).mpr fun i _ => congrFun (kept_E hr t) i
/-- two forms are one exactly if their ends are -/
theorem kept_iff {r s : List Int} (hr : r ≠ []) (hs : s ≠ []) (t u : List Int) :
    kept r t = kept s u ↔ lastW (kept r t).1 (kept r t).2 (max (kept r t).2.length (kept s u).2.length + (kept r t).1.length + (kept s u).1.length) = lastW (kept s u).1 (kept s u).2 (max (kept r t).2.length (kept s u).2.length + (kept r t).1.length + (kept s u).1.length) := by
  constructor
  · intro h
    rw [h]
  · intro h
    rw [last_eq (kept_ne hr t) (kept_ne hs u)] at h
    have := norm_uniq (kept_norm hr t) (kept_norm hs u) (by simpa using h)
    exact Prod.ext (List.reverse_inj.mp this.1) (List.reverse_inj.mp this.2)
end EW
/-! E3 -/
set_option linter.all false
set_option maxRecDepth 100000
namespace EW
def rotl (r : List Int) (i : Nat) : List Int := r.drop (i % r.length) ++ r.take (i % r.length)
theorem rotl_0 (r : List Int) : rotl r 0 = r := by simp [rotl]
theorem rot_cons {r : List Int} (hr : r ≠ []) (i : Nat) : ∃ y s, rotl r i = y :: s ∧ r[i % r.length]? = some y ∧ rotl r (i + 1) = s ++ [y] := by
  have r0 : 0 < r.length := List.length_pos_iff.mpr hr
  have hm := Nat.mod_lt i r0
  have hs : (i + 1) % r.length = if i % r.length + 1 < r.length then i % r.length + 1 else 0 := by
    rw [Nat.add_mod]
    split
    · rename_i l
      rcases Nat.lt_or_ge 1 r.length with g | g
      · rw [Nat.mod_eq_of_lt g, Nat.mod_eq_of_lt l]
      · omega
    · rename_i l
      rcases Nat.lt_or_ge 1 r.length with g | g
      · rw [Nat.mod_eq_of_lt g]
        have : i % r.length + 1 = r.length := by omega
        rw [this, Nat.mod_self]
      · have : r.length = 1 := by omega
        rw [this]
        omega
  unfold rotl
  rw [hs]
  generalize i % r.length = m at hm
  refine ⟨r[m], r.drop (m + 1) ++ r.take m, ?_, List.getElem?_eq_getElem hm, ?_⟩
  · rw [List.drop_eq_getElem_cons hm]
    rfl
  · split
    · rw [List.take_add_one, List.getElem?_eq_getElem hm, List.append_assoc]
      rfl
    · rename_i l
      have : m + 1 = r.length := by omega
      rw [List.drop_zero, List.take_zero, List.append_nil, List.drop_of_length_le (by omega), List.nil_append]
      have h2 : r.take m ++ [r[m]] = r.take (m + 1) := by
        rw [List.take_add_one, List.getElem?_eq_getElem hm]
        rfl
      rw [h2, List.take_of_length_le (by omega)]
theorem absorb_step {r t : List Int} (hr : r ≠ []) {i : Nat} {y : Int} (ht : t[i]? = some y) (h : r[i % r.length]? = some y) : absorb (rotl r i) (t.drop i) = absorb (rotl r (i + 1)) (t.drop (i + 1)) := by
  obtain ⟨z, s, e1, e2, e3⟩ := rot_cons hr i
  rw [h] at e2
  cases e2
  have hi : i < t.length := (List.getElem?_eq_some_iff.mp ht).1
  have e4 : t.drop i = y :: t.drop (i + 1) := by
    rw [List.drop_eq_getElem_cons hi]
    rw [List.getElem?_eq_getElem hi] at ht
    rw [Option.some.inj ht]
  rw [e1, e4, e3]
  show (if y = y then _ else _) = _
  rw [if_pos rfl]
theorem absorb_stop {r t : List Int} (hr : r ≠ []) {i : Nat} (h : ∀ y, t[i]? = some y → r[i % r.length]? ≠ some y) : absorb (rotl r i) (t.drop i) = (rotl r i, t.drop i) := by
  obtain ⟨z, s, e1, e2, e3⟩ := rot_cons hr i
  cases e : t.drop i with
  | nil => rw [e1]; rfl
  | cons y u =>
    have hy : t[i]? = some y := by
      have := List.getElem?_drop (xs := t) (i := i) (j := 0)
      rw [e] at this
      simpa using this.symm
    have := h y hy
    rw [e2] at this
    rw [e1]
    show (if y = z then _ else _) = _
    rw [if_neg (fun q => this (by rw [q]))]
/-- no letter can be taken in -/
def Stuck (r t : List Int) : Prop := ∀ x y, r.head? = some x → t.head? = some y → y ≠ x
theorem absorb_stuck : ∀ {r t : List Int}, Stuck r t → absorb r t = (r, t)
  | r, [], _ => by simp [absorb]
  | [], y :: t, _ => rfl
  | x :: r, y :: t, h => by
    show (if y = x then _ else _) = _
    rw [if_neg (h x y rfl rfl)]
theorem rotl_len (r : List Int) (i : Nat) (hr : r ≠ []) : (rotl r i).length = r.length := by
  have r0 : 0 < r.length := List.length_pos_iff.mpr hr
  have := Nat.mod_lt i r0
  unfold rotl
  rw [List.length_append, List.length_drop, List.length_take]
  omega
theorem absorb_len : ∀ (r t : List Int), (absorb r t).1.length = r.length ∧ (absorb r t).2.length ≤ t.length
  | r, [] => by simp [absorb]
  | [], y :: t => by simp [absorb]
  | x :: r, y :: t => by
    unfold absorb
    split
    · have := absorb_len (r ++ [x]) t
      rw [this.1]
      simp
      omega
    · simp
theorem kept_len {r : List Int} (hr : r ≠ []) (t : List Int) : (kept r t).1.length ≤ r.length ∧ (kept r t).2.length ≤ t.length := by
  have h := absorb_len (root r) t
  have hs := rootL_spec hr
  unfold kept
  rw [h.1, root_len hr]
  exact ⟨hs.2.1, h.2⟩
theorem absorb_mem (p : Int → Prop) : ∀ (r t : List Int), (∀ x ∈ r, p x) → (∀ x ∈ t, p x) → (∀ x ∈ (absorb r t).1, p x) ∧ ∀ x ∈ (absorb r t).2, p x
  | r, [], h, k => ⟨by simpa [absorb] using h, by simp [absorb]⟩
  | [], y :: t, h, k => ⟨by simp [absorb], by simpa [absorb] using k⟩
  | x :: r, y :: t, h, k => by
    unfold absorb
    split
    · exact absorb_mem p (r ++ [x]) t (fun z hz => (List.mem_append.mp hz).elim (fun g => h z (List.mem_cons_of_mem _ g)) (fun g => h z (List.mem_singleton.mp g ▸ List.mem_cons_self))) (fun z hz => k z (List.mem_cons_of_mem _ hz))
    · exact ⟨h, k⟩
theorem kept_mem (p : Int → Prop) {r t : List Int} (h : ∀ x ∈ r, p x) (k : ∀ x ∈ t, p x) : (∀ x ∈ (kept r t).1, p x) ∧ ∀ x ∈ (kept r t).2, p x :=
  absorb_mem p _ _ (fun x hx => h x (List.mem_of_mem_take hx)) k
end EW
/-! K06a -/
set_option Elab.async false
set_option linter.all false
set_option maxRecDepth 100000
set_option maxHeartbeats 2000000
namespace K06
open PySem PySem.Spec PyProof.Rows L2 PpSet RL LamX
def topS (i : Nat) : Stmt := PySem.Challenge.pw_roomlines_k06_errors_of_endless_words.main.body.getD i (.Pass ⟨0, 0, 0, 0⟩)
abbrev s_is_number : Stmt := topS 7
theorem sc_is_number : FnScope ["value", "least", "most"] ["value", "least", "most"] (defScope s_is_number) := ⟨rfl, rfl, rfl, by decide +kernel, rfl, by decide +kernel, by decide +kernel⟩
abbrev s_check_number : Stmt := topS 8
theorem sc_check_number : FnScope ["value", "least", "most"] ["value", "least", "most"] (defScope s_check_number) := ⟨rfl, rfl, rfl, by decide +kernel, rfl, by decide +kernel, by decide +kernel⟩
abbrev s_check_letters : Stmt := topS 12
theorem sc_check_letters : FnScope ["letters"] ["letters"] (defScope s_check_letters) := ⟨rfl, rfl, rfl, by decide +kernel, rfl, by decide +kernel, by decide +kernel⟩
abbrev s_is_spelled : Stmt := topS 13
theorem sc_is_spelled : FnScope ["letters", "value", "most", "letter"] ["letters", "value", "most"] (defScope s_is_spelled) := ⟨rfl, rfl, rfl, by decide +kernel, rfl, by decide +kernel, by decide +kernel⟩
abbrev s_check_word : Stmt := topS 14
theorem sc_check_word : FnScope ["letters", "word"] ["letters", "word"] (defScope s_check_word) := ⟨rfl, rfl, rfl, by decide +kernel, rfl, by decide +kernel, by decide +kernel⟩
abbrev s__root : Stmt := topS 20
theorem sc__root : FnScope ["word", "many"] ["word"] (defScope s__root) := ⟨rfl, rfl, rfl, by decide +kernel, rfl, by decide +kernel, by decide +kernel⟩
abbrev s__kept : Stmt := topS 21
theorem sc__kept : FnScope ["ring", "tail", "root", "many", "turned"] ["ring", "tail"] (defScope s__kept) := ⟨rfl, rfl, rfl, by decide +kernel, rfl, by decide +kernel, by decide +kernel⟩
abbrev s_Endless___init__ : Stmt := inClass (topS 24) 0
theorem sc_Endless___init__ : FnScope ["self", "letters", "ring", "tail", "kept_ring", "kept_tail"] ["self", "letters", "ring", "tail"] (defScope s_Endless___init__) := ⟨rfl, rfl, rfl, by decide +kernel, rfl, by decide +kernel, by decide +kernel⟩
abbrev s_Endless_letters : Stmt := inClass (topS 24) 1
theorem sc_Endless_letters : FnScope ["self"] ["self"] (defScope s_Endless_letters) := ⟨rfl, rfl, rfl, by decide +kernel, rfl, by decide +kernel, by decide +kernel⟩
abbrev s_Endless_ring : Stmt := inClass (topS 24) 2
theorem sc_Endless_ring : FnScope ["self"] ["self"] (defScope s_Endless_ring) := ⟨rfl, rfl, rfl, by decide +kernel, rfl, by decide +kernel, by decide +kernel⟩
abbrev s_Endless_tail : Stmt := inClass (topS 24) 3
theorem sc_Endless_tail : FnScope ["self"] ["self"] (defScope s_Endless_tail) := ⟨rfl, rfl, rfl, by decide +kernel, rfl, by decide +kernel, by decide +kernel⟩
abbrev s_last_letters : Stmt := topS 26
theorem sc_last_letters : FnScope ["height", "many", "repeats", "word"] ["height", "many"] (defScope s_last_letters) := ⟨rfl, rfl, rfl, by decide +kernel, rfl, by decide +kernel, by decide +kernel⟩
abbrev s_Endless_end : Stmt := inClass (topS 24) 4
theorem sc_Endless_end : FnScope ["self", "many"] ["self", "many"] (defScope s_Endless_end) := ⟨rfl, rfl, rfl, by decide +kernel, rfl, by decide +kernel, by decide +kernel⟩
abbrev s_Endless___add__ : Stmt := inClass (topS 24) 5
theorem sc_Endless___add__ : FnScope ["self", "other"] ["self", "other"] (defScope s_Endless___add__) := ⟨rfl, rfl, rfl, by decide +kernel, rfl, by decide +kernel, by decide +kernel⟩
abbrev s_Endless___eq__ : Stmt := inClass (topS 24) 6
theorem sc_Endless___eq__ : FnScope ["self", "other"] ["self", "other"] (defScope s_Endless___eq__) := ⟨rfl, rfl, rfl, by decide +kernel, rfl, by decide +kernel, by decide +kernel⟩
abbrev s_root_of : Stmt := topS 30
theorem sc_root_of : FnScope ["letters", "word", "root"] ["letters", "word"] (defScope s_root_of) := ⟨rfl, rfl, rfl, by decide +kernel, rfl, by decide +kernel, by decide +kernel⟩
abbrev s__is_height_of : Stmt := topS 31
theorem sc__is_height_of : FnScope ["letters", "value"] ["letters", "value"] (defScope s__is_height_of) := ⟨rfl, rfl, rfl, by decide +kernel, rfl, by decide +kernel, by decide +kernel⟩
abbrev s__check_height : Stmt := topS 32
theorem sc__check_height : FnScope ["letters", "height"] ["letters", "height"] (defScope s__check_height) := ⟨rfl, rfl, rfl, by decide +kernel, rfl, by decide +kernel, by decide +kernel⟩
abbrev s__check_heights : Stmt := topS 33
theorem sc__check_heights : FnScope ["letters", "one", "other"] ["letters", "one", "other"] (defScope s__check_heights) := ⟨rfl, rfl, rfl, by decide +kernel, rfl, by decide +kernel, by decide +kernel⟩
abbrev s_is_height : Stmt := topS 34
theorem sc_is_height : FnScope ["letters", "value"] ["letters", "value"] (defScope s_is_height) := ⟨rfl, rfl, rfl, by decide +kernel, rfl, by decide +kernel, by decide +kernel⟩
abbrev s_compare : Stmt := topS 35
theorem sc_compare : FnScope ["letters", "one", "other"] ["letters", "one", "other"] (defScope s_compare) := ⟨rfl, rfl, rfl, by decide +kernel, rfl, by decide +kernel, by decide +kernel⟩
abbrev s_ends_with : Stmt := topS 36
theorem sc_ends_with : FnScope ["letters", "height", "word"] ["letters", "height", "word"] (defScope s_ends_with) := ⟨rfl, rfl, rfl, by decide +kernel, rfl, by decide +kernel, by decide +kernel⟩
abbrev s_agree : Stmt := topS 37
theorem sc_agree : FnScope ["letters", "one", "other"] ["letters", "one", "other"] (defScope s_agree) := ⟨rfl, rfl, rfl, by decide +kernel, rfl, by decide +kernel, by decide +kernel⟩
abbrev s_each_end : Stmt := topS 38
theorem sc_each_end : GScope ["letters", "height", "many", "longest", "length"] ["letters", "height", "many"] (defScope s_each_end) := ⟨rfl, rfl, rfl, by decide +kernel, rfl, by decide +kernel, by decide +kernel⟩
abbrev s__law_bag : Stmt := topS 40
theorem sc__law_bag : FnScope ["script", "spot", "cell", "great", "mixed"] ["script", "spot"] (defScope s__law_bag) := ⟨rfl, rfl, rfl, by decide +kernel, rfl, by decide +kernel, by decide +kernel⟩
abbrev s__law_grab : Stmt := topS 41
theorem sc__law_grab : FnScope ["bag", "total", "found", "one", "two"] ["bag", "total"] (defScope s__law_grab) := ⟨rfl, rfl, rfl, by decide +kernel, rfl, by decide +kernel, by decide +kernel⟩
abbrev s__law_one_of : Stmt := topS 42
theorem sc__law_one_of : FnScope ["bag", "items"] ["bag", "items"] (defScope s__law_one_of) := ⟨rfl, rfl, rfl, by decide +kernel, rfl, by decide +kernel, by decide +kernel⟩
abbrev s__law_word_drawn : Stmt := topS 43
theorem sc__law_word_drawn : FnScope ["bag", "letters", "most", "lap"] ["bag", "letters", "most"] (defScope s__law_word_drawn) := ⟨rfl, rfl, rfl, by decide +kernel, rfl, by decide +kernel, by decide +kernel⟩
abbrev s__law_makings_right : Stmt := topS 45
theorem sc__law_makings_right : FnScope ["bag", "letters", "bad", "word", "none", "told", "number"] ["bag", "letters", "bad", "word"] (defScope s__law_makings_right) := ⟨rfl, rfl, rfl, by decide +kernel, rfl, by decide +kernel, by decide +kernel⟩
abbrev s__law_methods_right : Stmt := topS 46
theorem sc__law_methods_right : FnScope ["bag", "letters", "here", "many", "wrong", "told"] ["bag", "letters", "here"] (defScope s__law_methods_right) := ⟨rfl, rfl, rfl, by decide +kernel, rfl, by decide +kernel, by decide +kernel⟩
abbrev s__law_heights_right : Stmt := topS 47
theorem sc__law_heights_right : FnScope ["bag", "letters", "bad", "here", "far", "none", "wrong", "many", "told", "call", "number", "height", "due"] ["bag", "letters", "bad", "here"] (defScope s__law_heights_right) := ⟨rfl, rfl, rfl, by decide +kernel, rfl, by decide +kernel, by decide +kernel⟩
abbrev s_law : Stmt := topS 48
theorem sc_law : FnScope ["script", "spot", "bag", "letters", "bad", "word", "here"] ["script"] (defScope s_law) := ⟨rfl, rfl, rfl, by decide +kernel, rfl, by decide +kernel, by decide +kernel⟩
abbrev s__law_met : Stmt := topS 44
theorem sc__law_met : FnScope ["call", "error"] ["call"] (defScope s__law_met) := ⟨rfl, rfl, rfl, by decide +kernel, rfl, by decide +kernel, by decide +kernel⟩
structure Txt (K : PySem.W.Frag) (mg : Str → Option Value) : Type where
  C_Endless : Addr
  a_is_number : Addr
  d_is_number : FuncData
  F_is_number : Fun K "is_number" "is_number" s_is_number a_is_number d_is_number
  b_is_number : Binds K d_is_number ["value", "least", "most"] []
  m_is_number : mg "is_number" = some (.ref a_is_number)
  a_check_number : Addr
  d_check_number : FuncData
  F_check_number : Fun K "check_number" "check_number" s_check_number a_check_number d_check_number
  b_check_number : Binds K d_check_number ["value", "least", "most"] []
  m_check_number : mg "check_number" = some (.ref a_check_number)
  a_check_letters : Addr
  d_check_letters : FuncData
  F_check_letters : Fun K "check_letters" "check_letters" s_check_letters a_check_letters d_check_letters
  b_check_letters : Binds K d_check_letters ["letters"] []
  m_check_letters : mg "check_letters" = some (.ref a_check_letters)
  a_is_spelled : Addr
  d_is_spelled : FuncData
  F_is_spelled : Fun K "is_spelled" "is_spelled" s_is_spelled a_is_spelled d_is_spelled
  b_is_spelled : Binds K d_is_spelled ["letters", "value", "most"] []
  m_is_spelled : mg "is_spelled" = some (.ref a_is_spelled)
  a_check_word : Addr
  d_check_word : FuncData
  F_check_word : Fun K "check_word" "check_word" s_check_word a_check_word d_check_word
  b_check_word : Binds K d_check_word ["letters", "word"] []
  m_check_word : mg "check_word" = some (.ref a_check_word)
  a__root : Addr
  d__root : FuncData
  F__root : Fun K "_root" "_root" s__root a__root d__root
  b__root : Binds K d__root ["word"] []
  m__root : mg "_root" = some (.ref a__root)
  a__kept : Addr
  d__kept : FuncData
  F__kept : Fun K "_kept" "_kept" s__kept a__kept d__kept
  b__kept : Binds K d__kept ["ring", "tail"] []
  m__kept : mg "_kept" = some (.ref a__kept)
  a_Endless___init__ : Addr
  d_Endless___init__ : FuncData
  e_Endless___init___tail : Addr
  et_Endless___init___tail : ∀ H, SqT K H e_Endless___init___tail []
  F_Endless___init__ : FunD K "__init__" "Endless.__init__" (defArgs s_Endless___init__) (defBody s_Endless___init__) (defScope s_Endless___init__) [] [("tail", V.ref e_Endless___init___tail)] a_Endless___init__ d_Endless___init__
  b_Endless___init__ : Binds K d_Endless___init__ ["self", "letters", "ring", "tail"] [Value.ref e_Endless___init___tail]
  kb_Endless : KBn K d_Endless___init__ ["self", "letters", "ring", "tail"] 3 ["tail"] (fun us ws => us ++ ws) (fun vs zs => vs ++ zs)
  v_Endless : Vals [V.ref e_Endless___init___tail] [Value.ref e_Endless___init___tail]
  mk_Endless : Mk K C_Endless a_Endless___init__
  a_Endless_letters : Addr
  d_Endless_letters : FuncData
  F_Endless_letters : Fun K "letters" "Endless.letters" s_Endless_letters a_Endless_letters d_Endless_letters
  b_Endless_letters : Binds K d_Endless_letters ["self"] []
  q_Endless_letters : Addr
  p_Endless_letters : PropOf K C_Endless "letters" q_Endless_letters a_Endless_letters
  a_Endless_ring : Addr
  d_Endless_ring : FuncData
  F_Endless_ring : Fun K "ring" "Endless.ring" s_Endless_ring a_Endless_ring d_Endless_ring
  b_Endless_ring : Binds K d_Endless_ring ["self"] []
  q_Endless_ring : Addr
  p_Endless_ring : PropOf K C_Endless "ring" q_Endless_ring a_Endless_ring
  a_Endless_tail : Addr
  d_Endless_tail : FuncData
  F_Endless_tail : Fun K "tail" "Endless.tail" s_Endless_tail a_Endless_tail d_Endless_tail
  b_Endless_tail : Binds K d_Endless_tail ["self"] []
  q_Endless_tail : Addr
  p_Endless_tail : PropOf K C_Endless "tail" q_Endless_tail a_Endless_tail
  a_last_letters : Addr
  d_last_letters : FuncData
  F_last_letters : Fun K "last_letters" "last_letters" s_last_letters a_last_letters d_last_letters
  b_last_letters : Binds K d_last_letters ["height", "many"] []
  m_last_letters : mg "last_letters" = some (.ref a_last_letters)
  a_Endless_end : Addr
  d_Endless_end : FuncData
  F_Endless_end : Fun K "end" "Endless.end" s_Endless_end a_Endless_end d_Endless_end
  b_Endless_end : Binds K d_Endless_end ["self", "many"] []
  mt_Endless_end : Meth K C_Endless "end" a_Endless_end
  a_Endless___add__ : Addr
  d_Endless___add__ : FuncData
  F_Endless___add__ : Fun K "__add__" "Endless.__add__" s_Endless___add__ a_Endless___add__ d_Endless___add__
  b_Endless___add__ : Binds K d_Endless___add__ ["self", "other"] []
  add_Endless : PySem.W.findIn K (.ref C_Endless) "__add__" = some (some (.ref a_Endless___add__))
  addf_Endless : PySem.W.isFn K (.ref a_Endless___add__) = true
  a_Endless___eq__ : Addr
  d_Endless___eq__ : FuncData
  F_Endless___eq__ : Fun K "__eq__" "Endless.__eq__" s_Endless___eq__ a_Endless___eq__ d_Endless___eq__
  b_Endless___eq__ : Binds K d_Endless___eq__ ["self", "other"] []
  eq_Endless : PySem.W.findIn K (.ref C_Endless) "__eq__" = some (some (.ref a_Endless___eq__))
  eqf_Endless : PySem.W.isFn K (.ref a_Endless___eq__) = true
  a_root_of : Addr
  d_root_of : FuncData
  F_root_of : Fun K "root_of" "root_of" s_root_of a_root_of d_root_of
  b_root_of : Binds K d_root_of ["letters", "word"] []
  m_root_of : mg "root_of" = some (.ref a_root_of)
  a__is_height_of : Addr
  d__is_height_of : FuncData
  F__is_height_of : Fun K "_is_height_of" "_is_height_of" s__is_height_of a__is_height_of d__is_height_of
  b__is_height_of : Binds K d__is_height_of ["letters", "value"] []
  m__is_height_of : mg "_is_height_of" = some (.ref a__is_height_of)
  a__check_height : Addr
  d__check_height : FuncData
  F__check_height : Fun K "_check_height" "_check_height" s__check_height a__check_height d__check_height
  b__check_height : Binds K d__check_height ["letters", "height"] []
  m__check_height : mg "_check_height" = some (.ref a__check_height)
  a__check_heights : Addr
  d__check_heights : FuncData
  F__check_heights : Fun K "_check_heights" "_check_heights" s__check_heights a__check_heights d__check_heights
  b__check_heights : Binds K d__check_heights ["letters", "one", "other"] []
  m__check_heights : mg "_check_heights" = some (.ref a__check_heights)
  a_is_height : Addr
  d_is_height : FuncData
  F_is_height : Fun K "is_height" "is_height" s_is_height a_is_height d_is_height
  b_is_height : Binds K d_is_height ["letters", "value"] []
  m_is_height : mg "is_height" = some (.ref a_is_height)
  a_compare : Addr
  d_compare : FuncData
  F_compare : Fun K "compare" "compare" s_compare a_compare d_compare
  b_compare : Binds K d_compare ["letters", "one", "other"] []
  m_compare : mg "compare" = some (.ref a_compare)
  a_ends_with : Addr
  d_ends_with : FuncData
  F_ends_with : Fun K "ends_with" "ends_with" s_ends_with a_ends_with d_ends_with
  b_ends_with : Binds K d_ends_with ["letters", "height", "word"] []
  m_ends_with : mg "ends_with" = some (.ref a_ends_with)
  a_agree : Addr
  d_agree : FuncData
  F_agree : Fun K "agree" "agree" s_agree a_agree d_agree
  b_agree : Binds K d_agree ["letters", "one", "other"] []
  m_agree : mg "agree" = some (.ref a_agree)
  a_each_end : Addr
  d_each_end : FuncData
  F_each_end : Fun K "each_end" "each_end" s_each_end a_each_end d_each_end
  b_each_end : Binds K d_each_end ["letters", "height", "many"] []
  m_each_end : mg "each_end" = some (.ref a_each_end)
  a__law_bag : Addr
  d__law_bag : FuncData
  F__law_bag : Fun K "_law_bag" "_law_bag" s__law_bag a__law_bag d__law_bag
  b__law_bag : Binds K d__law_bag ["script", "spot"] []
  m__law_bag : mg "_law_bag" = some (.ref a__law_bag)
  a__law_grab : Addr
  d__law_grab : FuncData
  F__law_grab : Fun K "_law_grab" "_law_grab" s__law_grab a__law_grab d__law_grab
  b__law_grab : Binds K d__law_grab ["bag", "total"] []
  m__law_grab : mg "_law_grab" = some (.ref a__law_grab)
  a__law_one_of : Addr
  d__law_one_of : FuncData
  F__law_one_of : Fun K "_law_one_of" "_law_one_of" s__law_one_of a__law_one_of d__law_one_of
  b__law_one_of : Binds K d__law_one_of ["bag", "items"] []
  m__law_one_of : mg "_law_one_of" = some (.ref a__law_one_of)
  a__law_word_drawn : Addr
  d__law_word_drawn : FuncData
  F__law_word_drawn : Fun K "_law_word_drawn" "_law_word_drawn" s__law_word_drawn a__law_word_drawn d__law_word_drawn
  b__law_word_drawn : Binds K d__law_word_drawn ["bag", "letters", "most"] []
  m__law_word_drawn : mg "_law_word_drawn" = some (.ref a__law_word_drawn)
  a__law_makings_right : Addr
  d__law_makings_right : FuncData
  F__law_makings_right : Fun K "_law_makings_right" "_law_makings_right" s__law_makings_right a__law_makings_right d__law_makings_right
  b__law_makings_right : Binds K d__law_makings_right ["bag", "letters", "bad", "word"] []
  m__law_makings_right : mg "_law_makings_right" = some (.ref a__law_makings_right)
  a__law_methods_right : Addr
  d__law_methods_right : FuncData
  F__law_methods_right : Fun K "_law_methods_right" "_law_methods_right" s__law_methods_right a__law_methods_right d__law_methods_right
  b__law_methods_right : Binds K d__law_methods_right ["bag", "letters", "here"] []
  m__law_methods_right : mg "_law_methods_right" = some (.ref a__law_methods_right)
  a__law_heights_right : Addr
  d__law_heights_right : FuncData
  F__law_heights_right : Fun K "_law_heights_right" "_law_heights_right" s__law_heights_right a__law_heights_right d__law_heights_right
  b__law_heights_right : Binds K d__law_heights_right ["bag", "letters", "bad", "here"] []
  m__law_heights_right : mg "_law_heights_right" = some (.ref a__law_heights_right)
  a_law : Addr
  d_law : FuncData
  F_law : Fun K "law" "law" s_law a_law d_law
  b_law : Binds K d_law ["script"] []
  m_law : mg "law" = some (.ref a_law)
  a__law_met : Addr
  d__law_met : FuncData
  F__law_met : Fun K "_law_met" "_law_met" s__law_met a__law_met d__law_met
  b__law_met : Binds K d__law_met ["call"] []
  m__law_met : mg "_law_met" = some (.ref a__law_met)
  mC_Endless : mg "Endless" = some (.ref C_Endless)
  c_Endless : Cls K C_Endless
  na_Endless_letters : NoAttr K C_Endless "_letters"
  na_Endless_ring : NoAttr K C_Endless "_ring"
  na_Endless_tail : NoAttr K C_Endless "_tail"
  ob_Endless : PySem.W.mroIn K C_Endless (.type "object") = some true
  ne_Endless : PySem.W.findIn K (.ref C_Endless) "__ne__" = some (some (.builtin "object.__ne__"))
  sf_Endless : PySem.W.selfFirst K C_Endless = true
  ca_Endless : PySem.W.findIn K (.ref C_Endless) "__class__" = some (some (.builtin "object.__class__"))
  cn_Endless : PySem.W.specialIn K (.builtin "object.__class__") "__get__" = some (some (.builtin "getset_descriptor.__get__"))
  ct_Endless : PySem.W.takesIn K (.builtin "object.__class__") = some true
  ks_Endless : PySem.W.kitOne K (.ref C_Endless) (.ref C_Endless) = some true
  nf_Endless : PySem.W.notFirst K C_Endless (.ref C_Endless) = true
  kt_Endless : PySem.W.kitOne K (.ref C_Endless) (.type "tuple") = some false
  ktuple_Endless : PySem.W.kitOne K (.type "tuple") (.ref C_Endless) = some false
  kint_Endless : PySem.W.kitOne K (.type "int") (.ref C_Endless) = some false
  kstr_Endless : PySem.W.kitOne K (.type "str") (.ref C_Endless) = some false
  klist_Endless : PySem.W.kitOne K (.type "list") (.ref C_Endless) = some false
  kdict_Endless : PySem.W.kitOne K (.type "dict") (.ref C_Endless) = some false
  kNoneType_Endless : PySem.W.kitOne K (.type "NoneType") (.ref C_Endless) = some false
  nftuple_Endless : PySem.W.notFirst K C_Endless (.type "tuple") = true
  t_MAX_LETTERS : Tok
  g_MAX_LETTERS : mg "MAX_LETTERS" = some (.int 4 t_MAX_LETTERS)
  t_MAX_WORD : Tok
  g_MAX_WORD : mg "MAX_WORD" = some (.int 200 t_MAX_WORD)
  t_MAX_END : Tok
  g_MAX_END : mg "MAX_END" = some (.int 1000 t_MAX_END)
  t_MOST_ENDS : Tok
  g_MOST_ENDS : mg "MOST_ENDS" = some (.int 60 t_MOST_ENDS)
  C_InvalidWord : Addr
  sn_InvalidWord : PySem.W.subIn K (.ref C_InvalidWord) (.type "StopIteration") = some false
  mC_InvalidWord : mg "InvalidWord" = some (.ref C_InvalidWord)
  k_InvalidWord : PySem.W.keepIn K (.ref C_InvalidWord) = true
  e_InvalidWord : PySem.W.subIn K (.ref C_InvalidWord) (.type "BaseException") = some true
  t_InvalidWord : PySem.W.typeIn K (.ref C_InvalidWord) = some (.type "type")
  x_InvalidWord : PySem.W.excIn K C_InvalidWord [.type "ValueError", .type "Exception", .type "BaseException", .type "object"] "ValueError.__new__" = true
  C_InvalidHeight : Addr
  sn_InvalidHeight : PySem.W.subIn K (.ref C_InvalidHeight) (.type "StopIteration") = some false
  mC_InvalidHeight : mg "InvalidHeight" = some (.ref C_InvalidHeight)
  k_InvalidHeight : PySem.W.keepIn K (.ref C_InvalidHeight) = true
  e_InvalidHeight : PySem.W.subIn K (.ref C_InvalidHeight) (.type "BaseException") = some true
  t_InvalidHeight : PySem.W.typeIn K (.ref C_InvalidHeight) = some (.type "type")
  x_InvalidHeight : PySem.W.excIn K C_InvalidHeight [.type "ValueError", .type "Exception", .type "BaseException", .type "object"] "ValueError.__new__" = true
  C_InvalidOperation : Addr
  sn_InvalidOperation : PySem.W.subIn K (.ref C_InvalidOperation) (.type "StopIteration") = some false
  mC_InvalidOperation : mg "InvalidOperation" = some (.ref C_InvalidOperation)
  k_InvalidOperation : PySem.W.keepIn K (.ref C_InvalidOperation) = true
  e_InvalidOperation : PySem.W.subIn K (.ref C_InvalidOperation) (.type "BaseException") = some true
  t_InvalidOperation : PySem.W.typeIn K (.ref C_InvalidOperation) = some (.type "type")
  x_InvalidOperation : PySem.W.excIn K C_InvalidOperation [.type "ValueError", .type "Exception", .type "BaseException", .type "object"] "ValueError.__new__" = true
  C_InvalidNumber : Addr
  sn_InvalidNumber : PySem.W.subIn K (.ref C_InvalidNumber) (.type "StopIteration") = some false
  mC_InvalidNumber : mg "InvalidNumber" = some (.ref C_InvalidNumber)
  k_InvalidNumber : PySem.W.keepIn K (.ref C_InvalidNumber) = true
  e_InvalidNumber : PySem.W.subIn K (.ref C_InvalidNumber) (.type "BaseException") = some true
  t_InvalidNumber : PySem.W.typeIn K (.ref C_InvalidNumber) = some (.type "type")
  i_InvalidNumber : Addr
  kp_InvalidNumber : PySem.OwX.KeepT K mg "InvalidNumber" "given" "IndexError" "IndexError.__new__" [.type "IndexError", .type "LookupError", .type "Exception", .type "BaseException", .type "object"] C_InvalidNumber i_InvalidNumber
  xf_InvalidNumber : XfC K C_InvalidNumber
  em_InvalidWord_InvalidWord : PySem.W.exmOne K (.ref C_InvalidWord) (.ref C_InvalidWord) = some true
  em_InvalidHeight_InvalidWord : PySem.W.exmOne K (.ref C_InvalidHeight) (.ref C_InvalidWord) = some false
  em_InvalidHeight_InvalidHeight : PySem.W.exmOne K (.ref C_InvalidHeight) (.ref C_InvalidHeight) = some true
  em_InvalidOperation_InvalidWord : PySem.W.exmOne K (.ref C_InvalidOperation) (.ref C_InvalidWord) = some false
  em_InvalidOperation_InvalidHeight : PySem.W.exmOne K (.ref C_InvalidOperation) (.ref C_InvalidHeight) = some false
  em_InvalidOperation_InvalidOperation : PySem.W.exmOne K (.ref C_InvalidOperation) (.ref C_InvalidOperation) = some true
  em_InvalidNumber_InvalidWord : PySem.W.exmOne K (.ref C_InvalidNumber) (.ref C_InvalidWord) = some false
  em_InvalidNumber_InvalidHeight : PySem.W.exmOne K (.ref C_InvalidNumber) (.ref C_InvalidHeight) = some false
  em_InvalidNumber_InvalidOperation : PySem.W.exmOne K (.ref C_InvalidNumber) (.ref C_InvalidOperation) = some false
  em_InvalidNumber_InvalidNumber : PySem.W.exmOne K (.ref C_InvalidNumber) (.ref C_InvalidNumber) = some true
  c__law_makings_right : Addr
  P__law_makings_right : Addr
  hc__law_makings_right : d__law_makings_right.code = .ref c__law_makings_right
  tb__law_makings_right : PySem.W.tabIn K "_law_makings_right" = some (c__law_makings_right, P__law_makings_right)
  nk__law_makings_right : K.lookup P__law_makings_right = none
  c__law_methods_right : Addr
  P__law_methods_right : Addr
  hc__law_methods_right : d__law_methods_right.code = .ref c__law_methods_right
  tb__law_methods_right : PySem.W.tabIn K "_law_methods_right" = some (c__law_methods_right, P__law_methods_right)
  nk__law_methods_right : K.lookup P__law_methods_right = none
  c__law_heights_right : Addr
  P__law_heights_right : Addr
  hc__law_heights_right : d__law_heights_right.code = .ref c__law_heights_right
  tb__law_heights_right : PySem.W.tabIn K "_law_heights_right" = some (c__law_heights_right, P__law_heights_right)
  nk__law_heights_right : K.lookup P__law_heights_right = none
  n_bool : mg "bool" = none
  n_len : mg "len" = none
  n_min : mg "min" = none
  n_max : mg "max" = none
  n_abs : mg "abs" = none
  n_int : mg "int" = none
  n_isinstance : mg "isinstance" = none
  n_tuple : mg "tuple" = none
  n_list : mg "list" = none
  n_all : mg "all" = none
  n_range : mg "range" = none
  n_repr : mg "repr" = none
  n_0_1 : P__law_makings_right ≠ P__law_methods_right
  n_0_2 : P__law_makings_right ≠ P__law_heights_right
  n_1_2 : P__law_methods_right ≠ P__law_heights_right
abbrev Txt.tabs {K : PySem.W.Frag} {mg : Str → Option Value} (T : Txt K mg) : List (Addr × Str) := [(T.P__law_makings_right, (("_law_makings_right" : Str) ++ ".<locals>." ++ "<lambda>")), (T.P__law_methods_right, (("_law_methods_right" : Str) ++ ".<locals>." ++ "<lambda>")), (T.P__law_heights_right, (("_law_heights_right" : Str) ++ ".<locals>." ++ "<lambda>"))]
abbrev Txt.cs {K : PySem.W.Frag} {mg : Str → Option Value} (T : Txt K mg) : List (Addr × Addr) := [(T.c__law_makings_right, T.P__law_makings_right), (T.c__law_methods_right, T.P__law_methods_right), (T.c__law_heights_right, T.P__law_heights_right)]
theorem Txt.in__law_makings_right {K : PySem.W.Frag} {mg : Str → Option Value} (T : Txt K mg) : (T.c__law_makings_right, T.P__law_makings_right) ∈ T.cs := (.head _)
theorem Txt.on__law_makings_right {K : PySem.W.Frag} {mg : Str → Option Value} (T : Txt K mg) : (T.P__law_makings_right, (("_law_makings_right" : Str) ++ ".<locals>." ++ "<lambda>")) ∈ T.tabs := (.head _)
theorem Txt.un__law_makings_right {K : PySem.W.Frag} {mg : Str → Option Value} (T : Txt K mg) : ∀ p ∈ T.tabs, p.1 = T.P__law_makings_right → p.2 = (("_law_makings_right" : Str) ++ ".<locals>." ++ "<lambda>") := by
  intro p hp e
  rcases List.mem_cons.mp hp with rfl | hp
  · rfl
  rcases List.mem_cons.mp hp with rfl | hp
  · exact absurd e (Ne.symm T.n_0_1)
  rcases List.mem_cons.mp hp with rfl | hp
  · exact absurd e (Ne.symm T.n_0_2)
  cases hp
theorem Txt.in__law_methods_right {K : PySem.W.Frag} {mg : Str → Option Value} (T : Txt K mg) : (T.c__law_methods_right, T.P__law_methods_right) ∈ T.cs := (.tail _ (.head _))
theorem Txt.on__law_methods_right {K : PySem.W.Frag} {mg : Str → Option Value} (T : Txt K mg) : (T.P__law_methods_right, (("_law_methods_right" : Str) ++ ".<locals>." ++ "<lambda>")) ∈ T.tabs := (.tail _ (.head _))
theorem Txt.un__law_methods_right {K : PySem.W.Frag} {mg : Str → Option Value} (T : Txt K mg) : ∀ p ∈ T.tabs, p.1 = T.P__law_methods_right → p.2 = (("_law_methods_right" : Str) ++ ".<locals>." ++ "<lambda>") := by
  intro p hp e
  rcases List.mem_cons.mp hp with rfl | hp
  · exact absurd e T.n_0_1
  rcases List.mem_cons.mp hp with rfl | hp
  · rfl
  rcases List.mem_cons.mp hp with rfl | hp
  · exact absurd e (Ne.symm T.n_1_2)
  cases hp
theorem Txt.in__law_heights_right {K : PySem.W.Frag} {mg : Str → Option Value} (T : Txt K mg) : (T.c__law_heights_right, T.P__law_heights_right) ∈ T.cs := (.tail _ (.tail _ (.head _)))
theorem Txt.on__law_heights_right {K : PySem.W.Frag} {mg : Str → Option Value} (T : Txt K mg) : (T.P__law_heights_right, (("_law_heights_right" : Str) ++ ".<locals>." ++ "<lambda>")) ∈ T.tabs := (.tail _ (.tail _ (.head _)))
theorem Txt.un__law_heights_right {K : PySem.W.Frag} {mg : Str → Option Value} (T : Txt K mg) : ∀ p ∈ T.tabs, p.1 = T.P__law_heights_right → p.2 = (("_law_heights_right" : Str) ++ ".<locals>." ++ "<lambda>") := by
  intro p hp e
  rcases List.mem_cons.mp hp with rfl | hp
  · exact absurd e T.n_0_2
  rcases List.mem_cons.mp hp with rfl | hp
  · exact absurd e T.n_1_2
  rcases List.mem_cons.mp hp with rfl | hp
  · rfl
  cases hp
theorem tyx_sqt {K : PySem.W.Frag} {H : Hp} {a : Addr} {xs : List V} (h : SqT K H a xs) : TyX K H (.ref a) (.type "tuple") := by
  rcases h with (h | ⟨o, h⟩) | h
  · exact .base (.tup h)
  · exact .fTuple h
  · obtain ⟨o, vs, n, hl, hc, _⟩ := h
    exact .kTuple hl hc
/-! ### the mirrors -/
/-- k letters -/
def okW (k : Int) (ws : List Int) : Prop := ws.length ≤ 200 ∧ ∀ n ∈ ws, 0 ≤ n ∧ n < k
theorem spv_w {K : PySem.W.Frag} {H : Hp} {v : V} {k : Int} (h : SpV K H v k 200 true) : ∃ ws : List Int, IsW K H v ws ∧ okW k ws :=
  let ⟨ws, h1, h2, h3⟩ := h.word; ⟨ws, h1, by omega, h3⟩
theorem spv_of {K : PySem.W.Frag} {H : Hp} {v : V} {k : Int} {ws : List Int} (h : IsW K H v ws) (o : okW k ws) : SpV K H v k 200 true := SpV.of h (by have := o.1; omega) (by have := o.1; omega) o.2
def sp_is_number (K : PySem.W.Frag) : Sp := fun vs H Q _ => ∃ v lo hi, vs = [v, .int lo, .int hi] ∧ NumV K H v ∧ Q (.bl (numB v lo hi)) H
def sp_check_number (K : PySem.W.Frag) (C : Addr) : Sp := fun vs H Q E => ∃ v lo hi, vs = [v, .int lo, .int hi] ∧ NumV K H v ∧ (numB v lo hi = true → Q .non H) ∧ (numB v lo hi = false → rKept C "given" v E H)
def sp_check_letters (K : PySem.W.Frag) (C : Addr) : Sp := fun vs H Q E => ∃ v, vs = [v] ∧ NumV K H v ∧ (numB v 1 4 = true → Q .non H) ∧ (numB v 1 4 = false → rKept C "given" v E H)
def sp_is_spelled (K : PySem.W.Frag) : Sp := fun vs H Q _ => ∃ (k most : Int) (v : V) (b : Bool), vs = [.int k, v, .int most] ∧ SpV K H v k most b ∧ ∀ H', Same H H' → Q (.bl b) H'
def sp_check_word (K : PySem.W.Frag) (C : Addr) : Sp := fun vs H Q E => ∃ (k : Int) (v : V) (b : Bool), vs = [.int k, v] ∧ SpV K H v k 200 b ∧ (b = true → ∀ H', Same H H' → Q .non H') ∧ (b = false → rPlain C E H)
theorem num_k {v : V} {lo hi : Int} (h : numB v lo hi = true) : ∃ k, v = .int k ∧ lo ≤ k ∧ k ≤ hi := by
  cases v with
  | int i =>
    simp only [numB, Bool.and_eq_true, decide_eq_true_eq] at h
    exact ⟨i, rfl, h.1, h.2⟩
  | _ => simp [numB] at h
theorem num_of {k lo hi : Int} (h1 : lo ≤ k) (h2 : k ≤ hi) : numB (.int k) lo hi = true := by
  simp only [numB, Bool.and_eq_true, decide_eq_true_eq]
  exact ⟨h1, h2⟩
theorem numV_int {K : PySem.W.Frag} {H : Hp} (i : Int) : NumV K H (.int i) := .inl ⟨i, rfl⟩
section
variable {P : Program} {w : World} {K : PySem.W.Frag} {mg : Str → Option Value} {base : Heap}
theorem ok_is_number (T : Txt K mg) : FnOk P w K mg base CX0 1 T.a_is_number T.d_is_number ["value", "least", "most"] (sp_is_number K) := by
  refine T.F_is_number.ok sc_is_number (fun vs H Q E h => ?_) (fun cdv A outer s H vs Q E hr h => ?_)
  · obtain ⟨v, lo, hi, rfl, _⟩ := h
    rfl
  · obtain ⟨v, lo, hi, rfl, hv, q⟩ := h
    refine ⟨_, (pss_one (ps_ret (pe_and (pe_callB (call_isiK (K := K) rfl) rfl T.n_isinstance (by decide +kernel) (pa_cons (pv 0) (pa_cons (pe_bltn (v := .ty "int") (u := .type "int") rfl T.n_int (by decide +kernel) rfl) pa_nil))) (pe_and (pe_not (pe_callB (call_isiK (K := K) rfl) rfl T.n_isinstance (by decide +kernel) (pa_cons (pv 0) (pa_cons (pe_bltn (v := .ty "bool") (u := .type "bool") rfl T.n_bool (by decide +kernel) rfl) pa_nil)))) (pe_one (pe_chain op_le op_le (pv 1) (pv 0) (pv 2))))))), ?_⟩
    rcases hv with ⟨i, rfl⟩ | ⟨b, rfl⟩ | ⟨n1, n2, t, ht, hk⟩
    · refine ⟨_, rfl, _, _, _, _, true, rfl, .ty _, .base (.int i), kit_ty (by decide +kernel), _, rfl, iteT ?_⟩
      refine ⟨_, rfl, _, _, _, _, false, rfl, .ty _, .base (.int i), kit_ty (by decide +kernel), _, rfl, _, rfl, iteT ?_⟩
      refine ⟨_, rfl, _, rfl, _, _, rfl, rfl, _, rfl, ?_⟩
      by_cases c : lo ≤ i
      · rw [if_pos (decide_eq_true c)]
        refine ⟨_, rfl, _, _, rfl, rfl, ?_⟩
        have e : numB (.int i) lo hi = decide (i ≤ hi) := by simp [numB, c]
        rw [e] at q
        exact q
      · rw [if_neg (by rw [decide_eq_false c]; exact Bool.false_ne_true)]
        have e : numB (.int i) lo hi = false := by simp [numB, c]
        rw [e] at q
        exact q
    · refine ⟨_, rfl, _, _, _, _, true, rfl, .ty _, .base (.bl b), kit_ty (by decide +kernel), _, rfl, iteT ?_⟩
      exact ⟨_, rfl, _, _, _, _, true, rfl, .ty _, .base (.bl b), kit_ty (by decide +kernel), _, rfl, _, rfl, iteF q⟩
    · refine ⟨_, rfl, _, _, _, _, false, rfl, .ty _, ht, hk, _, rfl, iteF ?_⟩
      have e : numB v lo hi = false := by
        cases v with
        | int i => exact absurd rfl (n1 i)
        | _ => rfl
      rw [e] at q
      exact q
theorem ok_check_number (T : Txt K mg) : FnOk P w K mg base (L2.CX P w) 2 T.a_check_number T.d_check_number ["value", "least", "most"] (sp_check_number K T.C_InvalidNumber) := by
  refine T.F_check_number.okX sc_check_number (fun vs H Q E h => ?_) (fun cdv A outer s H vs Q E hr h => ?_)
  · obtain ⟨v, lo, hi, rfl, _⟩ := h
    rfl
  · obtain ⟨v, lo, hi, rfl, hv, q, e⟩ := h
    refine ⟨_, (pss_one (ps_if (pt_not (pt_val (pe_call (ok_is_number T) (hr.mono (by decide)) rfl T.m_is_number T.F_is_number.kp T.b_is_number .nil pass0 (pa_cons (pv 0) (pa_cons (pv 1) (pa_cons (pv 2) pa_nil)))))) (pss_one (ps_raiseKept rfl T.kp_InvalidNumber PySem.F.store_IndexError PySem.F.excBase_IndexError (hr.mono (by decide) : Room 0 _) (takes_of rfl rfl rfl rfl) (pa_cons (pv 0) pa_nil) rfl)) pss_nil)), ?_⟩
    refine ⟨_, rfl, _, rfl, _, rfl, v, lo, hi, rfl, hv, _, rfl, ?_⟩
    cases hb : numB v lo hi with
    | true => exact iteF (q hb)
    | false => exact iteT ⟨_, rfl, v, rfl, (e hb).mk⟩
theorem ok_check_letters (T : Txt K mg) : FnOk P w K mg base (L2.CX P w) 3 T.a_check_letters T.d_check_letters ["letters"] (sp_check_letters K T.C_InvalidNumber) := by
  refine T.F_check_letters.okX sc_check_letters (fun vs H Q E h => ?_) (fun cdv A outer s H vs Q E hr h => ?_)
  · obtain ⟨v, rfl, _⟩ := h
    rfl
  · obtain ⟨v, rfl, hv, q, e⟩ := h
    refine ⟨_, (pss_one (ps_expr (pe_call (ok_check_number T) (hr.mono (by decide)) rfl T.m_check_number T.F_check_number.kp T.b_check_number .nil (passE (takes_of rfl rfl rfl rfl)) (pa_cons (pv 0) (pa_cons pe_int (pa_cons (pe_glob (v := .int 4) rfl T.g_MAX_LETTERS ⟨_, rfl⟩) pa_nil)))))), ?_⟩
    exact ⟨_, rfl, v, 1, 4, rfl, hv, q, e⟩
theorem ok_is_spelled (T : Txt K mg) : FnOk P w K mg base CX0 2 T.a_is_spelled T.d_is_spelled ["letters", "value", "most"] (sp_is_spelled K) := by
  refine T.F_is_spelled.ok sc_is_spelled (fun vs H Q E h => ?_) (fun cdv A outer s H vs Q E hr h => ?_)
  · obtain ⟨k, most, v, b, rfl, _⟩ := h
    rfl
  · obtain ⟨k, most, v, b, rfl, h, q⟩ := h
    refine ⟨_, (pss_cons (ps_if (PW.pt (pw_or (pt_not (pt_val (pe_callB (call_isiK (K := K) rfl) rfl T.n_isinstance (by decide +kernel) (pa_cons (pv 1) (pa_cons (pe_bltn (v := .ty "tuple") (u := .type "tuple") rfl T.n_tuple (by decide +kernel) rfl) pa_nil))))) (pw_or1 (pt_cmpR op_gt (pe_callB call_len_seq rfl T.n_len (by decide +kernel) (pa_cons (pv 1) pa_nil)) (pv 2) (nomark _))))) (pss_one (ps_ret pe_bl)) pss_nil) (pss_one (ps_ret (pe_callB (cr_all rfl) rfl T.n_all (by decide +kernel) (pa_cons (pe_lc (own := [("letter", 3)]) rfl sc_is_spelled.nd (pi_tup (pv 1)) (blkOk_by (own := [("letter", 3)]) (N := ["letters", "value", "most", "letter"]) (sc := defScope s_is_spelled) (by decide +kernel)) (fun _ _ _ _ _ => (pg_name (i := 3) sc_is_spelled.nd rfl (Or.inl rfl))) (fun _ _ _ _ _ => pts_nil) (fun _ _ _ _ _ => (pe_call (ok_is_number T) (hr.mono (by decide)) rfl T.m_is_number T.F_is_number.kp T.b_is_number .nil pass0 (pa_cons (pv 3) (pa_cons pe_int (pa_cons (pe_op op_sub (pv 0) pe_int) pa_nil)))))) pa_nil))))), ?_⟩
    rcases h with ⟨rfl, t, ht, hk⟩ | ⟨a, xs, rfl, hx, hz, hn, rfl⟩
    · exact ⟨_, rfl, _, _, _, _, false, rfl, .ty _, ht, hk, _, rfl, iteT (iteT (q H (Same.refl H)))⟩
    · refine ⟨_, rfl, _, _, _, _, true, rfl, .ty _, tyx_sqt hx, kit_ty (by decide +kernel), _, rfl, iteF ?_⟩
      refine ⟨_, rfl, _, _, rfl, .inr hx, _, rfl, _, _, rfl, rfl, _, rfl, ?_⟩
      by_cases c : (xs.length : Int) > most
      · refine ifT (decide_eq_true c) ?_
        have e : spelled xs k most = false := by
          unfold spelled
          rw [decide_eq_false (by omega), Bool.false_and]
        rw [e] at q
        exact q H (Same.refl H)
      · refine ifF (decide_eq_false c) ?_
        refine ⟨_, rfl, a, rfl, ⟨_, hx⟩, ?_⟩
        refine lc_tupF (i := 3) (f := fun x => .bl (numB x 0 (k - 1))) hx hz (fun x hm H2 Q2 s2 q2 => ?_) fun H2 p s2 _ hp => ?_
        · exact ⟨_, rfl, _, rfl, _, _, rfl, rfl, _, _, _, rfl, ext_numV (Same.ext s2) (hn x hm), q2 H2 (Same.refl H2)⟩
        · refine ⟨p, xs.map fun x => numB x 0 (k - 1), rfl, SqL.of (by rw [List.map_map]; exact hp), ?_⟩
          have e : spelled xs k most = (xs.map fun x => numB x 0 (k - 1)).all id := by
            unfold spelled
            rw [decide_eq_true (by omega), Bool.true_and, List.all_map]
            rfl
          rw [← e]
          exact q H2 s2
theorem ok_check_word (T : Txt K mg) : FnOk P w K mg base (L2.CX P w) 3 T.a_check_word T.d_check_word ["letters", "word"] (sp_check_word K T.C_InvalidWord) := by
  refine T.F_check_word.okX sc_check_word (fun vs H Q E h => ?_) (fun cdv A outer s H vs Q E hr h => ?_)
  · obtain ⟨k, v, b, rfl, _⟩ := h
    rfl
  · obtain ⟨k, v, b, rfl, hv, q, e⟩ := h
    refine ⟨_, (pss_one (ps_if (pt_not (pt_val (pe_call (ok_is_spelled T) (hr.mono (by decide)) rfl T.m_is_spelled T.F_is_spelled.kp T.b_is_spelled .nil pass0 (pa_cons (pv 0) (pa_cons (pv 1) (pa_cons (pe_glob (v := .int 200) rfl T.g_MAX_WORD ⟨_, rfl⟩) pa_nil)))))) (pss_one (ps_raise rfl (takes_of rfl rfl rfl rfl) (pmk_own PySem.F.excBase_ValueError T.x_InvalidWord T.mC_InvalidWord T.k_InvalidWord (raises_own T.e_InvalidWord T.t_InvalidWord) rfl))) pss_nil)), ?_⟩
    refine ⟨_, rfl, _, rfl, k, 200, v, b, rfl, hv, fun H1 s1 => ⟨_, rfl, ?_⟩⟩
    cases b with
    | true => exact iteF (q rfl H1 s1)
    | false => exact iteT (e rfl H1 s1)
end
end K06
/-! K06b -/
set_option Elab.async false
set_option linter.all false
set_option maxRecDepth 100000
set_option maxHeartbeats 2000000
namespace K06
open PySem PySem.Spec PyProof.Rows L2 PpSet RL
/-- the bag: three whole numbers -/
def Bag (b : Addr) (H : Hp) : Prop := ∃ x y z : Int, H b = some (.lst [.int x, .int y, .int z])
/-- all but the bag stands -/
def Kp (b : Addr) (H H' : Hp) : Prop := Bag b H' ∧ ∀ a u, a ≠ b → H a = some u → H' a = some u
theorem Kp.refl {b : Addr} {H : Hp} (h : Bag b H) : Kp b H H := ⟨h, fun _ _ _ z => z⟩
theorem Kp.trans {b : Addr} {H H1 H2 : Hp} (h : Kp b H H1) (k : Kp b H1 H2) : Kp b H H2 := ⟨k.1, fun a u n z => k.2 a u n (h.2 a u n z)⟩
theorem Bag.same {b : Addr} {H H' : Hp} (h : Bag b H) (s : Same H H') : Bag b H' := let ⟨x, y, z, e⟩ := h; ⟨x, y, z, s _ _ e⟩
theorem Kp.of {b : Addr} {H H' : Hp} (h : Bag b H) (s : Same H H') : Kp b H H' := ⟨h.same s, fun a u _ z => s a u z⟩
theorem Kp.more {b : Addr} {H H1 H2 : Hp} (h : Kp b H H1) (s : Same H1 H2) : Kp b H H2 := h.trans (Kp.of h.1 s)
theorem Kp.stay {b : Addr} {H H' : Hp} (h : Bag b H) (k : Kp b H H') : Stay H H' := by
  obtain ⟨x, y, z, e⟩ := h
  exact ⟨fun a xs q => k.2 a _ (fun c => by subst c; rw [e] at q; cases q) q, fun a o u q => k.2 a _ (fun c => by subst c; rw [e] at q; cases q) q⟩
theorem Bag.upd {b D : Addr} {H : Hp} {o : HO} (h : Bag b H) (n : D ≠ b) : Bag b (upd H D o) := by
  obtain ⟨x, y, z, e⟩ := h
  exact ⟨x, y, z, by rw [upd_ne (Ne.symm n)]; exact e⟩
theorem Kp.mut {b D : Addr} {H H' : Hp} {o : HO} (hD : H D = none) (n : D ≠ b) (k : Kp b H H') : Kp b H (upd H' D o) :=
  ⟨k.1.upd n, fun a u na z => by rw [upd_ne (fun c => by subst c; rw [hD] at z; cases z)]; exact k.2 a u na z⟩
theorem Kp.set {b : Addr} {H : Hp} {x y z : Int} : Kp b H (upd H b (.lst [.int x, .int y, .int z])) := ⟨⟨x, y, z, upd_same⟩, fun a u n e => by rw [upd_ne n]; exact e⟩
theorem ne_bag {b p : Addr} {H : Hp} (h : Bag b H) (hp : H p = none) : p ≠ b := fun e => by
  obtain ⟨x, y, z, q⟩ := h
  rw [← e, hp] at q
  cases q
/-- [e for _ in range(n)], e draws from the bag -/
theorem lc_rngB {te : TE} {σ : L2.St} {H1 : Hp} {i : Nat} {b : Addr} {Qd : Addr → Hp → Prop} {lo : Int} {n : Nat} (R : Hp → V → Prop) (mono : ∀ H H' y, Stay H H' → R H y → R H' y) (hb : Bag b H1) (hz : n < sizeLine)
    (el : ∀ j, j < n → ∀ (H : Hp) (Q : VK), Kp b H1 H → (∀ H' y, Kp b H H' → R H' y → Q y H') → te ((wipe σ [i]).set i (some (.int (lo + j)))) H Q)
    (fin : ∀ H' p ys, Kp b H1 H' → H1 p = none → H' p = some (.lst ys) → ys.length = n → (∀ y ∈ ys, R H' y) → Qd p H') :
    ∀ D, H1 D = none → ∃ W : Nat → Nat → Hp → Prop, (∃ m, W 0 m (upd H1 D (.lst []))) ∧ ∀ j m H, W j m H →
      ((Itr lo n).stop j H ∧ Qd D H) ∨ ((Itr lo n).go j H ∧ ∃ Nx : Hp → Prop, (∀ H', Nx H' → ∃ m', m' < m ∧ W (j + 1) m' H') ∧ ∀ x H', (Itr lo n).yld j H x H' → gName i x (wipe σ [i]) H' fun σ2 H2 => wipe σ2 [i] = wipe σ [i] ∧ tYes σ2 H2 fun b H3 =>
        if b = true then te σ2 H3 fun y H4 => ∃ acc, H4 D = some (.lst acc) ∧ acc.length < sizeLine ∧ Nx (upd H4 D (.lst (acc ++ [y]))) else Nx H3) := by
  intro D hD
  have nD := ne_bag hb hD
  refine lc_range (Qd := fun H => Qd D H) (fun j H => j ≤ n ∧ Kp b H1 H ∧ ∃ ys, H D = some (.lst ys) ∧ ys.length = j ∧ ∀ y ∈ ys, R H y) ⟨Nat.zero_le _, Kp.of hb (same_upd hD _), [], upd_same, rfl, fun y hy => by cases hy⟩ (fun j H hj p => ?_) fun H p => ?_
  · obtain ⟨_, s, ys, hys, hl, e⟩ := p
    refine ⟨wipe_one _ _ _, ?_⟩
    dsimp only [tYes]
    rw [if_pos rfl]
    refine el j hj H _ s fun H' y s2 r => ?_
    have h := s2.2 _ _ nD hys
    have st := stay_lst (o' := .lst (ys ++ [y])) h
    refine ⟨ys, h, by omega, hj, (Kp.trans s s2).mut hD nD, _, upd_same, by simp [hl], fun z hz => ?_⟩
    rcases List.mem_append.mp hz with hz | hz
    · exact mono _ _ _ (Stay.trans (Kp.stay s.1 s2) st) (e z hz)
    · rw [List.mem_singleton.mp hz]
      exact mono _ _ _ st r
  · obtain ⟨_, s, ys, hys, hl, e⟩ := p
    exact fin H D ys s hD hys hl e
theorem ints_of {ys : List V} {P : Int → Prop} (h : ∀ y ∈ ys, ∃ r, y = .int r ∧ P r) : ∃ ws : List Int, ys = ws.map V.int ∧ ∀ x ∈ ws, P x := by
  induction ys with
  | nil => exact ⟨[], rfl, fun x hx => by cases hx⟩
  | cons y ys ih =>
    obtain ⟨ws, rfl, hw⟩ := ih fun z hz => h z (List.mem_cons_of_mem _ hz)
    obtain ⟨r, rfl, hr⟩ := h y List.mem_cons_self
    exact ⟨r :: ws, rfl, fun x hx => (List.mem_cons.mp hx).elim (fun e => e ▸ hr) (hw x)⟩
def sp__law_bag (K : PySem.W.Frag) : Sp := fun vs H Q _ => ∃ (a : Addr) (xs : List Int) (j : Nat), vs = [.ref a, .int j] ∧ SqL K H a (xs.map V.int) ∧ j < 1000 ∧ ∀ H' p, Same H H' → Bag p H' → H p = none → Q (.ref p) H'
def sp__law_grab : Sp := fun vs H Q _ => ∃ (b : Addr) (n : Int), vs = [.ref b, .int n] ∧ Bag b H ∧ 0 < n ∧ n < 2 ^ 64 ∧ ∀ H' r, Kp b H H' → 0 ≤ r → r < n → Q (.int r) H'
def sp__law_one_of : Sp := fun vs H Q _ => ∃ (b a : Addr) (xs : List V), vs = [.ref b, .ref a] ∧ Bag b H ∧ a ≠ b ∧ H a = some (.lst xs) ∧ 0 < xs.length ∧ xs.length < 1000 ∧ ∀ H' v, Kp b H H' → v ∈ xs → Q v H'
def sp__law_word_drawn (K : PySem.W.Frag) : Sp := fun vs H Q _ => ∃ (b : Addr) (k most : Int), vs = [.ref b, .int k, .int most] ∧ Bag b H ∧ 1 ≤ k ∧ k ≤ 4 ∧ 0 ≤ most ∧ most ≤ 100 ∧ ∀ H' v ws, Kp b H H' → IsW K H' v ws → ws.length ≤ most → (∀ x ∈ ws, 0 ≤ x ∧ x < k) → Q v H'
section
variable {P : Program} {w : World} {K : PySem.W.Frag} {mg : Str → Option Value} {base : Heap}
theorem ok__law_bag (T : Txt K mg) : FnOk P w K mg base CX0 1 T.a__law_bag T.d__law_bag ["script", "spot"] (sp__law_bag K) := by
  refine T.F__law_bag.ok sc__law_bag (fun vs H Q E h => ?_) (fun cdv A outer s H vs Q E hr h => ?_)
  · obtain ⟨a, xs, j, rfl, _⟩ := h
    rfl
  · obtain ⟨a, xs, j, rfl, hx, hj, q⟩ := h
    refine ⟨_, (pss_cons (ps_set (i := 2) sc__law_bag.nd rfl (Or.inl rfl) (pe_ifExp (pt_cmpR op_lt (pv 1) (pe_callB call_len_seq rfl T.n_len (by decide +kernel) (pa_cons (pv 0) pa_nil)) (nomark _)) (pe_ix ix_list (pv 0) (pv 1) (fun _ _ => rfl)) (pe_op op_add (pe_op op_mul pe_int (pv 1)) pe_int))) (pss_cons (ps_set (i := 3) sc__law_bag.nd rfl (Or.inl rfl) (pe_op op_mod (pe_callTy call_int1 rfl T.n_int (by decide +kernel) (pa_cons (pe_callB call_abs rfl T.n_abs (by decide +kernel) (pa_cons (pv 2) pa_nil)) pa_nil)) (pe_op op_mulW (pe_op op_pow pe_int pe_int) (pe_op op_pow pe_int pe_int)))) (pss_cons (ps_set (i := 4) sc__law_bag.nd rfl (Or.inl rfl) (pe_op op_add (pe_op op_add (pe_op op_add (pe_op op_mul (pe_op op_mod (pv 3) pe_int) pe_int) (pe_op op_mul pe_int (pv 1))) (pe_op op_mul pe_int (pe_callTy call_int1 rfl T.n_int (by decide +kernel) (pa_cons (pe_cmpR op_lt (pv 2) pe_int (nomark _)) pa_nil)))) pe_int)) (pss_one (ps_ret (pe_lstS (pa_cons (pe_callB (call_max2 rfl) rfl T.n_max (by decide +kernel) (pa_cons pe_int (pa_cons (pe_op op_sub (pv 3) (pe_op op_pow pe_int pe_int)) pa_nil))) (pa_cons (pe_op op_mod (pe_callTy call_int1 rfl T.n_int (by decide +kernel) (pa_cons (pv 4) pa_nil)) pe_int) (pa_cons pe_int pa_nil))))))))), ?_⟩
    have pw : ∀ n : Nat, n ≤ 60 → CPow 10 n := fun n hn => ⟨by omega, by omega, by decide⟩
    refine ⟨_, rfl, _, rfl, _, _, rfl, .inl hx, _, _, rfl, rfl, _, rfl, ?_⟩
    by_cases c : j < xs.length
    · refine ifT (decide_eq_true (by rw [List.length_map]; omega)) ⟨_, rfl, _, rfl, a, _, _, _, rfl, rfl, hx, at_int (by omega) (by rw [Int.toNat_natCast]; exact List.getElem?_eq_getElem c), ?_⟩
      refine ⟨_, rfl, _, rfl, .inl ⟨_, rfl, _, _, rfl, rfl, pw _ (by decide), _, _, rfl, rfl, pw _ (by decide), _, _, rfl, rfl, (by show _ < 1000000; decide +kernel), _, _, rfl, rfl, (by show (0 : Int) < _; decide +kernel), ?_⟩⟩
      refine ⟨_, rfl, _, _, rfl, rfl, (by show (0 : Int) < _; decide), _, _, rfl, rfl, .inr (by decide), _, rfl, _, _, rfl, rfl, .inl (by decide), _, _, rfl, rfl, ?_⟩
      refine ⟨_, rfl, _, _, rfl, rfl, .inr ⟨_, rfl, _, _, rfl, rfl, .inl (by decide), _, _, rfl, rfl, _, _, rfl, rfl, ?_⟩⟩
      refine ⟨_, rfl, _, _, rfl, rfl, pw _ (by decide), _, _, rfl, rfl, _, _, rfl, ?_⟩
      refine ⟨_, rfl, .inl ⟨_, rfl, _, _, rfl, rfl, (by show (0 : Int) < _; decide), (by show 3 ≤ sizeLine; decide), fun H2 p s2 hp h2 => q H2 p s2 ⟨_, _, _, h2⟩ hp⟩⟩
    · refine ifF (decide_eq_false (by rw [List.length_map]; omega)) ?_
      refine ⟨_, rfl, _, _, rfl, rfl, .inl (by decide), _, _, rfl, rfl, ?_⟩
      refine ⟨_, rfl, _, rfl, .inl ⟨_, rfl, _, _, rfl, rfl, pw _ (by decide), _, _, rfl, rfl, pw _ (by decide), _, _, rfl, rfl, (by show _ < 1000000; decide +kernel), _, _, rfl, rfl, (by show (0 : Int) < _; decide +kernel), ?_⟩⟩
      refine ⟨_, rfl, _, _, rfl, rfl, (by show (0 : Int) < _; decide), _, _, rfl, rfl, .inr (by decide), _, rfl, _, _, rfl, rfl, .inl (by decide), _, _, rfl, rfl, ?_⟩
      refine ⟨_, rfl, _, _, rfl, rfl, .inr ⟨_, rfl, _, _, rfl, rfl, .inl (by decide), _, _, rfl, rfl, _, _, rfl, rfl, ?_⟩⟩
      refine ⟨_, rfl, _, _, rfl, rfl, pw _ (by decide), _, _, rfl, rfl, _, _, rfl, ?_⟩
      refine ⟨_, rfl, .inl ⟨_, rfl, _, _, rfl, rfl, (by show (0 : Int) < _; decide), (by show 3 ≤ sizeLine; decide), fun H2 p s2 hp h2 => q H2 p s2 ⟨_, _, _, h2⟩ hp⟩⟩
theorem ok__law_grab (T : Txt K mg) : FnOk P w K mg base CX0 1 T.a__law_grab T.d__law_grab ["bag", "total"] sp__law_grab := by
  refine T.F__law_grab.ok sc__law_grab (fun vs H Q E h => ?_) (fun cdv A outer s H vs Q E hr h => ?_)
  · obtain ⟨b, n, rfl, _⟩ := h
    rfl
  · obtain ⟨b, n, rfl, ⟨x, y, z, hb⟩, h0, h1, q⟩ := h
    refine ⟨_, (pss_cons (ps_if (pt_cmpR op_gt (pe_ix ix_list (pv 0) pe_int (fun _ _ => rfl)) pe_int (nomark _)) (pss_cons (ps_set (i := 2) sc__law_grab.nd rfl (Or.inl rfl) (pe_op op_mod (pe_callTy call_int1 rfl T.n_int (by decide +kernel) (pa_cons (pe_ix ix_list (pv 0) pe_int (fun _ _ => rfl)) pa_nil)) (pv 1))) (pss_cons (ps_asg (pe_op op_fdivW (pe_ix ix_list (pv 0) pe_int (fun _ _ => rfl)) (pv 1)) (pg_sub (pv 0) pe_int set_list)) (pss_one (ps_ret (pv 2))))) pss_nil) (pss_cons (ps_asg (pe_op op_add (pe_ix ix_list (pv 0) pe_int (fun _ _ => rfl)) pe_int) (pg_sub (pv 0) pe_int set_list)) (pss_cons (ps_set (i := 3) sc__law_grab.nd rfl (Or.inl rfl) (pe_op op_mod (pe_callTy call_int1 rfl T.n_int (by decide +kernel) (pa_cons (pe_op op_add (pe_ix ix_list (pv 0) pe_int (fun _ _ => rfl)) (pe_op op_mul pe_int (pe_ix ix_list (pv 0) pe_int (fun _ _ => rfl)))) pa_nil)) pe_int)) (pss_cons (ps_set (i := 4) sc__law_grab.nd rfl (Or.inl rfl) (pe_op op_add (pe_op op_mul (pe_op op_mod (pe_callTy call_int1 rfl T.n_int (by decide +kernel) (pa_cons (pe_op op_add (pe_op op_mul (pv 3) (pv 3)) (pe_op op_mul pe_int (pe_ix ix_list (pv 0) pe_int (fun _ _ => rfl)))) pa_nil)) pe_int) pe_int) (pv 3))) (pss_one (ps_ret (pe_op op_mod (pe_callTy call_int1 rfl T.n_int (by decide +kernel) (pa_cons (pe_op op_fdivW (pv 4) pe_int) pa_nil)) (pv 1)))))))), ?_⟩
    have hl := SqL.of (K := K) hb
    refine ⟨_, rfl, b, _, _, _, rfl, rfl, hl, rfl, _, _, rfl, rfl, _, rfl, ?_⟩
    by_cases c : x > 0
    · refine ifT (decide_eq_true c) ?_
      refine ⟨_, rfl, b, _, _, _, rfl, rfl, hl, rfl, .inl ⟨_, rfl, _, rfl, _, _, rfl, rfl, h0, ?_⟩⟩
      refine ⟨_, rfl, b, _, _, _, rfl, rfl, hl, rfl, _, rfl, _, _, rfl, rfl, wide_div (b := 64) h0 (by omega) (by decide) (by decide), ?_⟩
      refine ⟨_, rfl, b, _, _, _, rfl, rfl, hb, rfl, _, rfl, ?_⟩
      exact q _ _ Kp.set (Int.emod_nonneg _ (by omega)) (Int.emod_lt_of_pos _ h0)
    · refine ifF (decide_eq_false c) ?_
      refine ⟨_, rfl, b, _, _, _, rfl, rfl, hl, rfl, _, _, rfl, rfl, ?_⟩
      refine ⟨_, rfl, b, _, _, _, rfl, rfl, hb, rfl, ?_⟩
      have hl2 : SqL K (upd H b (.lst [.int x, .int y, .int (z + 1)])) b [.int x, .int y, .int (z + 1)] := SqL.of upd_same
      refine ⟨_, rfl, b, _, _, _, rfl, rfl, hl2, rfl, _, rfl, b, _, _, _, rfl, rfl, hl2, rfl, _, _, rfl, rfl, .inl (by decide), _, _, rfl, rfl, .inl ⟨_, rfl, _, _, rfl, rfl, (by show (0 : Int) < _; decide), ?_⟩⟩
      generalize ho : (y + 67867967 * (z + 1)) % 2305843009213693951 = one
      have o0 : 0 ≤ one := ho ▸ Int.emod_nonneg _ (by decide)
      have o1 : one < 2305843009213693951 := ho ▸ Int.emod_lt_of_pos _ (by decide)
      refine ⟨_, rfl, _, rfl, _, _, rfl, rfl, .inl (by omega), _, rfl, b, _, _, _, rfl, rfl, hl2, rfl, _, _, rfl, rfl, .inl (by decide), _, _, rfl, rfl, .inl ⟨_, rfl, _, _, rfl, rfl, (by show (0 : Int) < _; decide), ?_⟩⟩
      refine ⟨_, _, rfl, rfl, .inr (by decide), _, rfl, _, _, rfl, rfl, ?_⟩
      refine ⟨_, rfl, _, _, rfl, rfl, wide_div (b := 64) (by decide) (by decide) (by decide) (by decide), .inl ⟨_, rfl, _, rfl, _, _, rfl, rfl, h0, ?_⟩⟩
      exact q _ _ Kp.set (Int.emod_nonneg _ (by omega)) (Int.emod_lt_of_pos _ h0)
theorem ok__law_one_of (T : Txt K mg) : FnOk P w K mg base CX0 2 T.a__law_one_of T.d__law_one_of ["bag", "items"] sp__law_one_of := by
  refine T.F__law_one_of.ok sc__law_one_of (fun vs H Q E h => ?_) (fun cdv A outer s H vs Q E hr h => ?_)
  · obtain ⟨b, a, xs, rfl, _⟩ := h
    rfl
  · obtain ⟨b, a, xs, rfl, hb, hne, ha, z0, z1, q⟩ := h
    refine ⟨_, (pss_one (ps_ret (pe_ix ix_list (pv 1) (pe_call (ok__law_grab T) (hr.mono (by decide)) rfl T.m__law_grab T.F__law_grab.kp T.b__law_grab .nil pass0 (pa_cons (pv 0) (pa_cons (pe_callB call_len_seq rfl T.n_len (by decide +kernel) (pa_cons (pv 1) pa_nil)) pa_nil))) (fun _ _ => rfl)))), ?_⟩
    refine ⟨_, rfl, _, rfl, _, rfl, _, _, rfl, .inl (SqL.of ha), b, _, rfl, hb, by omega, by omega, fun H2 r k2 r0 r1 => ?_⟩
    obtain ⟨v, hv⟩ : ∃ v, xs[r.toNat]? = some v := ⟨_, List.getElem?_eq_getElem (by omega)⟩
    refine ⟨a, _, _, v, rfl, rfl, SqL.of (k2.2 _ _ hne ha), at_v r0 hv, q H2 v k2 (List.mem_of_getElem? hv)⟩
theorem ok__law_word_drawn (T : Txt K mg) : FnOk P w K mg base CX0 2 T.a__law_word_drawn T.d__law_word_drawn ["bag", "letters", "most"] (sp__law_word_drawn K) := by
  refine T.F__law_word_drawn.ok sc__law_word_drawn (fun vs H Q E h => ?_) (fun cdv A outer s H vs Q E hr h => ?_)
  · obtain ⟨b, k, most, rfl, _⟩ := h
    rfl
  · obtain ⟨b, k, most, rfl, hb, k1, k4, m0, m1, q⟩ := h
    refine ⟨_, (pss_one (ps_ret (pe_callTy call_tupS rfl T.n_tuple (by decide +kernel) (pa_cons (pe_lc (own := [("lap", 3)]) rfl sc__law_word_drawn.nd (pi_range1 rfl T.n_range (pa_cons (pe_call (ok__law_grab T) (hr.mono (by decide)) rfl T.m__law_grab T.F__law_grab.kp T.b__law_grab .nil pass0 (pa_cons (pv 0) (pa_cons (pe_op op_add (pv 2) pe_int) pa_nil))) pa_nil)) (blkOk_by (own := [("lap", 3)]) (N := ["bag", "letters", "most", "lap"]) (sc := defScope s__law_word_drawn) (by decide +kernel)) (fun _ _ _ _ _ => (pg_name (i := 3) sc__law_word_drawn.nd rfl (Or.inl rfl))) (fun _ _ _ _ _ => pts_nil) (fun _ _ _ _ _ => (pe_call (ok__law_grab T) (hr.mono (by decide)) rfl T.m__law_grab T.F__law_grab.kp T.b__law_grab .nil pass0 (pa_cons (pv 0) (pa_cons (pv 1) pa_nil))))) pa_nil)))), ?_⟩
    refine ⟨_, rfl, _, rfl, _, _, rfl, rfl, b, _, rfl, hb, by omega, by omega, fun H1 r k2 r0 r1 => ?_⟩
    refine ⟨r, rfl, by omega, by omega, lc_rngB (i := 3) (fun _ y => ∃ r, y = .int r ∧ 0 ≤ r ∧ r < k) (fun _ _ _ _ r => r) k2.1 (by rw [sizeLine_eq]; omega) (fun j hj H3 Q3 k3 q3 => ?_) fun H4 p ys k4 hp4 hp hl hy => ?_⟩
    · exact ⟨_, rfl, _, rfl, b, _, rfl, k3.1, by omega, by omega, fun H5 r' k5 a0 a1 => q3 H5 _ k5 ⟨_, rfl, a0, a1⟩⟩
    · obtain ⟨ws, rfl, hw⟩ := ints_of hy
      refine ⟨p, _, rfl, .inl (SqL.of hp), fun H5 p5 s5 hp5 => q H5 (.ref p5) ws (k2.trans (k4.more s5)) ⟨p5, rfl, hp5⟩ ?_ hw⟩
      rw [List.length_map] at hl
      omega
end
end K06
/-! K06c -/
set_option Elab.async false
set_option linter.all false
set_option maxRecDepth 100000
set_option maxHeartbeats 2000000
namespace K06
open PySem PySem.Spec PyProof.Rows L2 PpSet RL
theorem lt_at {α : Type} {l : List α} {i : Nat} {x : α} (h : l[i]? = some x) : i < l.length := (List.getElem?_eq_some_iff.mp h).1
theorem mod_nat (m n : Nat) : ((m : Int) % (n : Int)) = ((m % n : Nat) : Int) := by norm_cast
theorem div_nat (m n : Nat) : ((m : Int) / (n : Int)) = ((m / n : Nat) : Int) := by norm_cast
theorem root_is {ws : List Int} {m : Nat} (hw : ws ≠ []) (m0 : 0 < m) (h : EW.hasP ws m = true) (hl : ∀ d, 0 < d → d < m → EW.hasP ws d = false) : EW.rootL ws = m := by
  have hs := EW.rootL_spec hw
  rcases Nat.lt_trichotomy (EW.rootL ws) m with l | l | l
  · rw [hl _ hs.1 l] at hs
    exact absurd hs.2.2.1 Bool.false_ne_true
  · exact l
  · rw [hs.2.2.2 m m0 l] at h
    cases h
def sp__root (K : PySem.W.Frag) : Sp := fun vs H Q _ => ∃ (v : V) (ws : List Int), vs = [v] ∧ IsW K H v ws ∧ ws ≠ [] ∧ ws.length ≤ 1000 ∧ ∀ H' u, Same H H' → IsW K H' u (EW.root ws) → Q u H'
section
variable {P : Program} {w : World} {K : PySem.W.Frag} {mg : Str → Option Value} {base : Heap}
theorem ok__root (T : Txt K mg) : FnOk P w K mg base CX0 1 T.a__root T.d__root ["word"] (sp__root K) := by
  refine T.F__root.ok sc__root (fun vs H Q E h => ?_) (fun cdv A outer s H vs Q E hr h => ?_)
  · obtain ⟨v, ws, rfl, _⟩ := h
    rfl
  · obtain ⟨v, ws, rfl, ⟨x, rfl, hx⟩, hne, hz, q⟩ := h
    refine ⟨_, (pss_cons (ps_for PassesOwn.never rfl (pi_range2 rfl T.n_range (pa_cons pe_int (pa_cons (pe_callB call_len_seq rfl T.n_len (by decide +kernel) (pa_cons (pv 0) pa_nil)) pa_nil))) (pg_name (i := 1) sc__root.nd rfl (Or.inl rfl)) (pss_one (ps_if (PW.pt (pw_and (pt_cmpR op_eq (pe_op op_mod (pe_callB call_len_seq rfl T.n_len (by decide +kernel) (pa_cons (pv 0) pa_nil)) (pv 1)) pe_int (nomark _)) (pw_and1 (pt_cmpR (op_eqD hr.units) (pe_op op_repS (pe_slice sl_tupU (pv 0) po_none (po_some (pv 1))) (pe_op op_fdivW (pe_callB call_len_seq rfl T.n_len (by decide +kernel) (pa_cons (pv 0) pa_nil)) (pv 1))) (pv 0) (nomark _))))) (pss_one (ps_ret (pe_slice sl_tupU (pv 0) po_none (po_some (pv 1))))) pss_nil))) (pss_one (ps_ret (pv 0)))), ?_⟩
    have la : (ws.map V.int).length = ws.length := List.length_map _
    have l0 : 0 < ws.length := List.length_pos_iff.mpr hne
    refine ⟨_, rfl, _, _, rfl, .inr hx, ?_⟩
    rw [la]
    refine ⟨_, _, rfl, by omega, for_range (fun i σ H2 => Same H H2 ∧ (∀ d, 0 < d → d < 1 + i → EW.hasP ws d = false) ∧ ∃ u, σ = [some (.ref x), u]) ⟨Same.refl H, fun d h0 h1 => by omega, _, rfl⟩ ?_ ?_⟩
    · rintro i σ H2 hi ⟨s2, hno, u, rfl⟩
      have hx2 := Same.sqt s2 hx
      have hi2 : 1 + i < ws.length := by omega
      have e1 : (1 : Int) + (i : Int) = ((1 + i : Nat) : Int) := by omega
      have hm0 : (0 : Int) < ((1 + i : Nat) : Int) := by omega
      show gName 1 (V.int (1 + (i : Int))) _ _ _
      rw [e1]
      generalize hm : 1 + i = m at hi2 hm0 hno ⊢
      refine ⟨_, rfl, _, _, rfl, .inr hx2, _, rfl, _, _, rfl, rfl, hm0, rfl, _, rfl, ?_⟩
      have em : ((ws.map V.int).length : Int) % (m : Int) = ((ws.length % m : Nat) : Int) := by rw [la, mod_nat]
      have ed : ((ws.map V.int).length : Int) / (m : Int) = ((ws.length / m : Nat) : Int) := by rw [la, div_nat]
      have no : EW.hasP ws m = false → ∀ d, 0 < d → d < 1 + (i + 1) → EW.hasP ws d = false := fun hh d h0 h1 => by
        rcases Nat.lt_or_ge d m with l | l
        · exact hno d h0 l
        · have : d = m := by omega
          rw [this]; exact hh
      by_cases c : ws.length % m = 0
      · refine ifT (decide_eq_true (congrArg V.int (by rw [em, c]; rfl))) ?_
        refine ⟨_, rfl, _, rfl, _, rfl, x, _, rfl, hx2, fun H3 p s3 hp => ?_⟩
        rw [cut_to ws (by omega), Int.toNat_natCast] at hp
        have hx3 := Same.sqt s3 hx2
        refine ⟨_, rfl, _, _, rfl, .inr hx3, _, rfl, _, _, rfl, rfl, wide_div (b := 64) hm0 (by omega) (by decide) (by decide), ?_⟩
        have hq : ws.length / m ≤ ws.length := Nat.div_le_self _ _
        have ed0 := ed
        generalize hdv : ws.length / m = dv at hq ed0
        refine ⟨p, _, _, rfl, rfl, hp, by show -(2 ^ 62) ≤ ((ws.map V.int).length : Int) / (m : Int); rw [ed0]; omega, by show ((ws.map V.int).length : Int) / (m : Int) ≤ 1000; rw [ed0]; omega, by rw [List.length_map, List.length_take]; omega, fun H4 p4 s4 hp4 => ?_⟩
        rw [ed, Int.toNat_natCast, rep_int] at hp4
        have hw4 : IsW K H4 (.ref p4) (EW.rep (ws.length / m) (ws.take m)) := ⟨p4, rfl, hp4⟩
        have hx4 := Same.sqt s4 hx3
        refine ⟨_, rfl, _, _, hw4.dp, IsW.dp ⟨x, rfl, hx4⟩, shaped_tup _, shaped_tup _, _, rfl, ?_⟩
        rw [eqv_tup]
        have s24 := Same.trans s3 s4
        by_cases d : EW.rep (ws.length / m) (ws.take m) = ws
        · refine ifT (decide_eq_true d) ?_
          have hh : EW.hasP ws m = true := by
            unfold EW.hasP
            rw [decide_eq_true c, decide_eq_true d]; rfl
          have er := root_is hne (by omega) hh fun d h0 h1 => hno d h0 h1
          refine ⟨_, rfl, _, rfl, _, rfl, x, _, rfl, hx4, fun H5 p5 s5 hp5 => q H5 (.ref p5) (Same.trans s2 (Same.trans s24 s5)) ⟨p5, rfl, ?_⟩⟩
          rw [cut_to ws (by omega), Int.toNat_natCast] at hp5
          unfold EW.root
          rw [er]
          exact hp5
        · refine ifF (decide_eq_false d) ⟨Same.trans s2 s24, no ?_, _, rfl⟩
          unfold EW.hasP
          rw [decide_eq_false d, Bool.and_false]
      · refine ifF (decide_eq_false (fun z => c (by have z2 : ((ws.map V.int).length : Int) % (m : Int) = 0 := V.int.inj z; omega))) ⟨s2, no ?_, _, rfl⟩
        unfold EW.hasP
        rw [decide_eq_false c, Bool.false_and]
    · rintro σ H2 ⟨s2, hno, u, rfl⟩
      have er := root_is hne l0 (EW.hasP_all hne) fun d h0 h1 => hno d h0 (by omega)
      refine ⟨_, rfl, q H2 (.ref x) s2 ⟨x, rfl, ?_⟩⟩
      unfold EW.root
      rw [er, List.take_length]
      exact Same.sqt s2 hx
end
end K06
/-! K06d -/
set_option Elab.async false
set_option linter.all false
set_option maxRecDepth 100000
set_option maxHeartbeats 2000000
namespace K06
open PySem PySem.Spec PyProof.Rows L2 PpSet RL
def sp__kept (K : PySem.W.Frag) : Sp := fun vs H Q _ => ∃ (v u : V) (r t : List Int), vs = [v, u] ∧ IsW K H v r ∧ IsW K H u t ∧ r ≠ [] ∧ r.length ≤ 1000 ∧ t.length ≤ 1000 ∧ ∀ H' p rv tv, Same H H' → SqT K H' p [rv, tv] → IsW K H' rv (EW.kept r t).1 → IsW K H' tv (EW.kept r t).2 → Q (.ref p) H'
/-- the letters' texts -/
def txts (ws : List Int) : List Str := ws.map fun i => toString i
def sp_text (K : PySem.W.Frag) (f : List Int → Str) : Sp := fun vs H Q _ => ∃ (v : V) (ws : List Int), vs = [v] ∧ IsW K H v ws ∧ ws.length ≤ 1000 ∧ (∀ x ∈ ws, 0 ≤ x ∧ x < 4) ∧ ∀ H', Same H H' → Q (.str (f ws)) H'
theorem txt_len {i : Int} (h : 0 ≤ i ∧ i < 4) : (toString i : Str).length = 1 := by
  have : i = 0 ∨ i = 1 ∨ i = 2 ∨ i = 3 := by omega
  rcases this with rfl | rfl | rfl | rfl <;> decide +kernel
def sp1 (i : Int) : Str := Str.empty ++ " " ++ toString i
theorem sp1_len {i : Int} (h : 0 ≤ i ∧ i < 4) : (sp1 i).length = 2 := by
  have : i = 0 ∨ i = 1 ∨ i = 2 ∨ i = 3 := by omega
  rcases this with rfl | rfl | rfl | rfl <;> decide +kernel
theorem sum_of {f : Int → Str} {c : Nat} : ∀ {ws : List Int}, (∀ x ∈ ws, (f x).length = c) → ((ws.map f).map (·.length)).sum = ws.length * c
  | [], _ => by simp
  | x :: ws, h => by
    have ih := sum_of (f := f) (c := c) (ws := ws) fun y hy => h y (List.mem_cons_of_mem _ hy)
    rw [List.map_cons, List.map_cons, List.sum_cons, ih, h x List.mem_cons_self, List.length_cons, Nat.succ_mul]
    omega
theorem log_small {i : Int} (h : 0 ≤ i ∧ i < 4) : i.natAbs.log2 < 1920 := by
  have : i = 0 ∨ i = 1 ∨ i = 2 ∨ i = 3 := by omega
  rcases this with rfl | rfl | rfl | rfl <;> decide +kernel
def liftS (f : Int → Str) : V → V
  | .int i => .str (f i)
  | v => v
theorem lift_map (f : Int → Str) (ws : List Int) : (ws.map V.int).map (liftS f) = (ws.map f).map V.str := by
  rw [List.map_map, List.map_map]
  rfl
theorem seq_mid {t2 t3 : TS} {D : Ends} {σ : L2.St} {H : Hp} (Mid : L2.St → Hp → Prop) (h2 : ∀ σ H, Mid σ H → t3 D σ H) (h1 : ∀ nx : L2.St → Hp → Prop, (∀ σ H, Mid σ H → nx σ H) → t2 { D with nx := nx } σ H) : tSeq t2 t3 D σ H := h1 _ h2
theorem seq_mid2 {t1 t2 t3 : TS} {D : Ends} {σ : L2.St} {H : Hp} (Mid : L2.St → Hp → Prop) (h2 : ∀ σ H, Mid σ H → t3 D σ H) (h1 : ∀ nx : L2.St → Hp → Prop, (∀ σ H, Mid σ H → nx σ H) → tSeq t1 t2 { D with nx := nx } σ H) : tSeq t1 (tSeq t2 t3) D σ H := h1 _ h2
section
variable {P : Program} {w : World} {K : PySem.W.Frag} {mg : Str → Option Value} {base : Heap}
theorem ok__kept (T : Txt K mg) : FnOk P w K mg base CX0 2 T.a__kept T.d__kept ["ring", "tail"] (sp__kept K) := by
  refine T.F__kept.ok sc__kept (fun vs H Q E h => ?_) (fun cdv A outer s H vs Q E hr h => ?_)
  · obtain ⟨v, u, r, t, rfl, _⟩ := h
    rfl
  · obtain ⟨v, u, r, t, rfl, hrr, ht, hne, zr, zt, q⟩ := h
    refine ⟨_, (pss_cons (ps_set (i := 2) sc__kept.nd rfl (Or.inl rfl) (pe_call (ok__root T) (hr.mono (by decide)) rfl T.m__root T.F__root.kp T.b__root .nil pass0 (pa_cons (pv 0) pa_nil))) (pss_cons (ps_set (i := 3) sc__kept.nd rfl (Or.inl rfl) pe_int) (pss_cons (ps_while PassesOwn.never (PW.pt (pw_and (pt_cmpR op_lt (pv 3) (pe_callB call_len_seq rfl T.n_len (by decide +kernel) (pa_cons (pv 1) pa_nil)) (nomark _)) (pw_and1 (pt_cmpR op_eq (pe_ix ix_tup (pv 1) (pv 3) (fun _ _ => rfl)) (pe_ix ix_tup (pv 2) (pe_op op_mod (pv 3) (pe_callB call_len_seq rfl T.n_len (by decide +kernel) (pa_cons (pv 2) pa_nil))) (fun _ _ => rfl)) (nomark _))))) (pss_one (ps_aug (i := 3) sc__kept.nd rfl (Or.inl rfl) pe_int ip_add))) (pss_cons (ps_set (i := 4) sc__kept.nd rfl (Or.inl rfl) (pe_op op_mod (pv 3) (pe_callB call_len_seq rfl T.n_len (by decide +kernel) (pa_cons (pv 2) pa_nil)))) (pss_one (ps_ret (pe_tupK (K := K) rfl (pa_cons (pe_op (op_catK (K := K) rfl) (pe_slice sl_tupU (pv 2) (po_some (pv 4)) po_none) (pe_slice sl_tupU (pv 2) po_none (po_some (pv 4)))) (pa_cons (pe_slice sl_tupU (pv 1) (po_some (pv 3)) po_none) pa_nil))))))))), ?_⟩
    refine ⟨_, rfl, v, r, rfl, hrr, hne, zr, fun H1 rv s1 hrv => ?_⟩
    obtain ⟨x, rfl, hx⟩ := hrv
    obtain ⟨y, rfl, hy⟩ := ht.same s1
    generalize hroot : EW.root r = ro at hx
    have rne : ro ≠ [] := hroot ▸ EW.root_ne hne
    have rl : ro.length ≤ 1000 := by
      rw [← hroot, EW.root_len hne]
      have := (EW.rootL_spec hne).2.1
      omega
    have r0 : 0 < ro.length := List.length_pos_iff.mpr rne
    have lx : (ro.map V.int).length = ro.length := List.length_map _
    have ly : (t.map V.int).length = t.length := List.length_map _
    dsimp only [gName]
    refine seq_mid2 (t2 := tWhile _ _) (fun σ H2 => Same H H2 ∧ Same H1 H2 ∧ ∃ i : Nat, i ≤ t.length ∧ EW.absorb ro t = (EW.rotl ro i, t.drop i) ∧ σ = [some v, some (.ref y), some (.ref x), some (.int (i : Int)), none]) ?_ fun nx hnx => ?_
    · rintro σ H2 ⟨s2, s12, i, hi, e, rfl⟩
      have hx2 := Same.sqt s12 hx
      have hy2 := Same.sqt s12 hy
      have em : ((i : Int) % (ro.length : Int)) = ((i % ro.length : Nat) : Int) := mod_nat _ _
      have hml := Nat.mod_lt i r0
      refine ⟨_, rfl, _, rfl, _, _, rfl, .inr hx2, _, _, rfl, rfl, by rw [lx]; omega, ?_⟩
      show gName 4 (V.int ((i : Int) % ((ro.map V.int).length : Int))) _ _ _
      rw [lx, em]
      generalize hm : i % ro.length = m at hml em
      refine ⟨_, rfl, _, rfl, _, rfl, x, _, rfl, hx2, fun H3 p3 s3 hp3 => ?_⟩
      rw [cut_from ro (by omega), Int.toNat_natCast] at hp3
      refine ⟨_, rfl, _, rfl, _, rfl, x, _, rfl, Same.sqt s3 hx2, fun H4 p4 s4 hp4 => ?_⟩
      rw [cut_to ro (by omega), Int.toNat_natCast] at hp4
      refine ⟨p3, p4, _, _, rfl, rfl, Same.sqt s4 hp3, hp4, ?_, fun H5 p5 s5 hp5 => ?_⟩
      · rw [List.length_map, List.length_map, List.length_drop, List.length_take, sizeLine_eq]
        omega
      have s25 := Same.trans s3 (Same.trans s4 s5)
      refine ⟨_, rfl, _, rfl, _, rfl, y, _, rfl, Same.sqt s25 hy2, fun H6 p6 s6 hp6 => ?_⟩
      rw [cut_from t (by omega), Int.toNat_natCast] at hp6
      refine ⟨by show 2 ≤ sizeLine; decide, fun H7 p7 s7 hp7 => ?_⟩
      have ek : EW.kept r t = (EW.rotl ro i, t.drop i) := by
        unfold EW.kept
        rw [hroot]
        exact e
      refine q H7 p7 (.ref p5) (.ref p6) (Same.trans s2 (Same.trans s25 (Same.trans s6 s7))) hp7 ⟨p5, rfl, ?_⟩ ⟨p6, rfl, ?_⟩
      · rw [ek]
        unfold EW.rotl
        rw [hm, List.map_append]
        exact Same.sqt s7 (Same.sqt s6 hp5)
      · rw [ek]
        exact Same.sqt s7 hp6
    · refine ⟨fun m σ H2 => Same H1 H2 ∧ ∃ i : Nat, i ≤ t.length ∧ m = t.length - i ∧ EW.absorb ro t = EW.absorb (EW.rotl ro i) (t.drop i) ∧ σ = [some v, some (.ref y), some (.ref x), some (.int (i : Int)), none], ⟨_, Same.refl _, 0, Nat.zero_le _, rfl, by rw [EW.rotl_0, List.drop_zero], rfl⟩, ?_⟩
      rintro m σ H2 ⟨s2, i, hi, rfl, e, rfl⟩
      have hx2 := Same.sqt s2 hx
      have hy2 := Same.sqt s2 hy
      have em : ((i : Int) % (ro.length : Int)) = ((i % ro.length : Nat) : Int) := mod_nat _ _
      have hml := Nat.mod_lt i r0
      refine ⟨_, rfl, _, rfl, _, _, rfl, .inr hy2, _, _, rfl, rfl, _, rfl, ?_⟩
      by_cases c : i < t.length
      · refine ifT (decide_eq_true (by rw [ly]; omega)) ?_
        refine ⟨_, rfl, _, rfl, y, _, _, _, rfl, rfl, hy2, at_int (k := t) (by omega) (by rw [Int.toNat_natCast]; exact List.getElem?_eq_getElem c), ?_⟩
        refine ⟨_, rfl, _, rfl, _, rfl, _, _, rfl, .inr hx2, _, _, rfl, rfl, by rw [lx]; omega, x, _, _, _, rfl, rfl, hx2, at_int (k := ro) (x := ro[i % ro.length]) (by rw [lx, em]; omega) (by rw [lx, em, Int.toNat_natCast]; exact List.getElem?_eq_getElem hml), ?_⟩
        refine ⟨rfl, _, rfl, ?_⟩
        by_cases d : t[i] = ro[i % ro.length]
        · refine ifT (decide_eq_true (by rw [d])) ⟨_, fun σ' H' z => z, ?_⟩
          refine ⟨_, rfl, _, _, rfl, rfl, t.length - (i + 1), by omega, s2, i + 1, c, rfl, ?_, rfl⟩
          rw [e]
          exact EW.absorb_step rne (y := t[i]) (List.getElem?_eq_getElem c) (by rw [d]; exact List.getElem?_eq_getElem hml)
        · refine ifF (decide_eq_false (fun z => d (by injection z))) (hnx _ _ ⟨Same.trans s1 s2, s2, i, hi, ?_, rfl⟩)
          rw [e]
          refine EW.absorb_stop rne fun z hz hz2 => d ?_
          rw [List.getElem?_eq_getElem c] at hz
          rw [List.getElem?_eq_getElem hml] at hz2
          exact (Option.some.inj hz).trans (Option.some.inj hz2).symm
      · refine ifF (decide_eq_false (by rw [ly]; omega)) (hnx _ _ ⟨Same.trans s1 s2, s2, i, hi, ?_, rfl⟩)
        rw [e]
        refine EW.absorb_stop rne fun z hz => ?_
        rw [List.getElem?_eq_none (by omega)] at hz
        cases hz
end
end K06
/-! K06e -/
set_option Elab.async false
set_option linter.all false
set_option maxRecDepth 100000
set_option maxHeartbeats 2000000
namespace K06
open PySem PySem.Spec PyProof.Rows L2 PpSet RL LamX
theorem lr_ : ¬ (("_letters" : Str) = "_ring") := by decide +kernel
theorem lt_ : ¬ (("_letters" : Str) = "_tail") := by decide +kernel
theorem rl_ : ¬ (("_ring" : Str) = "_letters") := by decide +kernel
theorem rt_ : ¬ (("_ring" : Str) = "_tail") := by decide +kernel
theorem tl_ : ¬ (("_tail" : Str) = "_letters") := by decide +kernel
theorem tr_ : ¬ (("_tail" : Str) = "_ring") := by decide +kernel
/-- the fields of an endless word -/
def fs3 (k : Int) (rv tv : V) : List (Str × V) := putF "_tail" tv (putF "_ring" rv (putF "_letters" (.int k) []))
theorem fs3_l (k : Int) (rv tv : V) : (fs3 k rv tv).lookup ("_letters" : Str) = some (.int k) := by
  unfold fs3
  rw [lookup_putF, if_neg lt_, lookup_putF, if_neg lr_, lookup_putF, if_pos rfl]
theorem fs3_r (k : Int) (rv tv : V) : (fs3 k rv tv).lookup ("_ring" : Str) = some rv := by
  unfold fs3
  rw [lookup_putF, if_neg rt_, lookup_putF, if_pos rfl]
theorem fs3_t (k : Int) (rv tv : V) : (fs3 k rv tv).lookup ("_tail" : Str) = some tv := by
  unfold fs3
  rw [lookup_putF, if_pos rfl]
theorem fs3_no (k : Int) (rv tv : V) {m : Str} (h1 : ¬ m = "_tail") (h2 : ¬ m = "_ring") (h3 : ¬ m = "_letters") : (fs3 k rv tv).lookup m = none := by
  unfold fs3
  rw [lookup_putF, if_neg h1, lookup_putF, if_neg h2, lookup_putF, if_neg h3]
  rfl
theorem fs3_eq (k : Int) (rv tv : V) : fs3 k rv tv = [(("_letters" : Str), V.int k), (("_ring" : Str), rv), (("_tail" : Str), tv)] := by
  have h1 : putF ("_ring" : Str) rv (putF ("_letters" : Str) (.int k) []) = [(("_letters" : Str), V.int k), (("_ring" : Str), rv)] := if_neg lr_
  unfold fs3
  rw [h1]
  show (if ("_letters" : Str) = "_tail" then [(("_letters" : Str), tv), (("_ring" : Str), rv)] else (("_letters" : Str), V.int k) :: (if ("_ring" : Str) = "_tail" then [(("_ring" : Str), tv)] else [(("_ring" : Str), rv), (("_tail" : Str), tv)])) = _
  rw [if_neg lt_, if_neg rt_]
theorem fs3_len (k : Int) (rv tv : V) : (fs3 k rv tv).length = 3 := by rw [fs3_eq]; rfl
theorem fs3_putr (k : Int) (rv tv rv' : V) : putF "_ring" rv' (fs3 k rv tv) = fs3 k rv' tv := by
  rw [fs3_eq, fs3_eq]
  show (if ("_letters" : Str) = "_ring" then _ else (("_letters" : Str), V.int k) :: (if ("_ring" : Str) = "_ring" then [(("_ring" : Str), rv'), (("_tail" : Str), tv)] else _)) = _
  rw [if_neg lr_, if_pos rfl]
theorem fs3_putt (k : Int) (rv tv tv' : V) : putF "_tail" tv' (fs3 k rv tv) = fs3 k rv tv' := by
  rw [fs3_eq, fs3_eq]
  show (if ("_letters" : Str) = "_tail" then _ else (("_letters" : Str), V.int k) :: (if ("_ring" : Str) = "_tail" then _ else (("_ring" : Str), rv) :: (if ("_tail" : Str) = "_tail" then [(("_tail" : Str), tv')] else _))) = _
  rw [if_neg lt_, if_neg rt_, if_pos rfl]
/-- an endless word stands at v -/
def EndAt (K : PySem.W.Frag) (C : Addr) (H : Hp) (v : V) (k : Int) (r t : List Int) : Prop := ∃ p dx rv tv, v = .ref p ∧ H p = some (.ins C dx (fs3 k rv tv)) ∧ IsW K H rv r ∧ IsW K H tv t
theorem EndAt.same {K : PySem.W.Frag} {C : Addr} {H H' : Hp} {v : V} {k : Int} {r t : List Int} (h : EndAt K C H v k r t) (s : Same H H') : EndAt K C H' v k r t := by
  obtain ⟨p, dx, rv, tv, e, h1, h2, h3⟩ := h
  exact ⟨p, dx, rv, tv, e, s _ _ h1, h2.same s, h3.same s⟩
/-- all but one object stands -/
def But (p : Addr) (H H' : Hp) : Prop := ∀ b u, b ≠ p → H b = some u → H' b = some u
theorem But.of {p : Addr} {H H' : Hp} (s : Same H H') : But p H H' := fun b u _ h => s b u h
theorem But.trans {p : Addr} {H H1 H2 : Hp} (h : But p H H1) (k : But p H1 H2) : But p H H2 := fun b u n z => k b u n (h b u n z)
theorem But.put {p : Addr} {H : Hp} {o : HO} : But p H (upd H p o) := fun b u n h => by rw [upd_ne n]; exact h
theorem But.sqt {K : PySem.W.Frag} {p C dx : Addr} {fs : List (Str × V)} {H H' : Hp} (hp : H p = some (.ins C dx fs)) (h : But p H H') {a : Addr} {xs : List V} (q : SqT K H a xs) : SqT K H' a xs := by
  rcases q with (q | ⟨o, q⟩) | q
  · exact .inl (.inl (h _ _ (fun z => by rw [z, hp] at q; cases q) q))
  · exact .inl (.inr ⟨o, h _ _ (fun z => by rw [z, hp] at q; cases q) q⟩)
  · exact .inr q
theorem But.isW {K : PySem.W.Frag} {p C dx : Addr} {fs : List (Str × V)} {H H' : Hp} (hp : H p = some (.ins C dx fs)) (h : But p H H') {v : V} {ws : List Int} (q : IsW K H v ws) : IsW K H' v ws := by
  obtain ⟨a, e, s⟩ := q
  exact ⟨a, e, h.sqt hp s⟩
theorem EndAt.ext {K : PySem.W.Frag} {C : Addr} {H H' : Hp} {v : V} {k : Int} {r t : List Int} (h : EndAt K C H v k r t) (s : ExtN H H') : EndAt K C H' v k r t := by
  obtain ⟨p, dx, rv, tv, e, h1, h2, h3⟩ := h
  exact ⟨p, dx, rv, tv, e, s _ _ h1 fun ps z => (by cases z), ext_isW s h2, ext_isW s h3⟩
def sp_init (K : PySem.W.Frag) (C Cn Cw Co : Addr) : Sp := fun vs H Q E => ∃ (p dx : Addr) (lv rv tv : V), vs = [.ref p, lv, rv, tv] ∧ H p = some (.ins C dx []) ∧ NumV K H lv ∧ (numB lv 1 4 = false → rKept Cn "given" lv E H) ∧
  ∀ k, lv = .int k → 1 ≤ k → k ≤ 4 → ∃ b1, SpV K H rv k 200 b1 ∧ (b1 = false → rPlain Cw E H) ∧ (b1 = true → ∃ b2, SpV K H tv k 200 b2 ∧ (b2 = false → rPlain Cw E H) ∧
    (b2 = true → ∃ r t, IsW K H rv r ∧ IsW K H tv t ∧ okW k r ∧ okW k t ∧ (r = [] → rPlain Co E H) ∧
      (r ≠ [] → ∀ H' rv' tv', But p H H' → H' p = some (.ins C dx (fs3 k rv' tv')) → IsW K H' rv' (EW.kept r t).1 → IsW K H' tv' (EW.kept r t).2 → Q .non H')))
section
variable {P : Program} {w : World} {K : PySem.W.Frag} {mg : Str → Option Value} {base : Heap}
theorem ok_Endless___init__ (T : Txt K mg) : FnOk P w K mg base (L2.CX P w) 4 T.a_Endless___init__ T.d_Endless___init__ ["self", "letters", "ring", "tail"] (sp_init K T.C_Endless T.C_InvalidNumber T.C_InvalidWord T.C_InvalidOperation) := by
  refine FunD.ok (CX := L2.CX P w) T.F_Endless___init__ sc_Endless___init__ (fun vs H Q E h => ?_) (fun cdv A outer s H vs Q E hr h => ?_)
  · obtain ⟨p, dx, lv, rv, tv, rfl, _⟩ := h
    rfl
  · obtain ⟨p, dx, lv, rv, tv, rfl, hp, hl, e1, h⟩ := h
    refine ⟨_, (pss_cons (ps_expr (pe_call (ok_check_letters T) (hr.mono (by decide)) rfl T.m_check_letters T.F_check_letters.kp T.b_check_letters .nil (passE (takes_of rfl rfl rfl rfl)) (pa_cons (pv 1) pa_nil))) (pss_cons (ps_expr (pe_call (ok_check_word T) (hr.mono (by decide)) rfl T.m_check_word T.F_check_word.kp T.b_check_word .nil (passE (takes_of rfl rfl rfl rfl)) (pa_cons (pv 1) (pa_cons (pv 2) pa_nil)))) (pss_cons (ps_expr (pe_call (ok_check_word T) (hr.mono (by decide)) rfl T.m_check_word T.F_check_word.kp T.b_check_word .nil (passE (takes_of rfl rfl rfl rfl)) (pa_cons (pv 1) (pa_cons (pv 3) pa_nil)))) (pss_cons (ps_if (pt_cmpR (op_eqD hr.units) (pv 2) (pe_tupK (K := K) rfl pa_nil) (nomark _)) (pss_one (ps_raise rfl (takes_of rfl rfl rfl rfl) (pmk_own PySem.F.excBase_ValueError T.x_InvalidOperation T.mC_InvalidOperation T.k_InvalidOperation (raises_own T.e_InvalidOperation T.t_InvalidOperation) rfl))) pss_nil) (pss_cons (ps_asg (pe_call (ok__kept T) (hr.mono (by decide)) rfl T.m__kept T.F__kept.kp T.b__kept .nil pass0 (pa_cons (pv 2) (pa_cons (pv 3) pa_nil))) (pg_tupK (K := K) (n := 2) rfl rfl (pgs_cons (pg_name (i := 4) sc_Endless___init__.nd rfl (Or.inl rfl)) (pgs_cons (pg_name (i := 5) sc_Endless___init__.nd rfl (Or.inl rfl)) pgs_nil)))) (pss_cons (ps_fld (pv 0) (pv 1) rfl) (pss_cons (ps_fld (pv 0) (pv 4) rfl) (pss_one (ps_fld (pv 0) (pv 5) rfl))))))))), ?_⟩
    refine ⟨_, rfl, lv, rfl, hl, fun hb => ?_, e1⟩
    obtain ⟨k, rfl, k1, k4⟩ := num_k hb
    obtain ⟨b1, s1, f1, h⟩ := h k rfl k1 k4
    refine ⟨_, rfl, _, rfl, k, rv, b1, rfl, s1, fun hb1 H1 z1 => ?_, f1⟩
    obtain ⟨b2, s2, f2, h⟩ := h hb1
    refine ⟨_, rfl, _, rfl, k, tv, b2, rfl, s2.ext (Same.ext z1), fun hb2 H2 z2 => ?_, fun hb2 => (f2 hb2).same z1⟩
    obtain ⟨r, t, hrv, htv, or_, ot, f3, q⟩ := h hb2
    have s02 := Same.trans z1 z2
    refine ⟨_, rfl, by show 0 ≤ sizeLine; decide, fun H3 e3 s3 he3 => ?_⟩
    have s03 := Same.trans s02 s3
    have hr3 := hrv.same s03
    have ht3 := htv.same s03
    refine ⟨_, _, hr3.dp, IsW.dp (k := []) ⟨e3, rfl, he3⟩, shaped_tup r, shaped_tup [], _, rfl, ?_⟩
    rw [eqv_tup]
    by_cases hne : r = []
    · exact ifT (decide_eq_true hne) (f3 hne H3 s03)
    refine ifF (decide_eq_false hne) ?_
    refine ⟨_, rfl, _, rfl, rv, tv, r, t, rfl, hr3, ht3, hne, by have := or_.1; omega, by have := ot.1; omega, fun H4 u4 rv' tv' s4 hu4 hrv' htv' => ?_⟩
    refine ⟨u4, _, rfl, hu4, rfl, _, _, rfl, _, _, rfl, rfl, ?_⟩
    have s04 := Same.trans s03 s4
    have hp4 := s04 _ _ hp
    refine ⟨_, rfl, _, rfl, p, _, dx, [], rfl, hp4, T.c_Endless, T.na_Endless_letters, by show 0 < 1000; decide, ?_⟩
    refine ⟨_, rfl, _, rfl, p, _, dx, _, rfl, upd_same, T.c_Endless, T.na_Endless_ring, by show 1 < 1000; decide, ?_⟩
    refine ⟨_, rfl, _, rfl, p, _, dx, _, rfl, upd_same, T.c_Endless, T.na_Endless_tail, ?_, ?_⟩
    · have h1 : putF ("_ring" : Str) rv' (putF ("_letters" : Str) (.int k) []) = [(("_letters" : Str), V.int k), (("_ring" : Str), rv')] := if_neg lr_
      rw [h1]
      show 2 < 1000
      decide
    have b4 : But p H (upd (upd (upd H4 p (.ins T.C_Endless dx (putF "_letters" (.int k) []))) p (.ins T.C_Endless dx (putF "_ring" rv' (putF "_letters" (.int k) [])))) p (.ins T.C_Endless dx (fs3 k rv' tv'))) := (((But.of s04).trans But.put).trans But.put).trans But.put
    have b5 : But p H4 (upd (upd (upd H4 p (.ins T.C_Endless dx (putF "_letters" (.int k) []))) p (.ins T.C_Endless dx (putF "_ring" rv' (putF "_letters" (.int k) [])))) p (.ins T.C_Endless dx (fs3 k rv' tv'))) := (But.put.trans But.put).trans But.put
    exact q hne _ rv' tv' b4 upd_same (b5.isW hp4 hrv') (b5.isW hp4 htv')
def sp_get (C : Addr) (f : Str) : Sp := fun vs H Q _ => ∃ (p dx : Addr) (fs : List (Str × V)) (v : V), vs = [.ref p] ∧ H p = some (.ins C dx fs) ∧ fs.lookup f = some v ∧ Q v H
theorem ok_Endless_letters (T : Txt K mg) : FnOk P w K mg base CX0 1 T.a_Endless_letters T.d_Endless_letters ["self"] (sp_get T.C_Endless "_letters") := by
  refine T.F_Endless_letters.ok sc_Endless_letters (fun vs H Q E h => ?_) (fun cdv A outer s H vs Q E hr h => ?_)
  · obtain ⟨p, dx, fs, v, rfl, _⟩ := h
    rfl
  · obtain ⟨p, dx, fs, v, rfl, hp, hl, q⟩ := h
    refine ⟨_, (pss_one (ps_ret (pe_fld (pv 0) rfl))), ?_⟩
    exact ⟨_, rfl, p, _, dx, fs, v, rfl, hp, T.c_Endless, T.na_Endless_letters, hl, q⟩
theorem ok_Endless_ring (T : Txt K mg) : FnOk P w K mg base CX0 1 T.a_Endless_ring T.d_Endless_ring ["self"] (sp_get T.C_Endless "_ring") := by
  refine T.F_Endless_ring.ok sc_Endless_ring (fun vs H Q E h => ?_) (fun cdv A outer s H vs Q E hr h => ?_)
  · obtain ⟨p, dx, fs, v, rfl, _⟩ := h
    rfl
  · obtain ⟨p, dx, fs, v, rfl, hp, hl, q⟩ := h
    refine ⟨_, (pss_one (ps_ret (pe_fld (pv 0) rfl))), ?_⟩
    exact ⟨_, rfl, p, _, dx, fs, v, rfl, hp, T.c_Endless, T.na_Endless_ring, hl, q⟩
theorem ok_Endless_tail (T : Txt K mg) : FnOk P w K mg base CX0 1 T.a_Endless_tail T.d_Endless_tail ["self"] (sp_get T.C_Endless "_tail") := by
  refine T.F_Endless_tail.ok sc_Endless_tail (fun vs H Q E h => ?_) (fun cdv A outer s H vs Q E hr h => ?_)
  · obtain ⟨p, dx, fs, v, rfl, _⟩ := h
    rfl
  · obtain ⟨p, dx, fs, v, rfl, hp, hl, q⟩ := h
    refine ⟨_, (pss_one (ps_ret (pe_fld (pv 0) rfl))), ?_⟩
    exact ⟨_, rfl, p, _, dx, fs, v, rfl, hp, T.c_Endless, T.na_Endless_tail, hl, q⟩
end
end K06
/-! K06f -/
set_option Elab.async false
set_option linter.all false
set_option maxRecDepth 100000
set_option maxHeartbeats 2000000
namespace K06
open PySem PySem.Spec PyProof.Rows L2 PpSet RL LamX
def sp_last (K : PySem.W.Frag) (C : Addr) : Sp := fun vs H Q _ => ∃ (v : V) (k : Int) (r t : List Int) (n : Nat), vs = [v, .int n] ∧ EndAt K C H v k r t ∧ r ≠ [] ∧ r.length ≤ 1000 ∧ t.length ≤ 1000 ∧ n ≤ 1000 ∧ ∀ H' u, Same H H' → IsW K H' u (EW.lastW r t n) → Q u H'
def sp_eq (K : PySem.W.Frag) (C : Addr) : Sp := fun vs H Q _ => ∃ (v u : V) (k : Int) (r t : List Int), vs = [v, u] ∧ EndAt K C H v k r t ∧
  (((∃ y, TyX K H u y ∧ PySem.W.kitOne K y (.ref C) = some false) ∧ Q (.bl false) H) ∨ ∃ k' r' t', EndAt K C H u k' r' t' ∧ Q (.bl (decide (k = k' ∧ r = r' ∧ t = t'))) H)
def sp_end (K : PySem.W.Frag) (C Cn : Addr) : Sp := fun vs H Q E => ∃ (v u : V) (k : Int) (r t : List Int), vs = [v, u] ∧ EndAt K C H v k r t ∧ r ≠ [] ∧ r.length ≤ 1000 ∧ t.length ≤ 1000 ∧ NumV K H u ∧ (numB u 0 1000 = false → rKept Cn "given" u E H) ∧
  (numB u 0 1000 = true → ∀ H' x ws, Same H H' → IsW K H' x ws → Q x H')
def sp_add (K : PySem.W.Frag) (C Cw : Addr) : Sp := fun vs H Q E => ∃ (v u : V) (k : Int) (r t : List Int), vs = [v, u] ∧ EndAt K C H v k r t ∧ TyX K H u (.type "tuple") ∧ SpV K H u k 200 false ∧ rPlain Cw E H
def sp_rootof (K : PySem.W.Frag) (Cn Cw Co : Addr) : Sp := fun vs H Q E => ∃ (lv v : V), vs = [lv, v] ∧ NumV K H lv ∧ (numB lv 1 4 = false → rKept Cn "given" lv E H) ∧
  ∀ k, lv = .int k → 1 ≤ k → k ≤ 4 → ∃ b, SpV K H v k 200 b ∧ (b = false → rPlain Cw E H) ∧ (b = true → IsW K H v [] ∧ rPlain Co E H)
theorem tyx_end {K : PySem.W.Frag} {mg : Str → Option Value} (T : Txt K mg) {H : Hp} {p dx : Addr} {fs : List (Str × V)} (h : H p = some (.ins T.C_Endless dx fs)) : TyX K H (.ref p) (.ref T.C_Endless) := .base (.ins h T.c_Endless T.ca_Endless T.cn_Endless T.ct_Endless T.ob_Endless)
section
variable {P : Program} {w : World} {K : PySem.W.Frag} {mg : Str → Option Value} {base : Heap}
theorem ok_last_letters (T : Txt K mg) : FnOk P w K mg base CX0 3 T.a_last_letters T.d_last_letters ["height", "many"] (sp_last K T.C_Endless) := by
  refine T.F_last_letters.ok sc_last_letters (fun vs H Q E h => ?_) (fun cdv A outer s H vs Q E hr h => ?_)
  · obtain ⟨v, k, r, t, n, rfl, _⟩ := h
    rfl
  · obtain ⟨v, k, r, t, n, rfl, ⟨p, dx, rv, tv, rfl, hp, ⟨a, rfl, ha⟩, ⟨b, rfl, hb⟩⟩, hne, zr, zt, hn, q⟩ := h
    refine ⟨_, (pss_cons (ps_if (pt_not (pt_val (pe_callB (call_isiK (K := K) rfl) rfl T.n_isinstance (by decide +kernel) (pa_cons (pv 0) (pa_cons (pe_glob (v := .ref T.C_Endless) rfl T.mC_Endless rfl) pa_nil))))) (pss_one (ps_ret (pe_slice sl_tupU (pv 0) (po_some (pe_callB (call_max2 rfl) rfl T.n_max (by decide +kernel) (pa_cons pe_int (pa_cons (pe_op op_sub (pe_callB call_len_seq rfl T.n_len (by decide +kernel) (pa_cons (pv 0) pa_nil)) (pv 1)) pa_nil)))) po_none))) pss_nil) (pss_cons (ps_set (i := 2) sc_last_letters.nd rfl (Or.inl rfl) (pe_op op_add (pe_op op_fdivW (pv 1) (pe_callB call_len_seq rfl T.n_len (by decide +kernel) (pa_cons (pe_prop (E := E0) (pv 0) T.c_Endless T.p_Endless_ring (ok_Endless_ring T) (hr.mono (by decide)) T.b_Endless_ring .nil pass0 rfl) pa_nil))) pe_int)) (pss_cons (ps_set (i := 3) sc_last_letters.nd rfl (Or.inl rfl) (pe_op (op_catK (K := K) rfl) (pe_op op_repW (pe_prop (E := E0) (pv 0) T.c_Endless T.p_Endless_ring (ok_Endless_ring T) (hr.mono (by decide)) T.b_Endless_ring .nil pass0 rfl) (pv 2)) (pe_prop (E := E0) (pv 0) T.c_Endless T.p_Endless_tail (ok_Endless_tail T) (hr.mono (by decide)) T.b_Endless_tail .nil pass0 rfl))) (pss_one (ps_ret (pe_slice sl_tupU (pv 3) (po_some (pe_op op_sub (pe_callB call_len_seq rfl T.n_len (by decide +kernel) (pa_cons (pv 3) pa_nil)) (pv 1))) po_none)))))), ?_⟩
    have la : (r.map V.int).length = r.length := List.length_map _
    have lb : (t.map V.int).length = t.length := List.length_map _
    have r0 : 0 < r.length := List.length_pos_iff.mpr hne
    refine ⟨_, rfl, _, _, _, _, true, rfl, .own _, tyx_end T hp, T.ks_Endless, _, rfl, iteF ?_⟩
    refine ⟨_, rfl, _, rfl, p, dx, _, rfl, hp, p, dx, _, _, rfl, hp, fs3_r _ _ _, a, _, rfl, .inr ha, _, _, rfl, rfl, wide_div (b := 64) (by rw [la]; omega) (by rw [la]; omega) (by decide) (by decide), _, _, rfl, rfl, ?_⟩
    have ed : ((n : Int) / ((r.map V.int).length : Int)) + 1 = ((n / r.length + 1 : Nat) : Int) := by
      rw [la, div_nat]
      omega
    show gName 2 (V.int ((n : Int) / ((r.map V.int).length : Int) + 1)) _ _ _
    rw [ed]
    have hq : n / r.length ≤ n := Nat.div_le_self _ _
    have hbig : (EW.rep (n / r.length + 1) r).length ≤ 2001 := by
      rw [EW.rep_len, Nat.succ_mul]
      have := Nat.div_mul_le_self n r.length
      omega
    have hwhole : EW.lastW r t n = (EW.rep (n / r.length + 1) r ++ t).drop ((EW.rep (n / r.length + 1) r ++ t).length - n) := rfl
    have hlong := EW.last_long hne t n
    generalize hm : n / r.length + 1 = m at hbig hwhole hlong
    have hm1 : m ≤ 1001 := by omega
    have rn : r.map V.int ≠ [] := fun z => hne (List.map_eq_nil_iff.mp z)
    refine ⟨_, rfl, p, dx, _, rfl, hp, p, dx, _, _, rfl, hp, fs3_r _ _ _, _, rfl, a, _, _, rfl, rfl, ha, rn, by omega, by omega, by rw [la]; exact zr, ?_, fun H1 e s1 he => ?_⟩
    · rw [la, Int.toNat_natCast, Nat.mul_comm, ← EW.rep_len]
      omega
    rw [Int.toNat_natCast, rep_int] at he
    have hp1 := s1 _ _ hp
    refine ⟨_, rfl, p, dx, _, rfl, hp1, p, dx, _, _, rfl, hp1, fs3_t _ _ _, e, b, _, _, rfl, rfl, he, Same.sqt s1 hb, ?_, fun H2 f s2 hf => ?_⟩
    · have : ((List.replicate m r).flatten).length ≤ 2001 := hbig
      rw [List.length_map, List.length_map, sizeLine_eq]
      omega
    rw [← List.map_append] at hf
    have lf : (((List.replicate m r).flatten ++ t).map V.int).length = (EW.rep m r ++ t).length := List.length_map _
    refine ⟨_, rfl, _, rfl, _, _, rfl, .inr hf, _, rfl, _, _, rfl, rfl, _, rfl, f, _, rfl, hf, fun H3 g s3 hg => ?_⟩
    have ec : (((((List.replicate m r).flatten ++ t).map V.int).length : Int) - (n : Int)) = (((EW.rep m r ++ t).length - n : Nat) : Int) := by
      rw [lf]
      omega
    rw [ec, cut_from _ (by omega), Int.toNat_natCast] at hg
    refine q H3 (.ref g) (Same.trans s1 (Same.trans s2 s3)) ⟨g, rfl, ?_⟩
    rw [hwhole]
    exact hg
theorem ok_Endless_end (T : Txt K mg) : FnOk P w K mg base (L2.CX P w) 4 T.a_Endless_end T.d_Endless_end ["self", "many"] (sp_end K T.C_Endless T.C_InvalidNumber) := by
  refine T.F_Endless_end.okX sc_Endless_end (fun vs H Q E h => ?_) (fun cdv A outer s H vs Q E hr h => ?_)
  · obtain ⟨v, u, k, r, t, rfl, _⟩ := h
    rfl
  · obtain ⟨v, u, k, r, t, rfl, hv, hne, zr, zt, hu, e, q⟩ := h
    refine ⟨_, (pss_cons (ps_expr (pe_call (ok_check_number T) (hr.mono (by decide)) rfl T.m_check_number T.F_check_number.kp T.b_check_number .nil (passE (takes_of rfl rfl rfl rfl)) (pa_cons (pv 1) (pa_cons pe_int (pa_cons (pe_glob (v := .int 1000) rfl T.g_MAX_END ⟨_, rfl⟩) pa_nil))))) (pss_one (ps_ret (pe_call (ok_last_letters T) (hr.mono (by decide)) rfl T.m_last_letters T.F_last_letters.kp T.b_last_letters .nil pass0 (pa_cons (pv 0) (pa_cons (pv 1) pa_nil)))))), ?_⟩
    refine ⟨_, rfl, u, 0, 1000, rfl, hu, fun hb => ?_, e⟩
    obtain ⟨n, rfl, n0, n1⟩ := num_k hb
    obtain ⟨m, rfl⟩ := Int.eq_ofNat_of_zero_le n0
    exact ⟨_, rfl, _, rfl, v, k, r, t, m, rfl, hv, hne, zr, zt, by omega, fun H1 x s1 hx => q hb H1 x _ s1 hx⟩
theorem ok_Endless___add__ (T : Txt K mg) : FnOk P w K mg base (L2.CX P w) 4 T.a_Endless___add__ T.d_Endless___add__ ["self", "other"] (sp_add K T.C_Endless T.C_InvalidWord) := by
  refine T.F_Endless___add__.okX sc_Endless___add__ (fun vs H Q E h => ?_) (fun cdv A outer s H vs Q E hr h => ?_)
  · obtain ⟨v, u, k, r, t, rfl, _⟩ := h
    rfl
  · obtain ⟨v, u, k, r, t, rfl, ⟨p, dx, rv, tv, rfl, hp, hr0, ht0⟩, ty, su, e⟩ := h
    refine ⟨_, (pss_cons (ps_if (pt_not (pt_val (pe_callB (call_isiK (K := K) rfl) rfl T.n_isinstance (by decide +kernel) (pa_cons (pv 1) (pa_cons (pe_bltn (v := .ty "tuple") (u := .type "tuple") rfl T.n_tuple (by decide +kernel) rfl) pa_nil))))) (pss_one ps_never) pss_nil) (pss_cons (ps_expr (pe_call (ok_check_word T) (hr.mono (by decide)) rfl T.m_check_word T.F_check_word.kp T.b_check_word .nil (passE (takes_of rfl rfl rfl rfl)) (pa_cons (pe_fld (pv 0) rfl) (pa_cons (pv 1) pa_nil)))) (pss_one ps_never))), ?_⟩
    refine ⟨_, rfl, _, _, _, _, true, rfl, .ty _, ty, kit_ty (by decide +kernel), _, rfl, iteF ?_⟩
    refine ⟨_, rfl, p, _, dx, _, _, rfl, hp, T.c_Endless, T.na_Endless_letters, fs3_l _ _ _, _, rfl, k, _, false, rfl, su, fun z => (by cases z), fun _ => e⟩
theorem ok_Endless___eq__ (T : Txt K mg) : FnOk P w K mg base CX0 1 T.a_Endless___eq__ T.d_Endless___eq__ ["self", "other"] (sp_eq K T.C_Endless) := by
  refine T.F_Endless___eq__.ok sc_Endless___eq__ (fun vs H Q E h => ?_) (fun cdv A outer s H vs Q E hr h => ?_)
  · obtain ⟨v, u, k, r, t, rfl, _⟩ := h
    rfl
  · obtain ⟨v, u, k, r, t, rfl, ⟨p, dx, rv, tv, rfl, hp, hr0, ht0⟩, h⟩ := h
    refine ⟨_, (pss_one (ps_ret (pe_and (pe_callB (call_isiK (K := K) rfl) rfl T.n_isinstance (by decide +kernel) (pa_cons (pv 1) (pa_cons (pe_glob (v := .ref T.C_Endless) rfl T.mC_Endless rfl) pa_nil))) (pe_and (pe_cmpR op_eq (pe_fld (pv 0) rfl) (pe_fld (pv 1) rfl) (nomark _)) (pe_and (pe_cmpR (op_eqD hr.units) (pe_fld (pv 0) rfl) (pe_fld (pv 1) rfl) (nomark _)) (pe_one (pe_cmpR (op_eqD hr.units) (pe_fld (pv 0) rfl) (pe_fld (pv 1) rfl) (nomark _)))))))), ?_⟩
    rcases h with ⟨⟨y, hy, hk⟩, q⟩ | ⟨k', r', t', ⟨p', dx', rv', tv', rfl, hp', hr', ht'⟩, q⟩
    · exact ⟨_, rfl, _, _, _, _, false, rfl, .own _, hy, hk, _, rfl, iteF q⟩
    · refine ⟨_, rfl, _, _, _, _, true, rfl, .own _, tyx_end T hp', T.ks_Endless, _, rfl, iteT ?_⟩
      refine ⟨_, rfl, p, _, dx, _, _, rfl, hp, T.c_Endless, T.na_Endless_letters, fs3_l _ _ _, _, rfl, p', _, dx', _, _, rfl, hp', T.c_Endless, T.na_Endless_letters, fs3_l _ _ _, rfl, _, rfl, ?_⟩
      by_cases ck : k = k'
      · refine ifT (decide_eq_true (by rw [ck])) ?_
        refine ⟨_, rfl, p, _, dx, _, _, rfl, hp, T.c_Endless, T.na_Endless_ring, fs3_r _ _ _, _, rfl, p', _, dx', _, _, rfl, hp', T.c_Endless, T.na_Endless_ring, fs3_r _ _ _, _, _, hr0.dp, hr'.dp, shaped_tup _, shaped_tup _, _, rfl, ?_⟩
        rw [eqv_tup]
        by_cases cr : r = r'
        · refine ifT (decide_eq_true cr) ?_
          refine ⟨_, rfl, p, _, dx, _, _, rfl, hp, T.c_Endless, T.na_Endless_tail, fs3_t _ _ _, _, rfl, p', _, dx', _, _, rfl, hp', T.c_Endless, T.na_Endless_tail, fs3_t _ _ _, _, _, ht0.dp, ht'.dp, shaped_tup _, shaped_tup _, ?_⟩
          rw [eqv_tup]
          have e : decide (k = k' ∧ r = r' ∧ t = t') = decide (t = t') := by simp [ck, cr]
          rw [e] at q
          exact q
        · refine ifF (decide_eq_false cr) ?_
          have e : decide (k = k' ∧ r = r' ∧ t = t') = false := decide_eq_false fun z => cr z.2.1
          rw [e] at q
          exact q
      · refine ifF (decide_eq_false fun z => ck (by injection z)) ?_
        have e : decide (k = k' ∧ r = r' ∧ t = t') = false := decide_eq_false fun z => ck z.1
        rw [e] at q
        exact q
theorem ok_root_of (T : Txt K mg) : FnOk P w K mg base (L2.CX P w) 4 T.a_root_of T.d_root_of ["letters", "word"] (sp_rootof K T.C_InvalidNumber T.C_InvalidWord T.C_InvalidOperation) := by
  refine T.F_root_of.okX sc_root_of (fun vs H Q E h => ?_) (fun cdv A outer s H vs Q E hr h => ?_)
  · obtain ⟨lv, v, rfl, _⟩ := h
    rfl
  · obtain ⟨lv, v, rfl, hl, e1, h⟩ := h
    refine ⟨_, (pss_cons (ps_expr (pe_call (ok_check_letters T) (hr.mono (by decide)) rfl T.m_check_letters T.F_check_letters.kp T.b_check_letters .nil (passE (takes_of rfl rfl rfl rfl)) (pa_cons (pv 0) pa_nil))) (pss_cons (ps_expr (pe_call (ok_check_word T) (hr.mono (by decide)) rfl T.m_check_word T.F_check_word.kp T.b_check_word .nil (passE (takes_of rfl rfl rfl rfl)) (pa_cons (pv 0) (pa_cons (pv 1) pa_nil)))) (pss_cons (ps_if (pt_cmpR (op_eqD hr.units) (pv 1) (pe_tupK (K := K) rfl pa_nil) (nomark _)) (pss_one (ps_raise rfl (takes_of rfl rfl rfl rfl) (pmk_own PySem.F.excBase_ValueError T.x_InvalidOperation T.mC_InvalidOperation T.k_InvalidOperation (raises_own T.e_InvalidOperation T.t_InvalidOperation) rfl))) pss_nil) (pss_cons ps_never (pss_one ps_never))))), ?_⟩
    refine ⟨_, rfl, lv, rfl, hl, fun hb => ?_, e1⟩
    obtain ⟨k, rfl, k1, k4⟩ := num_k hb
    obtain ⟨b, s, f1, h⟩ := h k rfl k1 k4
    refine ⟨_, rfl, _, rfl, k, v, b, rfl, s, fun hb1 H1 z1 => ?_, f1⟩
    obtain ⟨hv, f2⟩ := h hb1
    refine ⟨_, rfl, by show 0 ≤ sizeLine; decide, fun H2 e s2 he => ?_⟩
    refine ⟨_, _, (hv.same (Same.trans z1 s2)).dp, IsW.dp (k := []) ⟨e, rfl, he⟩, shaped_tup [], shaped_tup [], _, rfl, ?_⟩
    rw [eqv_tup]
    exact ifT (decide_eq_true rfl) (f2 H2 (Same.trans z1 s2))
end
end K06
/-! K06g -/
set_option Elab.async false
set_option linter.all false
set_option maxRecDepth 100000
set_option maxHeartbeats 2000000
namespace K06
open PySem PySem.Spec PyProof.Rows L2 PpSet RL LamX
/-- whether v is a height of k letters -/
def HgV (K : PySem.W.Frag) (C : Addr) (H : Hp) (v : V) (k : Int) (b : Bool) : Prop :=
  (∃ k' r t, EndAt K C H v k' r t ∧ b = decide (k' = k)) ∨ ((∃ y, TyX K H v y ∧ PySem.W.kitOne K y (.ref C) = some false) ∧ SpV K H v k 200 b)
theorem HgV.ext {K : PySem.W.Frag} {C : Addr} {H H' : Hp} {v : V} {k : Int} {b : Bool} (h : HgV K C H v k b) (s : ExtN H H') : HgV K C H' v k b := by
  rcases h with ⟨k', r, t, h, e⟩ | ⟨⟨y, h1, h2⟩, h3⟩
  · exact .inl ⟨k', r, t, h.ext s, e⟩
  · exact .inr ⟨⟨y, ext_tyx s h1, h2⟩, h3.ext s⟩
def sp_hof (K : PySem.W.Frag) (C : Addr) : Sp := fun vs H Q _ => ∃ (k : Int) (v : V) (b : Bool), vs = [.int k, v] ∧ HgV K C H v k b ∧ ∀ H', Same H H' → Q (.bl b) H'
def sp_chk (K : PySem.W.Frag) (C Ch : Addr) : Sp := fun vs H Q E => ∃ (k : Int) (v : V) (b : Bool), vs = [.int k, v] ∧ HgV K C H v k b ∧ (b = true → ∀ H', Same H H' → Q .non H') ∧ (b = false → rPlain Ch E H)
def sp_chks (K : PySem.W.Frag) (C Cn Ch : Addr) : Sp := fun vs H Q E => ∃ (lv v u : V), vs = [lv, v, u] ∧ NumV K H lv ∧ (numB lv 1 4 = false → rKept Cn "given" lv E H) ∧
  ∀ k, lv = .int k → 1 ≤ k → k ≤ 4 → ∃ b, HgV K C H v k b ∧ (b = false → rPlain Ch E H) ∧ (b = true → ∃ b2, HgV K C H u k b2 ∧ (b2 = false → rPlain Ch E H) ∧ (b2 = true → ∀ H', Same H H' → Q .non H'))
/-- two arguments behind the letters, of which one is wrong -/
def sp_bad2 (K : PySem.W.Frag) (C Cn Ch : Addr) : Sp := fun vs H Q E => ∃ (lv v u : V), vs = [lv, v, u] ∧ NumV K H lv ∧ (numB lv 1 4 = false → rKept Cn "given" lv E H) ∧
  ∀ k, lv = .int k → 1 ≤ k → k ≤ 4 → ∃ b, HgV K C H v k b ∧ (b = false → rPlain Ch E H) ∧ (b = true → HgV K C H u k false ∧ rPlain Ch E H)
def sp_isH (K : PySem.W.Frag) (C Cn : Addr) : Sp := fun vs H Q E => ∃ (lv v : V), vs = [lv, v] ∧ NumV K H lv ∧ (numB lv 1 4 = false → rKept Cn "given" lv E H) ∧
  ∀ k, lv = .int k → 1 ≤ k → k ≤ 4 → ∃ b, HgV K C H v k b ∧ ∀ H', Same H H' → Q (.bl b) H'
def sp_ends (K : PySem.W.Frag) (C Cn Ch Cw : Addr) : Sp := fun vs H Q E => ∃ (lv v u : V), vs = [lv, v, u] ∧ NumV K H lv ∧ (numB lv 1 4 = false → rKept Cn "given" lv E H) ∧
  ∀ k, lv = .int k → 1 ≤ k → k ≤ 4 → ∃ b, HgV K C H v k b ∧ (b = false → rPlain Ch E H) ∧ (b = true → SpV K H u k 200 false ∧ rPlain Cw E H)
section
variable {P : Program} {w : World} {K : PySem.W.Frag} {mg : Str → Option Value} {base : Heap}
theorem ok__is_height_of (T : Txt K mg) : FnOk P w K mg base CX0 3 T.a__is_height_of T.d__is_height_of ["letters", "value"] (sp_hof K T.C_Endless) := by
  refine T.F__is_height_of.ok sc__is_height_of (fun vs H Q E h => ?_) (fun cdv A outer s H vs Q E hr h => ?_)
  · obtain ⟨k, v, b, rfl, _⟩ := h
    rfl
  · obtain ⟨k, v, b, rfl, h, q⟩ := h
    refine ⟨_, (pss_cons (ps_if (pt_val (pe_callB (call_isiK (K := K) rfl) rfl T.n_isinstance (by decide +kernel) (pa_cons (pv 1) (pa_cons (pe_glob (v := .ref T.C_Endless) rfl T.mC_Endless rfl) pa_nil)))) (pss_one (ps_ret (pe_cmpR op_eq (pe_prop (E := E0) (pv 1) T.c_Endless T.p_Endless_letters (ok_Endless_letters T) (hr.mono (by decide)) T.b_Endless_letters .nil pass0 rfl) (pv 0) (nomark _)))) pss_nil) (pss_one (ps_ret (pe_call (ok_is_spelled T) (hr.mono (by decide)) rfl T.m_is_spelled T.F_is_spelled.kp T.b_is_spelled .nil pass0 (pa_cons (pv 0) (pa_cons (pv 1) (pa_cons (pe_glob (v := .int 200) rfl T.g_MAX_WORD ⟨_, rfl⟩) pa_nil))))))), ?_⟩
    rcases h with ⟨k', r, t, ⟨p, dx, rv, tv, rfl, hp, _, _⟩, rfl⟩ | ⟨⟨y, hy, hk⟩, h⟩
    · refine ⟨_, rfl, _, _, _, _, true, rfl, .own _, tyx_end T hp, T.ks_Endless, _, rfl, iteT ?_⟩
      refine ⟨_, rfl, p, dx, _, rfl, hp, p, dx, _, _, rfl, hp, fs3_l _ _ _, _, rfl, rfl, ?_⟩
      have e : decide (V.int k' = V.int k) = decide (k' = k) := by
        by_cases c : k' = k
        · rw [c, decide_eq_true rfl, decide_eq_true rfl]
        · rw [decide_eq_false c, decide_eq_false fun z => c (by injection z)]
      rw [e]
      exact q H (Same.refl H)
    · refine ⟨_, rfl, _, _, _, _, false, rfl, .own _, hy, hk, _, rfl, iteF ?_⟩
      exact ⟨_, rfl, _, rfl, k, 200, v, b, rfl, h, q⟩
theorem ok__check_height (T : Txt K mg) : FnOk P w K mg base (L2.CX P w) 4 T.a__check_height T.d__check_height ["letters", "height"] (sp_chk K T.C_Endless T.C_InvalidHeight) := by
  refine T.F__check_height.okX sc__check_height (fun vs H Q E h => ?_) (fun cdv A outer s H vs Q E hr h => ?_)
  · obtain ⟨k, v, b, rfl, _⟩ := h
    rfl
  · obtain ⟨k, v, b, rfl, h, q, e⟩ := h
    refine ⟨_, (pss_one (ps_if (pt_not (pt_val (pe_call (ok__is_height_of T) (hr.mono (by decide)) rfl T.m__is_height_of T.F__is_height_of.kp T.b__is_height_of .nil pass0 (pa_cons (pv 0) (pa_cons (pv 1) pa_nil))))) (pss_one (ps_raise rfl (takes_of rfl rfl rfl rfl) (pmk_own PySem.F.excBase_ValueError T.x_InvalidHeight T.mC_InvalidHeight T.k_InvalidHeight (raises_own T.e_InvalidHeight T.t_InvalidHeight) rfl))) pss_nil)), ?_⟩
    refine ⟨_, rfl, _, rfl, k, v, b, rfl, h, fun H1 s1 => ⟨_, rfl, ?_⟩⟩
    cases b with
    | true => exact iteF (q rfl H1 s1)
    | false => exact iteT (e rfl H1 s1)
theorem ok__check_heights (T : Txt K mg) : FnOk P w K mg base (L2.CX P w) 5 T.a__check_heights T.d__check_heights ["letters", "one", "other"] (sp_chks K T.C_Endless T.C_InvalidNumber T.C_InvalidHeight) := by
  refine T.F__check_heights.okX sc__check_heights (fun vs H Q E h => ?_) (fun cdv A outer s H vs Q E hr h => ?_)
  · obtain ⟨lv, v, u, rfl, _⟩ := h
    rfl
  · obtain ⟨lv, v, u, rfl, hl, e1, h⟩ := h
    refine ⟨_, (pss_cons (ps_expr (pe_call (ok_check_letters T) (hr.mono (by decide)) rfl T.m_check_letters T.F_check_letters.kp T.b_check_letters .nil (passE (takes_of rfl rfl rfl rfl)) (pa_cons (pv 0) pa_nil))) (pss_cons (ps_expr (pe_call (ok__check_height T) (hr.mono (by decide)) rfl T.m__check_height T.F__check_height.kp T.b__check_height .nil (passE (takes_of rfl rfl rfl rfl)) (pa_cons (pv 0) (pa_cons (pv 1) pa_nil)))) (pss_one (ps_expr (pe_call (ok__check_height T) (hr.mono (by decide)) rfl T.m__check_height T.F__check_height.kp T.b__check_height .nil (passE (takes_of rfl rfl rfl rfl)) (pa_cons (pv 0) (pa_cons (pv 2) pa_nil))))))), ?_⟩
    refine ⟨_, rfl, lv, rfl, hl, fun hb => ?_, e1⟩
    obtain ⟨k, rfl, k1, k4⟩ := num_k hb
    obtain ⟨b, hv, f1, h⟩ := h k rfl k1 k4
    refine ⟨_, rfl, _, rfl, k, v, b, rfl, hv, fun hb1 H1 s1 => ?_, f1⟩
    obtain ⟨b2, hu, f2, q⟩ := h hb1
    exact ⟨_, rfl, _, rfl, k, u, b2, rfl, hu.ext (Same.ext s1), fun hb2 H2 s2 => q hb2 H2 (Same.trans s1 s2), fun hb2 => (f2 hb2).same s1⟩
theorem ok_is_height (T : Txt K mg) : FnOk P w K mg base (L2.CX P w) 4 T.a_is_height T.d_is_height ["letters", "value"] (sp_isH K T.C_Endless T.C_InvalidNumber) := by
  refine T.F_is_height.okX sc_is_height (fun vs H Q E h => ?_) (fun cdv A outer s H vs Q E hr h => ?_)
  · obtain ⟨lv, v, rfl, _⟩ := h
    rfl
  · obtain ⟨lv, v, rfl, hl, e1, h⟩ := h
    refine ⟨_, (pss_cons (ps_expr (pe_call (ok_check_letters T) (hr.mono (by decide)) rfl T.m_check_letters T.F_check_letters.kp T.b_check_letters .nil (passE (takes_of rfl rfl rfl rfl)) (pa_cons (pv 0) pa_nil))) (pss_one (ps_ret (pe_call (ok__is_height_of T) (hr.mono (by decide)) rfl T.m__is_height_of T.F__is_height_of.kp T.b__is_height_of .nil pass0 (pa_cons (pv 0) (pa_cons (pv 1) pa_nil)))))), ?_⟩
    refine ⟨_, rfl, lv, rfl, hl, fun hb => ?_, e1⟩
    obtain ⟨k, rfl, k1, k4⟩ := num_k hb
    obtain ⟨b, hv, q⟩ := h k rfl k1 k4
    exact ⟨_, rfl, _, rfl, k, v, b, rfl, hv, q⟩
theorem ok_compare (T : Txt K mg) : FnOk P w K mg base (L2.CX P w) 6 T.a_compare T.d_compare ["letters", "one", "other"] (sp_bad2 K T.C_Endless T.C_InvalidNumber T.C_InvalidHeight) := by
  refine T.F_compare.okX sc_compare (fun vs H Q E h => ?_) (fun cdv A outer s H vs Q E hr h => ?_)
  · obtain ⟨lv, v, u, rfl, _⟩ := h
    rfl
  · obtain ⟨lv, v, u, rfl, hl, e1, h⟩ := h
    refine ⟨_, (pss_cons (ps_expr (pe_call (ok__check_heights T) (hr.mono (by decide)) rfl T.m__check_heights T.F__check_heights.kp T.b__check_heights .nil (passE (takes_of rfl rfl rfl rfl)) (pa_cons (pv 0) (pa_cons (pv 1) (pa_cons (pv 2) pa_nil))))) (pss_one ps_never)), ?_⟩
    refine ⟨_, rfl, _, rfl, _, rfl, lv, v, u, rfl, hl, e1, fun k ek k1 k4 => ?_⟩
    obtain ⟨b, hv, f1, h⟩ := h k ek k1 k4
    exact ⟨b, hv, f1, fun hb => ⟨false, (h hb).1, fun _ => (h hb).2, fun z => (by cases z)⟩⟩
theorem ok_agree (T : Txt K mg) : FnOk P w K mg base (L2.CX P w) 6 T.a_agree T.d_agree ["letters", "one", "other"] (sp_bad2 K T.C_Endless T.C_InvalidNumber T.C_InvalidHeight) := by
  refine T.F_agree.okX sc_agree (fun vs H Q E h => ?_) (fun cdv A outer s H vs Q E hr h => ?_)
  · obtain ⟨lv, v, u, rfl, _⟩ := h
    rfl
  · obtain ⟨lv, v, u, rfl, hl, e1, h⟩ := h
    refine ⟨_, (pss_cons (ps_expr (pe_call (ok__check_heights T) (hr.mono (by decide)) rfl T.m__check_heights T.F__check_heights.kp T.b__check_heights .nil (passE (takes_of rfl rfl rfl rfl)) (pa_cons (pv 0) (pa_cons (pv 1) (pa_cons (pv 2) pa_nil))))) (pss_one ps_never)), ?_⟩
    refine ⟨_, rfl, _, rfl, _, rfl, lv, v, u, rfl, hl, e1, fun k ek k1 k4 => ?_⟩
    obtain ⟨b, hv, f1, h⟩ := h k ek k1 k4
    exact ⟨b, hv, f1, fun hb => ⟨false, (h hb).1, fun _ => (h hb).2, fun z => (by cases z)⟩⟩
theorem ok_ends_with (T : Txt K mg) : FnOk P w K mg base (L2.CX P w) 5 T.a_ends_with T.d_ends_with ["letters", "height", "word"] (sp_ends K T.C_Endless T.C_InvalidNumber T.C_InvalidHeight T.C_InvalidWord) := by
  refine T.F_ends_with.okX sc_ends_with (fun vs H Q E h => ?_) (fun cdv A outer s H vs Q E hr h => ?_)
  · obtain ⟨lv, v, u, rfl, _⟩ := h
    rfl
  · obtain ⟨lv, v, u, rfl, hl, e1, h⟩ := h
    refine ⟨_, (pss_cons (ps_expr (pe_call (ok_check_letters T) (hr.mono (by decide)) rfl T.m_check_letters T.F_check_letters.kp T.b_check_letters .nil (passE (takes_of rfl rfl rfl rfl)) (pa_cons (pv 0) pa_nil))) (pss_cons (ps_expr (pe_call (ok__check_height T) (hr.mono (by decide)) rfl T.m__check_height T.F__check_height.kp T.b__check_height .nil (passE (takes_of rfl rfl rfl rfl)) (pa_cons (pv 0) (pa_cons (pv 1) pa_nil)))) (pss_cons (ps_expr (pe_call (ok_check_word T) (hr.mono (by decide)) rfl T.m_check_word T.F_check_word.kp T.b_check_word .nil (passE (takes_of rfl rfl rfl rfl)) (pa_cons (pv 0) (pa_cons (pv 2) pa_nil)))) (pss_one ps_never)))), ?_⟩
    refine ⟨_, rfl, lv, rfl, hl, fun hb => ?_, e1⟩
    obtain ⟨k, rfl, k1, k4⟩ := num_k hb
    obtain ⟨b, hv, f1, h⟩ := h k rfl k1 k4
    refine ⟨_, rfl, _, rfl, k, v, b, rfl, hv, fun hb1 H1 s1 => ?_, f1⟩
    obtain ⟨hu, f2⟩ := h hb1
    exact ⟨_, rfl, _, rfl, k, u, false, rfl, hu.ext (Same.ext s1), fun z => (by cases z), fun _ => f2.same s1⟩
/-- the ends of a height -/
def sp_each (K : PySem.W.Frag) (C Cn Ch : Addr) : SpG := fun vs H Q E => ∃ (lv v mv : V), vs = [lv, v, mv] ∧ NumV K H lv ∧ (numB lv 1 4 = false → rKept Cn "given" lv E H) ∧
  ∀ k, lv = .int k → 1 ≤ k → k ≤ 4 → ∃ b, HgV K C H v k b ∧ (b = false → rPlain Ch E H) ∧ (b = true → NumV K H mv ∧ (numB mv 0 60 = false → rKept Cn "given" mv E H) ∧
    (numB mv 0 60 = true → ∃ k' r t, EndAt K C H v k' r t ∧ r ≠ [] ∧ r.length ≤ 1000 ∧ t.length ≤ 1000 ∧ ∀ ys H', Same H H' → Q ys H'))
theorem ok_each_end (T : Txt K mg) : GFn P w K mg base 5 T.a_each_end T.d_each_end ["letters", "height", "many"] (sp_each K T.C_Endless T.C_InvalidNumber T.C_InvalidHeight) := by
  refine fun_gen T.F_each_end sc_each_end (fun vs H Q E h => ?_) fun cdv A outer s H vs Q E pn hr h => ?_
  · obtain ⟨lv, v, mv, rfl, _⟩ := h
    rfl
  · obtain ⟨lv, v, mv, rfl, hl, e1, h⟩ := h
    refine ⟨_, gss_cons (gs_ps (ps_expr (pe_call (ok_check_letters T) (hr.mono (by decide)) rfl T.m_check_letters T.F_check_letters.kp T.b_check_letters .nil (passE takes_gcx) (pa_cons (pv 0) pa_nil))))
      (gss_cons (gs_ps (ps_expr (pe_call (ok__check_height T) (hr.mono (by decide)) rfl T.m__check_height T.F__check_height.kp T.b__check_height .nil (passE takes_gcx) (pa_cons (pv 0) (pa_cons (pv 1) pa_nil)))))
      (gss_cons (gs_ps (ps_expr (pe_call (ok_check_number T) (hr.mono (by decide)) rfl T.m_check_number T.F_check_number.kp T.b_check_number .nil (passE takes_gcx) (pa_cons (pv 2) (pa_cons pe_int (pa_cons (pe_glob (v := .int 60) rfl T.g_MOST_ENDS ⟨_, rfl⟩) pa_nil))))))
      (gss_cons (gs_ps (ps_set (i := 3) sc_each_end.nd rfl (Or.inl rfl) (pe_call (ok_last_letters T) (hr.mono (by decide)) rfl T.m_last_letters T.F_last_letters.kp T.b_last_letters .nil pass0 (pa_cons (pv 1) (pa_cons (pv 2) pa_nil)))))
      (gss_cons (gs_for owns_gcx rfl (pi_range1 rfl T.n_range (pa_cons (pe_op op_add (pe_callB call_len_seq rfl T.n_len (by decide +kernel) (pa_cons (pv 3) pa_nil)) pe_int) pa_nil)) (pg_name (i := 4) sc_each_end.nd rfl (Or.inl rfl))
        (gss_cons (gs_yield (pe_slice sl_tupU (pv 3) (po_some (pe_op op_sub (pe_callB call_len_seq rfl T.n_len (by decide +kernel) (pa_cons (pv 3) pa_nil)) (pv 4))) po_none)) gss_nil))
      gss_nil)))), ?_⟩
    refine ⟨_, rfl, lv, rfl, hl, fun hb => ?_, e1⟩
    obtain ⟨k, rfl, k1, k4⟩ := num_k hb
    obtain ⟨b, hv, f1, h⟩ := h k rfl k1 k4
    refine ⟨_, rfl, _, rfl, k, v, b, rfl, hv, fun hb1 H1 s1 => ?_, f1⟩
    obtain ⟨hm, f2, h⟩ := h hb1
    refine ⟨_, rfl, mv, 0, 60, rfl, ext_numV (Same.ext s1) hm, fun hb2 => ?_, fun hb2 => (f2 hb2).same s1⟩
    obtain ⟨k', r, t, hh, hne, zr, zt, q⟩ := h hb2
    obtain ⟨n, rfl, n0, n1⟩ := num_k hb2
    obtain ⟨n, rfl⟩ := Int.eq_ofNat_of_zero_le n0
    refine ⟨_, rfl, _, rfl, v, k', r, t, n, rfl, hh.same s1, hne, zr, zt, by omega, fun H2 u s2 hu => ?_⟩
    obtain ⟨x, rfl, hx⟩ := hu
    have fl := EW.last_len hne t n
    generalize EW.lastW r t n = ws at hx fl
    have lx : (ws.map V.int).length = ws.length := List.length_map _
    refine ⟨_, rfl, _, _, rfl, .inr hx, _, _, rfl, rfl, _, rfl, by rw [lx]; omega, by rw [lx]; omega, ?_⟩
    have en : ((((ws.map V.int).length : Nat) : Int) + 1).toNat = ws.length + 1 := by
      rw [lx]
      omega
    rw [en]
    refine gfor_range (fun i ys σ H3 => Same H2 H3 ∧ ys.length = i ∧ ∃ u, σ = [some (.int k), some v, some (.int (n : Int)), some (.ref x), u]) ⟨Same.refl _, rfl, _, rfl⟩ ?_ ?_
    · rintro i ys σ H3 hi ⟨s3, yl, u, rfl⟩
      have hx3 := Same.sqt s3 hx
      refine ⟨by rw [sizeLine_eq]; omega, ?_⟩
      refine ⟨_, rfl, _, rfl, _, _, rfl, .inr hx3, _, rfl, _, _, rfl, rfl, _, rfl, x, _, rfl, hx3, fun H4 p s4 hp => ?_⟩
      exact ⟨Same.trans s3 s4, by rw [List.length_append, yl]; rfl, _, rfl⟩
    · rintro ys σ H3 ⟨s3, _, u, rfl⟩
      exact q ys H3 (Same.trans s1 (Same.trans s2 s3))
end
end K06
/-! K06h -/
set_option Elab.async false
set_option linter.all false
set_option maxRecDepth 100000
set_option maxHeartbeats 2000000
namespace K06
open PySem PySem.Spec PyProof.Rows L2 PpSet RL LamX
/-- what the law's def makes of an error -/
def Met {K : PySem.W.Frag} {mg : Str → Option Value} (T : Txt K mg) (Q : VK) : XK := fun cls d H =>
  (cls = .ref T.C_InvalidWord ∧ Got K Q H ["refused", "word"]) ∨ (cls = .ref T.C_InvalidHeight ∧ Got K Q H ["refused", "height"]) ∨
  (cls = .ref T.C_InvalidOperation ∧ Got K Q H ["refused", "operation"]) ∨
  (cls = .ref T.C_InvalidNumber ∧ ∃ dd v z, d = some dd ∧ H dd = some (.xd [("given", v)]) ∧ Dp K H v z ∧ Shows z ∧ Got K Q H ["refused", "number", z.shown])
abbrev TTm {K : PySem.W.Frag} {mg : Str → Option Value} (T : Txt K mg) : (XK → Hp → VK → Prop) → Hp → VK → Prop := fun tl H Q => tl (Met T Q) H fun _ H' => 1 ≤ sizeLine ∧ Got K Q H' ["fine"]
theorem takes_len {X : Cx} {W : WX} {n : Nat} (h : X.N.length = n) (tk : Takes X W) : Takes X (fun cls d σ H => σ.length = n → W cls d σ H) :=
  fun u s' ⟨a, B, sI, pins, σ, H, cls, d, e, I, nb, up, sky, na, os, ag, w⟩ => tk u s' ⟨a, B, sI, pins, σ, H, cls, d, e, I, nb, up, sky, na, os, ag, w (I.len.trans h)⟩
theorem set1 {α : Type} {l : List α} (x : α) (h : l.length = 2) : (l.set 1 x)[1]? = some x := by rw [List.getElem?_set_self (by omega)]
theorem two_fits : 2 ≤ sizeLine := by rw [sizeLine_eq]; omega
theorem met_gives {X : Cx} {K : PySem.W.Frag} {mg : Str → Option Value} (T : Txt K mg) (hK : X.K = K) (hM : X.mg = mg) {q : Str} (hg : X.A.guards = some []) {kk : Nat} (hr : Room kk X.A) (cdg : Value) : GivesTo X ["call", "error"] "_law_met" (defScope s__law_met) T.a__law_met cdg (defBody s__law_met) "call" q (TTm T) := by
  subst hK
  subst hM
  intro f c' s H Q tl act hc h
  have hu : X.A.units + 67 < cLine := by have := hr.un; omega
  refine ⟨_, pss_cons (ps_try_cl (X := (cxOf C8.CX0 X.prog X.w X.K X.mg X.base ["call", "error"] "_law_met" (defScope s__law_met) T.a__law_met cdg X.A X.stack s H C8.E0).nox)
      (tb := fun W D σ H => ∃ Ech : XK, (∀ cls d σ' H', Ech cls d H' → σ'.length = 2 → W cls d σ' H') ∧ σ[0]? = some (some (.ref f)) ∧ H c' = some (CodeO c' q) ∧ tl Ech H fun _ H' => D.nx σ H')
      rfl rfl sc__law_met.nd LamX.takes0 (fun W pn xe tk _ => ?_)
      (.only ⟨rfl, by decide, .inl T.mC_InvalidWord⟩ (fun a oe cls d pn hz hf => pss_one (ps_ret (pe_tupK (K := X.K) (by rfl) (pa_cons pe_str (pa_cons pe_str pa_nil)))))
      (.only ⟨rfl, by decide, .inl T.mC_InvalidHeight⟩ (fun a oe cls d pn hz hf => pss_one (ps_ret (pe_tupK (K := X.K) (by rfl) (pa_cons pe_str (pa_cons pe_str pa_nil)))))
      (.only ⟨rfl, by decide, .inl T.mC_InvalidOperation⟩ (fun a oe cls d pn hz hf => pss_one (ps_ret (pe_tupK (K := X.K) (by rfl) (pa_cons pe_str (pa_cons pe_str pa_nil)))))
      (.named (i := 1) ⟨rfl, by decide, .inl T.mC_InvalidNumber⟩ rfl rfl (fun a oe cls d pn hz hf => pss_one (ps_ret (pe_tupK (K := X.K) (by rfl) (pa_cons pe_str (pa_cons pe_str (pa_cons
        (pe_callB (r := rReprD X.K) (call_reprD (X := (cxOf C8.CX0 X.prog X.w X.K X.mg X.base ["call", "error"] "_law_met" (defScope s__law_met) T.a__law_met cdg X.A X.stack s H C8.E0).nox.suite a ((a, oe) :: pn)) hg hu) rfl T.n_repr (by decide +kernel) (pa_cons (pe_xf T.xf_InvalidNumber T.kp_InvalidNumber.noN hz hf (pv 1)) pa_nil)) pa_nil)))))) .nil)))))
      (pss_one (ps_ret (pe_tupK (K := X.K) (by rfl) (pa_cons pe_str pa_nil)))), ?_⟩
  · refine ⟨fun pins s' σ H' D I h' => ?_⟩
    obtain ⟨Ech, hW, h1, h2, h3⟩ := h'
    exact (pss_one (ps_expr (act (fun cls d σ H => σ.length = 2 → W cls d σ H) pn xe Ech _ _ (takes_len rfl tk) hW))).run pins s' σ H' D I ⟨h1, h2, h3⟩
  · refine ⟨Met T Q, fun cls d σ H1 hm hl => ?_, rfl, hc, ?_⟩
    · rcases hm with ⟨rfl, g⟩ | ⟨rfl, g⟩ | ⟨rfl, g⟩ | ⟨rfl, dd, v, z, rfl, hd, hz, hs, g⟩
      · exact ⟨true, T.em_InvalidWord_InvalidWord, fun _ a ha => ⟨two_fits, fun H2 p s2 hp => g H2 p s2 hp⟩, fun y => by cases y⟩
      · refine ⟨false, T.em_InvalidHeight_InvalidWord, fun y => (by cases y), fun _ => ?_⟩
        exact ⟨true, T.em_InvalidHeight_InvalidHeight, fun _ a ha => ⟨two_fits, fun H2 p s2 hp => g H2 p s2 hp⟩, fun y => by cases y⟩
      · refine ⟨false, T.em_InvalidOperation_InvalidWord, fun y => (by cases y), fun _ => ?_⟩
        refine ⟨false, T.em_InvalidOperation_InvalidHeight, fun y => (by cases y), fun _ => ?_⟩
        exact ⟨true, T.em_InvalidOperation_InvalidOperation, fun _ a ha => ⟨two_fits, fun H2 p s2 hp => g H2 p s2 hp⟩, fun y => by cases y⟩
      · refine ⟨false, T.em_InvalidNumber_InvalidWord, fun y => (by cases y), fun _ => ?_⟩
        refine ⟨false, T.em_InvalidNumber_InvalidHeight, fun y => (by cases y), fun _ => ?_⟩
        refine ⟨false, T.em_InvalidNumber_InvalidOperation, fun y => (by cases y), fun _ => ?_⟩
        refine ⟨true, T.em_InvalidNumber_InvalidNumber, fun _ a ha => ?_, fun y => by cases y⟩
        exact ⟨_, set1 _ hl, rfl, rfl, dd, _, v, rfl, hd, by simp [List.lookup], v, z, rfl, hz, hs, by rw [sizeLine_eq]; show 3 ≤ _; omega, fun H2 p s2 hp => g H2 p s2 hp⟩
    · exact h
section
variable {K : PySem.W.Frag} {mg : Str → Option Value} {T : Txt K mg} {Q : VK} {H : Hp} {v : V} {z : PyData}
theorem mNum (t : Tabs T.tabs H) (hz : Dp K H v z) (hs : Shows z) (g : GotN K T.tabs Q H ["refused", "number", z.shown]) : rKept T.C_InvalidNumber "given" v (Met T Q) H := fun d H' s hd =>
  .inr (.inr (.inr ⟨rfl, d, v, z, rfl, hd, ext_dp (Same.ext s) hz, hs, g H' (Same.ext s) (t.ext s)⟩))
theorem mWord (t : Tabs T.tabs H) (g : GotN K T.tabs Q H ["refused", "word"]) : rPlain T.C_InvalidWord (Met T Q) H := fun H' s => .inl ⟨rfl, g H' (Same.ext s) (t.ext s)⟩
theorem mHgt (t : Tabs T.tabs H) (g : GotN K T.tabs Q H ["refused", "height"]) : rPlain T.C_InvalidHeight (Met T Q) H := fun H' s => .inr (.inl ⟨rfl, g H' (Same.ext s) (t.ext s)⟩)
theorem mOpr (t : Tabs T.tabs H) (g : GotN K T.tabs Q H ["refused", "operation"]) : rPlain T.C_InvalidOperation (Met T Q) H := fun H' s => .inr (.inr (.inl ⟨rfl, g H' (Same.ext s) (t.ext s)⟩))
end
theorem GotN.to {K : PySem.W.Frag} {tabs : List (Addr × Str)} {Q : VK} {H H1 : Hp} {l : List Str} (g : GotN K tabs Q H l) (e : ExtN H H1) : GotN K tabs Q H1 l := fun H2 e2 t2 => g H2 (e.trans e2) t2
theorem GotN.fine {K : PySem.W.Frag} {tabs : List (Addr × Str)} {Q : VK} {H H1 : Hp} {l : List Str} (g : GotN K tabs Q H l) (e : ExtN H H1) (t : Tabs tabs H1) : 1 ≤ sizeLine ∧ Got K Q H1 l := ⟨by rw [sizeLine_eq]; omega, g H1 e t⟩
end K06
/-! K06i -/
set_option Elab.async false
set_option linter.all false
set_option maxRecDepth 100000
set_option maxHeartbeats 2000000
namespace K06
open PySem PySem.Spec PyProof.Rows L2 PpSet RL LamX
section
variable {K : PySem.W.Frag} {H H' : Hp} {k m : Int}
theorem sv_non : SpV K H .non k m false := .inl ⟨rfl, _, .base .non, kit_ty (by decide +kernel)⟩
theorem sv_int (i : Int) : SpV K H (.int i) k m false := .inl ⟨rfl, _, .base (.int i), kit_ty (by decide +kernel)⟩
theorem sv_str (x : Str) : SpV K H (.str x) k m false := .inl ⟨rfl, _, .base (.str x), kit_ty (by decide +kernel)⟩
theorem sv_lst {a : Addr} {xs : List V} (e : H a = some (.lst xs)) : SpV K H (.ref a) k m false := .inl ⟨rfl, _, .base (.lst e), kit_ty (by decide +kernel)⟩
theorem sv_dK {a : Addr} {xs : List (Key × V)} (e : H a = some (.dK xs)) : SpV K H (.ref a) k m false := .inl ⟨rfl, _, .base (.dK e), kit_ty (by decide +kernel)⟩
theorem nv_int (i : Int) : NumV K H (.int i) := .inl ⟨i, rfl⟩
theorem nv_bl (i : Bool) : NumV K H (.bl i) := .inr (.inl ⟨i, rfl⟩)
theorem nv_non : NumV K H .non := .inr (.inr ⟨nofun, nofun, _, .base .non, kit_ty (by decide +kernel)⟩)
theorem nv_str (x : Str) : NumV K H (.str x) := .inr (.inr ⟨nofun, nofun, _, .base (.str x), kit_ty (by decide +kernel)⟩)
theorem nv_tup {a : Addr} {xs : List V} (h : SqT K H a xs) : NumV K H (.ref a) := .inr (.inr ⟨nofun, nofun, _, tyx_sqt h, kit_ty (by decide +kernel)⟩)
theorem sv_tup {a : Addr} {xs : List V} (h : SqT K H a xs) (hz : xs.length ≤ 1000) (hn : ∀ x ∈ xs, NumV K H x) (e : spelled xs k m = false) : SpV K H (.ref a) k m false :=
  .inr ⟨a, xs, rfl, h, by rw [sizeLine_eq]; omega, hn, e.symm⟩
theorem spelled_bad {xs : List V} {x : V} (hx : x ∈ xs) (e : numB x 0 (k - 1) = false) : spelled xs k m = false := by
  unfold spelled
  rw [Bool.and_eq_false_iff]
  refine .inr ?_
  rw [List.all_eq_false]
  exact ⟨x, hx, by rw [e]; exact Bool.false_ne_true⟩
theorem spelled_long {xs : List V} (e : m < (xs.length : Int)) : spelled xs k m = false := by
  unfold spelled
  rw [decide_eq_false (by omega), Bool.false_and]
theorem numB_top (k : Int) : numB (.int k) 0 (k - 1) = false := by
  simp only [numB]
  by_cases h : k ≤ k - 1
  · omega
  · rw [decide_eq_false h, Bool.and_false]
theorem zeros_v (n : Nat) : (List.replicate n [V.int 0]).flatten = (List.replicate n (0 : Int)).map V.int := by
  induction n with
  | zero => rfl
  | succ n ih =>
    rw [List.replicate_succ, List.flatten_cons, ih, List.replicate_succ]
    rfl
theorem zeros_len (n : Nat) : ((List.replicate n (0 : Int)).map V.int).length = n := by rw [List.length_map, List.length_replicate]
end
/-- all but the bag and tables stands -/
def KpN (b : Addr) (H H' : Hp) : Prop := Bag b H' ∧ ∀ a u, a ≠ b → H a = some u → (∀ ps, u ≠ .tbl ps) → H' a = some u
theorem KpN.trans {b : Addr} {H H1 H2 : Hp} (h : KpN b H H1) (k : KpN b H1 H2) : KpN b H H2 := ⟨k.1, fun a u n z t => k.2 a u n (h.2 a u n z t) t⟩
theorem KpN.of {b : Addr} {H H' : Hp} (k : Kp b H H') : KpN b H H' := ⟨k.1, fun a u n z _ => k.2 a u n z⟩
theorem KpN.ext {b : Addr} {H H' : Hp} (h : Bag b H) (e : ExtN H H') : KpN b H H' := ⟨let ⟨x, y, z, q⟩ := h; ⟨x, y, z, e _ _ q fun ps z => by cases z⟩, fun a u _ z t => e a u z t⟩
theorem KpN.sqt {K : PySem.W.Frag} {b : Addr} {H H' : Hp} (h : Bag b H) (k : KpN b H H') {a : Addr} {xs : List V} (q : SqT K H a xs) : SqT K H' a xs := by
  obtain ⟨x, y, z, e⟩ := h
  rcases q with (q | ⟨o, q⟩) | q
  · exact .inl (.inl (k.2 _ _ (fun c => by subst c; rw [e] at q; cases q) q fun ps z => by cases z))
  · exact .inl (.inr ⟨o, k.2 _ _ (fun c => by subst c; rw [e] at q; cases q) q fun ps z => by cases z⟩)
  · exact .inr q
theorem KpN.isW {K : PySem.W.Frag} {b : Addr} {H H' : Hp} (h : Bag b H) (k : KpN b H H') {v : V} {ws : List Int} (q : IsW K H v ws) : IsW K H' v ws := let ⟨a, e, s⟩ := q; ⟨a, e, k.sqt h s⟩
theorem tabs_kp {T : List (Addr × Str)} {b : Addr} {H H' : Hp} (h : Bag b H) (k : Kp b H H') (t : Tabs T H) : Tabs T H' := by
  obtain ⟨x, y, z, e⟩ := h
  intro p hp
  obtain ⟨ps, h1, h2, h3⟩ := t p hp
  refine ⟨ps, k.2 _ _ (fun c => by rw [c, e] at h1; cases h1) h1, h2, fun pos cv hc => ?_⟩
  obtain ⟨c, e1, e2⟩ := h3 pos cv hc
  exact ⟨c, e1, k.2 _ _ (fun c' => by rw [c', e] at e2; unfold CodeO at e2; cases e2) e2⟩
theorem same_new2 {H : Hp} {x dx C : Addr} (nx : H x = none) (ndx : H dx = none) : Same H (upd (upd H dx (.own x)) x (.ins C dx [])) := fun b o e => by
  rw [upd_ne (ne_of_none e nx), upd_ne (ne_of_none e ndx)]
  exact e
/-- no number from lo to hi, whose text is that of z -/
structure BadN (K : PySem.W.Frag) (b : Addr) (H : Hp) (v : V) (lo hi : Int) (z : PyData) : Prop where
  num : ∀ H', KpN b H H' → NumV K H' v
  dp : ∀ H', KpN b H H' → Dp K H' v z
  no : numB v lo hi = false
  sh : Shows z
theorem BadN.to {K : PySem.W.Frag} {b : Addr} {H H1 : Hp} {v : V} {lo hi : Int} {z : PyData} (h : BadN K b H v lo hi z) (k : KpN b H H1) : BadN K b H1 v lo hi z :=
  ⟨fun H' k' => h.num H' (k.trans k'), fun H' k' => h.dp H' (k.trans k'), h.no, h.sh⟩
def sp_mak {K : PySem.W.Frag} {mg : Str → Option Value} (T : Txt K mg) : Sp := fun vs H Q _ => ∃ (b : Addr) (k : Int) (bv wv : V) (z : PyData) (ws : List Int), vs = [.ref b, .int k, bv, wv] ∧ Bag b H ∧ 1 ≤ k ∧ k ≤ 4 ∧ BadN K b H bv 1 4 z ∧ IsW K H wv ws ∧ okW k ws ∧ Tabs T.tabs H ∧
  ∀ H', KpN b H H' → Tabs T.tabs H' → Q (.bl true) H'
section
variable {P : Program} {w : World} {K : PySem.W.Frag} {mg : Str → Option Value} {base : Heap}
theorem ok__law_makings_right (T : Txt K mg) (TB : ∀ p ∈ T.cs, TabB base mg p.1 p.2) : FnG P w K mg base CX0 8 T.a__law_makings_right T.d__law_makings_right ["bag", "letters", "bad", "word"] (sp_mak T) := by
  refine Fun.okG T.F__law_makings_right sc__law_makings_right (fun vs H Q E h => ?_) (fun cdv A outer s H vs Q E hcd hg hr h => ?_)
  · obtain ⟨b, k, bv, wv, z, ws, rfl, _⟩ := h
    rfl
  · obtain ⟨b, k, bv, wv, z, ws, rfl, hb, k1, k4, hbad, hw, ow, ht, q⟩ := h
    refine ⟨_, (pss_cons (ps_set (i := 4) sc__law_makings_right.nd rfl (Or.inr rfl) (pe_call (ok__law_one_of T) (hr.mono (by decide)) rfl T.m__law_one_of T.F__law_one_of.kp T.b__law_one_of .nil pass0 (pa_cons (pv 0) (pa_cons (pe_lstS (pa_cons pe_non (pa_cons pe_int (pa_cons pe_str (pa_cons (pe_lstS (pa_cons pe_int pa_nil)) (pa_cons (pe_tupK (K := K) rfl (pa_cons (pv 1) pa_nil)) (pa_cons (pe_tupK (K := K) rfl (pa_cons (pe_un un_neg pe_int) pa_nil)) (pa_cons (pe_tupK (K := K) rfl (pa_cons pe_bl pa_nil)) (pa_cons (pe_tupK (K := K) rfl (pa_cons pe_int (pa_cons pe_non pa_nil))) (pa_cons (pe_op op_repS (pe_tupK (K := K) rfl (pa_cons pe_int pa_nil)) pe_int) (pa_cons pe_dnewK (pa_cons (pe_tupK (K := K) rfl (pa_cons (pe_tupK (K := K) rfl (pa_cons pe_int pa_nil)) pa_nil)) pa_nil)))))))))))) pa_nil)))) (pss_cons (ps_set (i := 5) sc__law_makings_right.nd rfl (Or.inl rfl) (pe_lstS (pa_cons (pe_lamF (k := 5) (T := T.tabs) (TT := TTm T) rfl T.m__law_met T.F__law_met T.b__law_met sc__law_met rfl (Or.inl rfl) (by refine met_gives (kk := 1) T rfl rfl ?_ ?_; exact hg; exact hr.mono (by decide)) (TB _ T.in__law_makings_right) (hcd.symm.trans T.hc__law_makings_right) T.on__law_makings_right T.un__law_makings_right (hr.mono (by decide)) (by exact lamS_by (sc := defScope s__law_makings_right) (by decide +kernel)) (fun A outer s H E f c' hr => (pe_makeK  (n := 2) T.mk_Endless (ok_Endless___init__ T) (hr.mono (by decide)) rfl T.mC_Endless T.kb_Endless (passE (takes_of rfl rfl rfl rfl)) (pa_cons (pv 2) (pa_cons (pv 4) pa_nil)) (pk_cons (pv 4) pk_nil)))) pa_nil))) (pss_cons (ps_expr (pe_bm PySem.F.plainAttrs_list PySem.F.slot_list_append PySem.F.type_list_append mt_append (pv 5) (pa_cons (pe_lamF (k := 5) (T := T.tabs) (TT := TTm T) rfl T.m__law_met T.F__law_met T.b__law_met sc__law_met rfl (Or.inl rfl) (by refine met_gives (kk := 1) T rfl rfl ?_ ?_; exact hg; exact hr.mono (by decide)) (TB _ T.in__law_makings_right) (hcd.symm.trans T.hc__law_makings_right) T.on__law_makings_right T.un__law_makings_right (hr.mono (by decide)) (by exact lamS_by (sc := defScope s__law_makings_right) (by decide +kernel)) (fun A outer s H E f c' hr => (pe_makeK  (n := 2) T.mk_Endless (ok_Endless___init__ T) (hr.mono (by decide)) rfl T.mC_Endless T.kb_Endless (passE (takes_of rfl rfl rfl rfl)) (pa_cons (pv 1) (pa_cons (pv 4) pa_nil)) (pk_cons (pv 4) pk_nil)))) pa_nil))) (pss_cons (ps_expr (pe_bm PySem.F.plainAttrs_list PySem.F.slot_list_append PySem.F.type_list_append mt_append (pv 5) (pa_cons (pe_lamF (k := 5) (T := T.tabs) (TT := TTm T) rfl T.m__law_met T.F__law_met T.b__law_met sc__law_met rfl (Or.inl rfl) (by refine met_gives (kk := 1) T rfl rfl ?_ ?_; exact hg; exact hr.mono (by decide)) (TB _ T.in__law_makings_right) (hcd.symm.trans T.hc__law_makings_right) T.on__law_makings_right T.un__law_makings_right (hr.mono (by decide)) (by exact lamS_by (sc := defScope s__law_makings_right) (by decide +kernel)) (fun A outer s H E f c' hr => (pe_makeK  (n := 2) T.mk_Endless (ok_Endless___init__ T) (hr.mono (by decide)) rfl T.mC_Endless T.kb_Endless (passE (takes_of rfl rfl rfl rfl)) (pa_cons (pv 1) (pa_cons (pe_tupK (K := K) rfl pa_nil) pa_nil)) (pk_cons (pv 4) pk_nil)))) pa_nil))) (pss_cons (ps_expr (pe_bm PySem.F.plainAttrs_list PySem.F.slot_list_append PySem.F.type_list_append mt_append (pv 5) (pa_cons (pe_lamF (k := 5) (T := T.tabs) (TT := TTm T) rfl T.m__law_met T.F__law_met T.b__law_met sc__law_met rfl (Or.inl rfl) (by refine met_gives (kk := 1) T rfl rfl ?_ ?_; exact hg; exact hr.mono (by decide)) (TB _ T.in__law_makings_right) (hcd.symm.trans T.hc__law_makings_right) T.on__law_makings_right T.un__law_makings_right (hr.mono (by decide)) (by exact lamS_by (sc := defScope s__law_makings_right) (by decide +kernel)) (fun A outer s H E f c' hr => (pe_makeK  (n := 2) T.mk_Endless (ok_Endless___init__ T) (hr.mono (by decide)) rfl T.mC_Endless T.kb_Endless (passE (takes_of rfl rfl rfl rfl)) (pa_cons (pv 1) (pa_cons (pe_tupK (K := K) rfl pa_nil) pa_nil)) (pk_cons (pv 3) pk_nil)))) pa_nil))) (pss_cons (ps_expr (pe_bm PySem.F.plainAttrs_list PySem.F.slot_list_append PySem.F.type_list_append mt_append (pv 5) (pa_cons (pe_lamF (k := 5) (T := T.tabs) (TT := TTm T) rfl T.m__law_met T.F__law_met T.b__law_met sc__law_met rfl (Or.inl rfl) (by refine met_gives (kk := 1) T rfl rfl ?_ ?_; exact hg; exact hr.mono (by decide)) (TB _ T.in__law_makings_right) (hcd.symm.trans T.hc__law_makings_right) T.on__law_makings_right T.un__law_makings_right (hr.mono (by decide)) (by exact lamS_by (sc := defScope s__law_makings_right) (by decide +kernel)) (fun A outer s H E f c' hr => (pe_makeK  (n := 2) T.mk_Endless (ok_Endless___init__ T) (hr.mono (by decide)) rfl T.mC_Endless T.kb_Endless (passE (takes_of rfl rfl rfl rfl)) (pa_cons (pv 1) (pa_cons (pe_op (op_repK (K := K) rfl) (pe_tupK (K := K) rfl (pa_cons pe_int pa_nil)) pe_int) pa_nil)) (pk_cons (pe_op (op_repK (K := K) rfl) (pe_tupK (K := K) rfl (pa_cons pe_int pa_nil)) pe_int) pk_nil)))) pa_nil))) (pss_cons (ps_expr (pe_bm PySem.F.plainAttrs_list PySem.F.slot_list_append PySem.F.type_list_append mt_append (pv 5) (pa_cons (pe_lamF (k := 4) (T := T.tabs) (TT := TTm T) rfl T.m__law_met T.F__law_met T.b__law_met sc__law_met rfl (Or.inl rfl) (by refine met_gives (kk := 1) T rfl rfl ?_ ?_; exact hg; exact hr.mono (by decide)) (TB _ T.in__law_makings_right) (hcd.symm.trans T.hc__law_makings_right) T.on__law_makings_right T.un__law_makings_right (hr.mono (by decide)) (by exact lamS_by (sc := defScope s__law_makings_right) (by decide +kernel)) (fun A outer s H E f c' hr => (pe_call (ok_root_of T) (hr.mono (by decide)) rfl T.m_root_of T.F_root_of.kp T.b_root_of .nil (passE (takes_of rfl rfl rfl rfl)) (pa_cons (pv 2) (pa_cons (pv 4) pa_nil))))) pa_nil))) (pss_cons (ps_expr (pe_bm PySem.F.plainAttrs_list PySem.F.slot_list_append PySem.F.type_list_append mt_append (pv 5) (pa_cons (pe_lamF (k := 4) (T := T.tabs) (TT := TTm T) rfl T.m__law_met T.F__law_met T.b__law_met sc__law_met rfl (Or.inl rfl) (by refine met_gives (kk := 1) T rfl rfl ?_ ?_; exact hg; exact hr.mono (by decide)) (TB _ T.in__law_makings_right) (hcd.symm.trans T.hc__law_makings_right) T.on__law_makings_right T.un__law_makings_right (hr.mono (by decide)) (by exact lamS_by (sc := defScope s__law_makings_right) (by decide +kernel)) (fun A outer s H E f c' hr => (pe_call (ok_root_of T) (hr.mono (by decide)) rfl T.m_root_of T.F_root_of.kp T.b_root_of .nil (passE (takes_of rfl rfl rfl rfl)) (pa_cons (pv 1) (pa_cons (pv 4) pa_nil))))) pa_nil))) (pss_cons (ps_expr (pe_bm PySem.F.plainAttrs_list PySem.F.slot_list_append PySem.F.type_list_append mt_append (pv 5) (pa_cons (pe_lamF (k := 4) (T := T.tabs) (TT := TTm T) rfl T.m__law_met T.F__law_met T.b__law_met sc__law_met rfl (Or.inl rfl) (by refine met_gives (kk := 1) T rfl rfl ?_ ?_; exact hg; exact hr.mono (by decide)) (TB _ T.in__law_makings_right) (hcd.symm.trans T.hc__law_makings_right) T.on__law_makings_right T.un__law_makings_right (hr.mono (by decide)) (by exact lamS_by (sc := defScope s__law_makings_right) (by decide +kernel)) (fun A outer s H E f c' hr => (pe_call (ok_root_of T) (hr.mono (by decide)) rfl T.m_root_of T.F_root_of.kp T.b_root_of .nil (passE (takes_of rfl rfl rfl rfl)) (pa_cons (pv 1) (pa_cons (pe_tupK (K := K) rfl pa_nil) pa_nil))))) pa_nil))) (pss_cons (ps_set (i := 6) sc__law_makings_right.nd rfl (Or.inl rfl) (pe_tupK (K := K) rfl (pa_cons pe_str (pa_cons pe_str (pa_cons (pe_callB (call_reprD hg hr.units) rfl T.n_repr (by decide +kernel) (pa_cons (pv 2) pa_nil)) pa_nil))))) (pss_one (ps_ret (pe_cmpR (op_eqD hr.units) (pv 5) (pe_lstS (pa_cons (pv 6) (pa_cons (pe_tupK (K := K) rfl (pa_cons pe_str (pa_cons pe_str pa_nil))) (pa_cons (pe_tupK (K := K) rfl (pa_cons pe_str (pa_cons pe_str pa_nil))) (pa_cons (pe_tupK (K := K) rfl (pa_cons pe_str (pa_cons pe_str pa_nil))) (pa_cons (pe_tupK (K := K) rfl (pa_cons pe_str pa_nil)) (pa_cons (pv 6) (pa_cons (pe_tupK (K := K) rfl (pa_cons pe_str (pa_cons pe_str pa_nil))) (pa_cons (pe_tupK (K := K) rfl (pa_cons pe_str (pa_cons pe_str pa_nil))) pa_nil))))))))) (nomark _)))))))))))))), ?_⟩
    refine ⟨_, rfl, by show 1 ≤ sizeLine; decide, fun H1 l1 s1 n1 e1 => ?_⟩
    refine ⟨_, rfl, by show 1 ≤ sizeLine; decide, fun H2 p2 s2 h2 => ?_⟩
    refine ⟨_, rfl, by show 1 ≤ sizeLine; decide, fun H3 p3 s3 h3 => ?_⟩
    refine ⟨by show 1 ≤ sizeLine; decide, fun H4 p4 s4 h4 => ?_⟩
    refine ⟨by show 2 ≤ sizeLine; decide, fun H5 p5 s5 h5 => ?_⟩
    refine ⟨by show 1 ≤ sizeLine; decide, fun H6 p6 s6 h6 => ?_⟩
    refine ⟨p6, _, _, rfl, rfl, h6, by decide, by decide, by decide, fun H7 p7 s7 h7 => ?_⟩
    intro d hd
    refine ⟨by show 1 ≤ sizeLine; decide, fun H8 p8 s8 h8 => ?_⟩
    refine ⟨by show 1 ≤ sizeLine; decide, fun H9 p9 s9 h9 => ?_⟩
    refine ⟨by show 11 ≤ sizeLine; decide, fun HA la sA nA eA => ?_⟩
    have c9 := sA
    have c8 := Same.trans s9 c9
    have cd := Same.trans s8 c8
    have c7 := Same.trans (same_upd hd (.dK [])) cd
    have c6 := Same.trans s7 c7
    have c5 := Same.trans s6 c6
    have c4 := Same.trans s5 c5
    have c3 := Same.trans s4 c4
    have c2 := Same.trans s3 c3
    have c1 := Same.trans s2 c2
    have s1A := Same.trans s1 c1
    have bA : Bag b HA := hb.same s1A
    have old {a : Addr} {G : Hp} (s : Same H G) (n : G a = none) : a ≠ b := ne_bag (hb.same s) n
    have s07 : Same H H7 := Same.trans s1 (Same.trans s2 (Same.trans s3 (Same.trans s4 (Same.trans s5 (Same.trans s6 s7)))))
    have s09 : Same H H9 := Same.trans s07 (Same.trans (same_upd hd (.dK [])) (Same.trans s8 s9))
    refine ⟨b, la, _, rfl, bA, old s09 nA, eA, by show 0 < 11; decide, by show 11 < 1000; decide, fun HB v kB hv => ?_⟩
    have xs {a : Addr} {xs : List V} {G : Hp} (s : Same G HA) (h : SqT K G a xs) : SqT K HB a xs := (KpN.of kB).sqt bA (Same.sqt s h)
    have hv : SpV K HB v k 200 false := by
      simp only [List.mem_cons, List.not_mem_nil, or_false] at hv
      rcases hv with rfl | rfl | rfl | rfl | rfl | rfl | rfl | rfl | rfl | rfl | rfl
      · exact sv_non
      · exact sv_int _
      · exact sv_str _
      · exact sv_lst (kB.2 _ _ (old (Same.refl H) n1) (c1 _ _ e1))
      · exact sv_tup (xs c2 h2) (by show 1 ≤ 1000; decide) (by intro x hx; rw [List.mem_singleton.mp hx]; exact nv_int _) (spelled_bad List.mem_cons_self (numB_top k))
      · exact sv_tup (xs c3 h3) (by decide) (by intro x hx; rw [List.mem_singleton.mp hx]; exact nv_int _) (spelled_bad List.mem_cons_self (by simp [numB]))
      · exact sv_tup (xs c4 h4) (by decide) (by intro x hx; rw [List.mem_singleton.mp hx]; exact nv_bl _) (spelled_bad List.mem_cons_self rfl)
      · refine sv_tup (xs c5 h5) (by decide) (fun x hx => ?_) (spelled_bad (.tail _ List.mem_cons_self) rfl)
        rcases List.mem_cons.mp hx with rfl | hx
        · exact nv_int _
        · rw [List.mem_singleton.mp hx]; exact nv_non
      · have h7' := xs c7 h7
        rw [zeros_v] at h7'
        refine sv_tup h7' (by rw [zeros_len]; decide) (fun x hx => ?_) (spelled_long (by rw [zeros_len]; decide))
        obtain ⟨i, _, rfl⟩ := List.mem_map.mp hx
        exact nv_int _
      · exact sv_dK (kB.2 _ _ (old s07 hd) (cd _ _ upd_same))
      · exact sv_tup (xs c9 h9) (by show 1 ≤ 1000; decide) (by intro x hx; rw [List.mem_singleton.mp hx]; exact nv_tup (xs c8 h8)) (spelled_bad List.mem_cons_self rfl)
    have H0B : KpN b H HB := (KpN.ext hb (Same.ext s1A)).trans (KpN.of kB)
    have tB : Tabs T.tabs HB := tabs_kp bA kB (ht.ext s1A)
    have bd := hbad.to H0B
    have bB := kB.1
    -- Endless(bad, none, tail=none)
    refine ⟨tB, fun L1 x1 t1 => ?_⟩
    refine ⟨_, rfl, _, rfl, _, rfl, rfl, rfl, fun x dx nx ndx ne => ?_⟩
    have sM := same_new2 (C := T.C_Endless) nx ndx
    refine ⟨x, dx, bv, v, v, rfl, upd_same, bd.num _ (KpN.ext bB (x1.trans (Same.ext sM))), fun _ => mNum (t1.ext sM) (bd.dp _ (KpN.ext bB (x1.trans (Same.ext sM)))) bd.sh (GotN.to (tl_first fun l M1 tl1 => ?_) (x1.trans (Same.ext sM))), fun k' ek a1 a4 => ?_⟩
    rotate_left
    · have := bd.no
      rw [ek, num_of a1 a4] at this
      cases this
    clear x1 t1 nx ndx ne sM x dx L1
    have noN : numB (.int k) 1 4 = false → False := fun e => by rw [num_of k1 k4] at e; cases e
    have nilW {G : Hp} {p : Addr} (h : SqT K G p []) : SpV K G (.ref p) k 200 true := spv_of (ws := []) ⟨p, rfl, h⟩ ⟨by decide, fun n hn => by cases hn⟩
    -- Endless(letters, none, tail=none)
    refine ⟨_, rfl, .inl ⟨rfl, _, SqL.of tl1.lst.choose_spec.1⟩, tl1.tab, fun L1 x1 t1 => ?_⟩
    refine ⟨_, rfl, _, rfl, _, rfl, rfl, rfl, fun x dx nx ndx ne => ?_⟩
    have sM := same_new2 (C := T.C_Endless) nx ndx
    have e1M := x1.trans (Same.ext sM)
    refine ⟨x, dx, .int k, v, v, rfl, upd_same, nv_int k, fun e => (noN e).elim, fun k' ek a1 a4 => ?_⟩
    cases ek
    refine ⟨false, hv.ext (tl1.ext.trans e1M), fun _ => mWord (t1.ext sM) (GotN.to (tl1.more (by simp) fun M2 tl2 => ?_) e1M), fun z => by cases z⟩
    clear x1 t1 nx ndx ne sM e1M x dx L1 a1 a4
    -- Endless(letters, (), tail=none)
    refine ⟨_, rfl, .inl ⟨rfl, _, SqL.of tl2.lst.choose_spec.1⟩, tl2.tab, fun L1 x1 t1 => ?_⟩
    refine ⟨_, rfl, by show 0 ≤ sizeLine; decide, fun L2 p s2 hp => ?_⟩
    refine ⟨_, rfl, rfl, rfl, fun x dx nx ndx ne => ?_⟩
    have sM := Same.trans s2 (same_new2 (C := T.C_Endless) nx ndx)
    have e1M := x1.trans (Same.ext sM)
    refine ⟨x, dx, .int k, .ref p, v, rfl, upd_same, nv_int k, fun e => (noN e).elim, fun k' ek a1 a4 => ?_⟩
    cases ek
    refine ⟨true, nilW (Same.sqt (same_new2 nx ndx) hp), fun z => (by cases z), fun _ => ⟨false, hv.ext (tl2.ext.trans e1M), fun _ => mWord (t1.ext sM) (GotN.to (tl2.more (by simp) fun M3 tl3 => ?_) e1M), fun z => by cases z⟩⟩
    clear x1 t1 nx ndx ne sM e1M x dx L1 a1 a4 hp s2 p L2
    -- Endless(letters, (), tail=word)
    refine ⟨_, rfl, .inl ⟨rfl, _, SqL.of tl3.lst.choose_spec.1⟩, tl3.tab, fun L1 x1 t1 => ?_⟩
    refine ⟨_, rfl, by show 0 ≤ sizeLine; decide, fun L2 p s2 hp => ?_⟩
    refine ⟨_, rfl, rfl, rfl, fun x dx nx ndx ne => ?_⟩
    have sM := Same.trans s2 (same_new2 (C := T.C_Endless) nx ndx)
    have e1M := x1.trans (Same.ext sM)
    have hwB := ext_isW (tl3.ext.trans e1M) (H0B.isW hb hw)
    have hpM := Same.sqt (same_new2 (C := T.C_Endless) nx ndx) hp
    refine ⟨x, dx, .int k, .ref p, wv, rfl, upd_same, nv_int k, fun e => (noN e).elim, fun k' ek a1 a4 => ?_⟩
    cases ek
    refine ⟨true, nilW hpM, fun z => (by cases z), fun _ => ⟨true, spv_of hwB ow, fun z => (by cases z), fun _ => ⟨[], ws, ⟨p, rfl, hpM⟩, hwB, ⟨by decide, fun n hn => by cases hn⟩, ow, fun _ => mOpr (t1.ext sM) (GotN.to (tl3.more (by simp) fun M4 tl4 => ?_) e1M), fun z => (z rfl).elim⟩⟩⟩
    clear x1 t1 nx ndx ne sM e1M x dx L1 a1 a4 hwB hpM hp s2 p L2
    -- Endless(letters, (0,) * 200, tail=(0,) * 200)
    refine ⟨_, rfl, .inl ⟨rfl, _, SqL.of tl4.lst.choose_spec.1⟩, tl4.tab, fun L1 x1 t1 => ?_⟩
    refine ⟨_, rfl, by show 1 ≤ sizeLine; decide, fun L2 p s2 hp => ?_⟩
    refine ⟨p, _, _, rfl, rfl, hp, by decide, by decide, by decide, fun L3 r s3 hr3 => ?_⟩
    refine ⟨by show 1 ≤ sizeLine; decide, fun L4 p4 s4 hp4 => ?_⟩
    refine ⟨p4, _, _, rfl, rfl, hp4, by decide, by decide, by decide, fun L5 r5 s5 hr5 => ?_⟩
    refine ⟨rfl, rfl, fun x dx nx ndx ne => ?_⟩
    rw [zeros_v] at hr3 hr5
    have sN := same_new2 (C := T.C_Endless) nx ndx
    have s15 := Same.trans s2 (Same.trans s3 (Same.trans s4 s5))
    have hr3 := Same.sqt (Same.trans s4 (Same.trans s5 sN)) hr3
    have hr5 := Same.sqt sN hr5
    have o200 : okW k (List.replicate 200 (0 : Int)) := ⟨by rw [List.length_replicate]; decide, fun n hn => by rw [List.eq_of_mem_replicate hn]; omega⟩
    refine ⟨x, dx, .int k, .ref r, .ref r5, rfl, upd_same, nv_int k, fun e => (noN e).elim, fun k' ek a1 a4 => ?_⟩
    cases ek
    refine ⟨true, spv_of ⟨r, rfl, hr3⟩ o200, fun z => (by cases z), fun _ => ⟨true, spv_of ⟨r5, rfl, hr5⟩ o200, fun z => (by cases z), fun _ => ⟨_, _, ⟨r, rfl, hr3⟩, ⟨r5, rfl, hr5⟩, o200, o200, fun z => ?_, fun _ M rv' tv' bM _ _ _ => ⟨rfl, ?_⟩⟩⟩⟩
    · exact absurd (congrArg List.length z) (by rw [List.length_replicate]; decide)
    have s1M : Same L1 M := fun b o e => bM b o (ne_of_none (s15 b o e) nx) (sN b o (s15 b o e))
    refine GotN.fine (tl4.more (by simp) fun M5 tl5 => ?_) (x1.trans (Same.ext s1M)) (t1.ext s1M)
    clear x1 t1 nx ndx ne sN s1M a1 a4 hr3 hr5 s15 bM
    -- root_of(bad, none)
    refine ⟨_, rfl, .inl ⟨rfl, _, SqL.of tl5.lst.choose_spec.1⟩, tl5.tab, fun L1 x1 t1 => ?_⟩
    have kB1 := KpN.ext bB (tl5.ext.trans x1)
    refine ⟨_, rfl, _, rfl, bv, v, rfl, bd.num _ kB1, fun _ => mNum t1 (bd.dp _ kB1) bd.sh (GotN.to (tl5.more (by simp) fun M6 tl6 => ?_) x1), fun k' ek a1 a4 => ?_⟩
    rotate_left
    · have := bd.no
      rw [ek, num_of a1 a4] at this
      cases this
    clear x1 t1 L1 kB1
    -- root_of(letters, none)
    refine ⟨_, rfl, .inl ⟨rfl, _, SqL.of tl6.lst.choose_spec.1⟩, tl6.tab, fun L1 x1 t1 => ?_⟩
    refine ⟨_, rfl, _, rfl, .int k, v, rfl, nv_int k, fun e => (noN e).elim, fun k' ek a1 a4 => ?_⟩
    cases ek
    refine ⟨false, hv.ext (tl6.ext.trans x1), fun _ => mWord t1 (GotN.to (tl6.more (by simp) fun M7 tl7 => ?_) x1), fun z => by cases z⟩
    clear x1 t1 L1 a1 a4
    -- root_of(letters, ())
    refine ⟨_, rfl, .inl ⟨rfl, _, SqL.of tl7.lst.choose_spec.1⟩, tl7.tab, fun L1 x1 t1 => ?_⟩
    refine ⟨_, rfl, by show 0 ≤ sizeLine; decide, fun L2 p s2 hp => ?_⟩
    refine ⟨.int k, .ref p, rfl, nv_int k, fun e => (noN e).elim, fun k' ek a1 a4 => ?_⟩
    cases ek
    refine ⟨true, nilW hp, fun z => (by cases z), fun _ => ⟨⟨p, rfl, hp⟩, mOpr (t1.ext s2) (GotN.to (tl7.more (by simp) fun M8 tl8 => ?_) (x1.trans (Same.ext s2)))⟩⟩
    clear x1 t1 L1 a1 a4 hp s2 p L2
    -- number = ('refused', 'number', repr(bad))
    have k8 := KpN.ext bB tl8.ext
    refine ⟨_, rfl, bv, z, rfl, bd.dp _ k8, bd.sh, by show 3 ≤ sizeLine; decide, fun N0 pn sn hn => ?_⟩
    refine ⟨_, rfl, _, rfl, by show 2 ≤ sizeLine; decide, fun N1 p1 r1 g1 => ⟨by show 2 ≤ sizeLine; decide, fun N2 p2 r2 g2 => ⟨by show 2 ≤ sizeLine; decide, fun N3 p3 r3 g3 => ⟨by show 1 ≤ sizeLine; decide, fun N4 p4 r4 g4 => ?_⟩⟩⟩⟩
    refine ⟨_, rfl, by show 2 ≤ sizeLine; decide, fun N5 p5 r5 g5 => ⟨by show 2 ≤ sizeLine; decide, fun N6 p6 r6 g6 => ⟨by show 8 ≤ sizeLine; decide, fun N7 p7 r7 n7 g7 => ?_⟩⟩⟩
    have z7 := r7
    have z6 := Same.trans r6 z7
    have z5 := Same.trans r5 z6
    have z4 := Same.trans r4 z5
    have z3 := Same.trans r3 z4
    have z2 := Same.trans r2 z3
    have z1 := Same.trans r1 z2
    have z0 := Same.trans sn z1
    obtain ⟨vs, hl8, hs8⟩ := tl8.at_
    have hl7 := z0 _ _ hl8
    have st : ∀ a xs, SqT K M8 a xs → SqT K N7 a xs := fun a xs h => Same.sqt z0 h
    have two : IsSts K N7 _ [["refused", "number", z.shown], ["refused", "word"], ["refused", "word"], ["refused", "operation"], ["fine"], ["refused", "number", z.shown], ["refused", "word"], ["refused", "operation"]] :=
      .cons ⟨pn, rfl, Same.sqt z1 hn⟩ (.cons ⟨p1, rfl, Same.sqt z2 g1⟩ (.cons ⟨p2, rfl, Same.sqt z3 g2⟩ (.cons ⟨p3, rfl, Same.sqt z4 g3⟩ (.cons ⟨p4, rfl, Same.sqt z5 g4⟩ (.cons ⟨pn, rfl, Same.sqt z1 hn⟩ (.cons ⟨p5, rfl, Same.sqt z6 g5⟩ (.cons ⟨p6, rfl, Same.sqt z7 g6⟩ .nil)))))))
    have lay : ∀ l ∈ ([["refused", "number", z.shown], ["refused", "word"], ["refused", "word"], ["refused", "operation"], ["fine"], ["refused", "number", z.shown], ["refused", "word"], ["refused", "operation"]] : List (List Str)), ∀ x ∈ l, (PyData.str x).canLay0 = true := by
      have hz := bd.sh.2.2.2.2
      have e1 : (PyData.str "refused").canLay0 = true := by decide +kernel
      have e2 : (PyData.str "number").canLay0 = true := by decide +kernel
      have e3 : (PyData.str "word").canLay0 = true := by decide +kernel
      have e4 : (PyData.str "operation").canLay0 = true := by decide +kernel
      have e5 : (PyData.str "fine").canLay0 = true := by decide +kernel
      simp only [List.mem_cons, List.not_mem_nil, or_false, forall_eq_or_imp, forall_eq]
      exact ⟨⟨e1, e2, hz⟩, ⟨e1, e3⟩, ⟨e1, e3⟩, ⟨e1, e4⟩, e5, ⟨e1, e2, hz⟩, ⟨e1, e3⟩, e1, e4⟩
    have hs9 : IsSts K N7 vs [["refused", "number", z.shown], ["refused", "word"], ["refused", "word"], ["refused", "operation"], ["fine"], ["refused", "number", z.shown], ["refused", "word"], ["refused", "operation"]] := hs8.to st
    refine ⟨_, _, IsSts.dp (SqL.of hl7) hs9, IsSts.dp (SqL.of g7) two, shaped_sts lay, shaped_sts lay, ?_⟩
    have eq8 := eqv_sts lay
    show Q (.bl (PyData.eqv (dSts _) (dSts _))) N7
    rw [eq8]
    exact q N7 (H0B.trans (KpN.ext bB (tl8.ext.trans (Same.ext z0)))) (tl8.tab.ext z0)
end
end K06
/-! K06j -/
set_option Elab.async false
set_option linter.all false
set_option maxRecDepth 100000
set_option maxHeartbeats 2000000
namespace K06
open PySem PySem.Spec PyProof.Rows L2 PpSet RL LamX
/-- some value that is no number from lo to hi, and its text -/
def BadS (K : PySem.W.Frag) (b : Addr) (H : Hp) (v : V) (lo hi : Int) : Prop := ∃ z, BadN K b H v lo hi z
section
variable {K : PySem.W.Frag} {b : Addr} {H H' : Hp} {lo hi : Int}
theorem bs_non : BadS K b H .non lo hi := ⟨_, fun _ _ => nv_non, fun _ _ => .non, rfl, by decide +kernel⟩
theorem bs_bl : BadS K b H (.bl true) lo hi := ⟨_, fun _ _ => nv_bl _, fun _ _ => .bl _, rfl, by decide +kernel⟩
theorem bs_str {x : Str} (h : Shows (.str x)) : BadS K b H (.str x) lo hi := ⟨_, fun _ _ => nv_str _, fun _ _ => .str _, rfl, h⟩
theorem bs_int {i : Int} (h : Shows (.int i)) (n : numB (.int i) lo hi = false) : BadS K b H (.int i) lo hi := ⟨_, fun _ _ => nv_int _, fun _ _ => .int _, n, h⟩
theorem bs_tup {a : Addr} {i : Int} (hb : Bag b H) (e : SqT K H a [.int i]) (h : Shows (.tuple [.int i])) : BadS K b H (.ref a) lo hi :=
  ⟨_, fun _ k => nv_tup (k.sqt hb e), fun _ k => .tup (k.sqt hb e) (.cons (.int i) .nil), rfl, h⟩
theorem bs_lst {a : Addr} {i : Int} (n : a ≠ b) (e : H a = some (.lst [.int i])) (h : Shows (.list [.int i])) : BadS K b H (.ref a) lo hi := by
  have st : ∀ G, KpN b H G → G a = some (.lst [.int i]) := fun G k => k.2 _ _ n e fun ps z => by cases z
  exact ⟨_, fun G k => .inr (.inr ⟨nofun, nofun, _, .base (.lst (st G k)), kit_ty (by decide +kernel)⟩), fun G k => .lst (SqL.of (st G k)) (.cons (.int i) .nil), rfl, h⟩
end
theorem EndAt.kpn {K : PySem.W.Frag} {C : Addr} {b : Addr} {H H' : Hp} {v : V} {k : Int} {r t : List Int} (hb : Bag b H) (h : EndAt K C H v k r t) (s : KpN b H H') : EndAt K C H' v k r t := by
  obtain ⟨p, dx, rv, tv, e, h1, h2, h3⟩ := h
  have n : p ≠ b := fun z => by
    obtain ⟨x, y, w, q⟩ := hb
    rw [z, q] at h1
    cases h1
  exact ⟨p, dx, rv, tv, e, s.2 _ _ n h1 fun ps z => (by cases z), s.isW hb h2, s.isW hb h3⟩
def sp_mth {K : PySem.W.Frag} {mg : Str → Option Value} (T : Txt K mg) : Sp := fun vs H Q _ => ∃ (b : Addr) (k : Int) (hv : V) (r t : List Int), vs = [.ref b, .int k, hv] ∧ Bag b H ∧ 1 ≤ k ∧ k ≤ 4 ∧ EndAt K T.C_Endless H hv k r t ∧ r ≠ [] ∧ r.length ≤ 1000 ∧ t.length ≤ 1000 ∧ Tabs T.tabs H ∧
  ∀ H', KpN b H H' → Tabs T.tabs H' → Q (.bl true) H'
section
variable {P : Program} {w : World} {K : PySem.W.Frag} {mg : Str → Option Value} {base : Heap}
theorem ok__law_methods_right (T : Txt K mg) (TB : ∀ p ∈ T.cs, TabB base mg p.1 p.2) : FnG P w K mg base CX0 7 T.a__law_methods_right T.d__law_methods_right ["bag", "letters", "here"] (sp_mth T) := by
  refine Fun.okG T.F__law_methods_right sc__law_methods_right (fun vs H Q E h => ?_) (fun cdv A outer s H vs Q E hcd hg hr h => ?_)
  · obtain ⟨b, k, hv, r, t, rfl, _⟩ := h
    rfl
  · obtain ⟨b, k, hv, r, t, rfl, hb, k1, k4, hh, hne, zr, zt, ht, q⟩ := h
    refine ⟨_, (pss_cons (ps_set (i := 3) sc__law_methods_right.nd rfl (Or.inr rfl) (pe_call (ok__law_one_of T) (hr.mono (by decide)) rfl T.m__law_one_of T.F__law_one_of.kp T.b__law_one_of .nil pass0 (pa_cons (pv 0) (pa_cons (pe_lstS (pa_cons pe_non (pa_cons (pe_un un_neg pe_int) (pa_cons pe_int (pa_cons pe_bl (pa_cons pe_str (pa_cons (pe_tupK (K := K) rfl (pa_cons pe_int pa_nil)) (pa_cons (pe_op op_pow pe_int pe_int) (pa_cons (pe_op op_sub pe_int (pe_op op_pow pe_int pe_int)) pa_nil))))))))) pa_nil)))) (pss_cons (ps_set (i := 4) sc__law_methods_right.nd rfl (Or.inr rfl) (pe_call (ok__law_one_of T) (hr.mono (by decide)) rfl T.m__law_one_of T.F__law_one_of.kp T.b__law_one_of .nil pass0 (pa_cons (pv 0) (pa_cons (pe_lstS (pa_cons (pe_tupK (K := K) rfl (pa_cons (pv 1) pa_nil)) (pa_cons (pe_tupK (K := K) rfl (pa_cons (pe_un un_neg pe_int) pa_nil)) (pa_cons (pe_tupK (K := K) rfl (pa_cons pe_bl pa_nil)) (pa_cons (pe_tupK (K := K) rfl (pa_cons pe_int (pa_cons pe_non pa_nil))) (pa_cons (pe_op op_repS (pe_tupK (K := K) rfl (pa_cons pe_int pa_nil)) pe_int) (pa_cons (pe_tupK (K := K) rfl (pa_cons (pe_tupK (K := K) rfl (pa_cons pe_int pa_nil)) pa_nil)) pa_nil))))))) pa_nil)))) (pss_cons (ps_set (i := 5) sc__law_methods_right.nd rfl (Or.inl rfl) (pe_lstS (pa_cons (pe_lamF (k := 4) (T := T.tabs) (TT := TTm T) rfl T.m__law_met T.F__law_met T.b__law_met sc__law_met rfl (Or.inl rfl) (by refine met_gives (kk := 1) T rfl rfl ?_ ?_; exact hg; exact hr.mono (by decide)) (TB _ T.in__law_methods_right) (hcd.symm.trans T.hc__law_methods_right) T.on__law_methods_right T.un__law_methods_right (hr.mono (by decide)) (by exact lamS_by (sc := defScope s__law_methods_right) (by decide +kernel)) (fun A outer s H E f c' hr => (pe_meth  (pv 2) T.c_Endless T.mt_Endless_end (ok_Endless_end T) (hr.mono (by decide)) T.b_Endless_end .nil (passE (takes_of rfl rfl rfl rfl)) (pa_cons (pv 3) pa_nil)))) pa_nil))) (pss_cons (ps_expr (pe_bm PySem.F.plainAttrs_list PySem.F.slot_list_append PySem.F.type_list_append mt_append (pv 5) (pa_cons (pe_lamF (k := 4) (T := T.tabs) (TT := TTm T) rfl T.m__law_met T.F__law_met T.b__law_met sc__law_met rfl (Or.inl rfl) (by refine met_gives (kk := 1) T rfl rfl ?_ ?_; exact hg; exact hr.mono (by decide)) (TB _ T.in__law_methods_right) (hcd.symm.trans T.hc__law_methods_right) T.on__law_methods_right T.un__law_methods_right (hr.mono (by decide)) (by exact lamS_by (sc := defScope s__law_methods_right) (by decide +kernel)) (fun A outer s H E f c' hr => (pe_meth  (pv 2) T.c_Endless T.mt_Endless_end (ok_Endless_end T) (hr.mono (by decide)) T.b_Endless_end .nil (passE (takes_of rfl rfl rfl rfl)) (pa_cons pe_int pa_nil)))) pa_nil))) (pss_cons (ps_expr (pe_bm PySem.F.plainAttrs_list PySem.F.slot_list_append PySem.F.type_list_append mt_append (pv 5) (pa_cons (pe_lamF (k := 4) (T := T.tabs) (TT := TTm T) rfl T.m__law_met T.F__law_met T.b__law_met sc__law_met rfl (Or.inl rfl) (by refine met_gives (kk := 1) T rfl rfl ?_ ?_; exact hg; exact hr.mono (by decide)) (TB _ T.in__law_methods_right) (hcd.symm.trans T.hc__law_methods_right) T.on__law_methods_right T.un__law_methods_right (hr.mono (by decide)) (by exact lamS_by (sc := defScope s__law_methods_right) (by decide +kernel)) (fun A outer s H E f c' hr => (pe_op (op_addK (K := K) rfl  T.sf_Endless T.add_Endless T.addf_Endless (ok_Endless___add__ T) (hr.mono (by decide)) T.b_Endless___add__ (passE (takes_of rfl rfl rfl rfl))) (pv 2) (pv 4)))) pa_nil))) (pss_one (ps_ret (pe_cmpR (op_eqD hr.units) (pv 5) (pe_lstS (pa_cons (pe_tupK (K := K) rfl (pa_cons pe_str (pa_cons pe_str (pa_cons (pe_callB (call_reprD hg hr.units) rfl T.n_repr (by decide +kernel) (pa_cons (pv 3) pa_nil)) pa_nil)))) (pa_cons (pe_tupK (K := K) rfl (pa_cons pe_str pa_nil)) (pa_cons (pe_tupK (K := K) rfl (pa_cons pe_str (pa_cons pe_str pa_nil))) pa_nil)))) (nomark _))))))))), ?_⟩
    -- many
    refine ⟨_, rfl, _, rfl, by show 1 ≤ sizeLine; decide, fun H1 p1 s1 h1 => ?_⟩
    refine ⟨_, _, rfl, rfl, ⟨by decide, by decide, by decide⟩, _, _, rfl, rfl, ⟨by decide, by decide, by decide⟩, _, _, rfl, rfl, ?_⟩
    refine ⟨by show 8 ≤ sizeLine; decide, fun HA la sA nA eA => ?_⟩
    have s1A := Same.trans s1 sA
    have bA : Bag b HA := hb.same s1A
    refine ⟨b, la, _, rfl, bA, ne_bag (hb.same s1) nA, eA, by show 0 < 8; decide, by show 8 < 1000; decide, fun HB v kB hm => ?_⟩
    replace hm : BadS K b HB v 0 1000 := by
      simp only [List.mem_cons, List.not_mem_nil, or_false] at hm
      rcases hm with rfl | rfl | rfl | rfl | rfl | rfl | rfl | rfl
      · exact bs_non
      · exact bs_int (by decide +kernel) (by decide)
      · exact bs_int (by decide +kernel) (by decide)
      · exact bs_bl
      · exact bs_str (by decide +kernel)
      · exact bs_tup kB.1 ((KpN.of kB).sqt bA (Same.sqt sA h1)) (by decide +kernel)
      · exact bs_int (by decide +kernel) (by decide +kernel)
      · exact bs_int (by decide +kernel) (by decide +kernel)
    obtain ⟨z, hz⟩ := hm
    have hHB : KpN b H HB := (KpN.ext hb (Same.ext s1A)).trans (KpN.of kB)
    have tB : Tabs T.tabs HB := tabs_kp bA kB (ht.ext s1A)
    have hhB := hh.kpn hb hHB
    have bB := kB.1
    clear kB bA s1A sA nA eA la h1 s1 p1 H1 HA
    -- wrong
    refine ⟨_, rfl, _, rfl, by show 1 ≤ sizeLine; decide, fun H2 p2 s2 h2 => ?_⟩
    refine ⟨_, rfl, by show 1 ≤ sizeLine; decide, fun H3 p3 s3 h3 => ?_⟩
    refine ⟨by show 1 ≤ sizeLine; decide, fun H4 p4 s4 h4 => ?_⟩
    refine ⟨by show 2 ≤ sizeLine; decide, fun H5 p5 s5 h5 => ?_⟩
    refine ⟨by show 1 ≤ sizeLine; decide, fun H6 p6 s6 h6 => ?_⟩
    refine ⟨p6, _, _, rfl, rfl, h6, by decide, by decide, by decide, fun H7 p7 s7 h7 => ?_⟩
    refine ⟨by show 1 ≤ sizeLine; decide, fun H8 p8 s8 h8 => ?_⟩
    refine ⟨by show 1 ≤ sizeLine; decide, fun H9 p9 s9 h9 => ?_⟩
    refine ⟨by show 6 ≤ sizeLine; decide, fun HA la sA nA eA => ?_⟩
    have c9 := sA
    have c8 := Same.trans s9 c9
    have c7 := Same.trans s8 c8
    have c6 := Same.trans s7 c7
    have c5 := Same.trans s6 c6
    have c4 := Same.trans s5 c5
    have c3 := Same.trans s4 c4
    have c2 := Same.trans s3 c3
    have sBA := Same.trans s2 c2
    have s29 := Same.trans s2 (Same.trans s3 (Same.trans s4 (Same.trans s5 (Same.trans s6 (Same.trans s7 (Same.trans s8 s9))))))
    have bA : Bag b HA := bB.same sBA
    refine ⟨b, la, _, rfl, bA, ne_bag (bB.same s29) nA, eA, by show 0 < 6; decide, by show 6 < 1000; decide, fun HC u kC hu => ?_⟩
    have xs {a : Addr} {xs : List V} {G : Hp} (s : Same G HA) (h : SqT K G a xs) : SqT K HC a xs := (KpN.of kC).sqt bA (Same.sqt s h)
    replace hu : SpV K HC u k 200 false ∧ TyX K HC u (.type "tuple") := by
      simp only [List.mem_cons, List.not_mem_nil, or_false] at hu
      rcases hu with rfl | rfl | rfl | rfl | rfl | rfl
      · exact ⟨sv_tup (xs c2 h2) (by show 1 ≤ 1000; decide) (by intro x hx; rw [List.mem_singleton.mp hx]; exact nv_int _) (spelled_bad List.mem_cons_self (numB_top k)), tyx_sqt (xs c2 h2)⟩
      · exact ⟨sv_tup (xs c3 h3) (by decide) (by intro x hx; rw [List.mem_singleton.mp hx]; exact nv_int _) (spelled_bad List.mem_cons_self (by simp [numB])), tyx_sqt (xs c3 h3)⟩
      · exact ⟨sv_tup (xs c4 h4) (by decide) (by intro x hx; rw [List.mem_singleton.mp hx]; exact nv_bl _) (spelled_bad List.mem_cons_self rfl), tyx_sqt (xs c4 h4)⟩
      · refine ⟨sv_tup (xs c5 h5) (by decide) (fun x hx => ?_) (spelled_bad (.tail _ List.mem_cons_self) rfl), tyx_sqt (xs c5 h5)⟩
        rcases List.mem_cons.mp hx with rfl | hx
        · exact nv_int _
        · rw [List.mem_singleton.mp hx]; exact nv_non
      · have h7' := xs c7 h7
        rw [zeros_v] at h7'
        refine ⟨sv_tup h7' (by rw [zeros_len]; decide) (fun x hx => ?_) (spelled_long (by rw [zeros_len]; decide)), tyx_sqt h7'⟩
        obtain ⟨i, _, rfl⟩ := List.mem_map.mp hx
        exact nv_int _
      · exact ⟨sv_tup (xs c9 h9) (by show 1 ≤ 1000; decide) (by intro x hx; rw [List.mem_singleton.mp hx]; exact nv_tup (xs c8 h8)) (spelled_bad List.mem_cons_self rfl), tyx_sqt (xs c9 h9)⟩
    have kBC : KpN b HB HC := (KpN.ext bB (Same.ext sBA)).trans (KpN.of kC)
    have hHC : KpN b H HC := hHB.trans kBC
    have tC : Tabs T.tabs HC := tabs_kp bA kC (tB.ext sBA)
    have hhC := hhB.kpn bB kBC
    have bC := kC.1
    -- here.end(many)
    refine ⟨tC, fun L1 x1 t1 => ?_⟩
    have kL := kBC.trans (KpN.ext bC x1)
    obtain ⟨p, dx, rv, tv, rfl, hp, hr0, ht0⟩ := hhC.ext x1
    refine ⟨_, rfl, p, dx, _, rfl, hp, fs3_no _ _ _ (by decide) (by decide) (by decide), _, rfl, ?_⟩
    refine ⟨.ref p, v, k, r, t, rfl, ⟨p, dx, rv, tv, rfl, hp, hr0, ht0⟩, hne, zr, zt, (hz.num _ kL), fun _ => mNum t1 (hz.dp _ kL) hz.sh (GotN.to (tl_first fun l M1 tl1 => ?_) x1), fun e => by rw [hz.no] at e; cases e⟩
    have hp0 := hhC.ext tl1.ext
    clear kL x1 t1 hp hr0 ht0 L1
    -- here.end(1000)
    refine ⟨_, rfl, .inl ⟨rfl, _, SqL.of tl1.lst.choose_spec.1⟩, tl1.tab, fun L1 x1 t1 => ?_⟩
    obtain ⟨p', dx', rv', tv', ep, hp, hr0, ht0⟩ := hp0.ext x1
    cases ep
    refine ⟨_, rfl, p, dx', _, rfl, hp, fs3_no _ _ _ (by decide) (by decide) (by decide), ?_⟩
    refine ⟨.ref p, .int 1000, k, r, t, rfl, ⟨p, dx', rv', tv', rfl, hp, hr0, ht0⟩, hne, zr, zt, nv_int _, fun e => absurd e (by decide), fun _ H2 x ws s2 hx => ?_⟩
    refine GotN.fine (tl1.more (by simp) fun M2 tl2 => ?_) (x1.trans (Same.ext s2)) (t1.ext s2)
    have hp0 := hhC.ext tl2.ext
    -- here + wrong
    refine ⟨_, rfl, .inl ⟨rfl, _, SqL.of tl2.lst.choose_spec.1⟩, tl2.tab, fun L3 x3 t3 => ?_⟩
    obtain ⟨p', dx', rv', tv', ep, hp, hr0, ht0⟩ := hp0.ext x3
    cases ep
    have e3 := tl2.ext.trans x3
    refine ⟨_, rfl, _, rfl, p, dx', _, rfl, hp, ext_tyx e3 hu.2, ?_⟩
    refine ⟨.ref p, u, k, r, t, rfl, ⟨p, dx', rv', tv', rfl, hp, hr0, ht0⟩, ext_tyx e3 hu.2, hu.1.ext e3, mWord t3 (GotN.to (tl2.more (by simp) fun M8 tl8 => ?_) x3)⟩
    -- the answer
    have k8 := kBC.trans (KpN.ext bC tl8.ext)
    refine ⟨_, rfl, _, rfl, v, z, rfl, hz.dp _ k8, hz.sh, by show 3 ≤ sizeLine; decide, fun N1 p1 r1 g1 => ⟨by show 1 ≤ sizeLine; decide, fun N2 p2 r2 g2 => ⟨by show 2 ≤ sizeLine; decide, fun N3 p3 r3 g3 => ⟨by show 3 ≤ sizeLine; decide, fun N7 p7 r7 n7 g7 => ?_⟩⟩⟩⟩
    have z3 := r7
    have z2 := Same.trans r3 z3
    have z1 := Same.trans r2 z2
    have z0 := Same.trans r1 z1
    obtain ⟨vs, hl8, hs8⟩ := tl8.at_
    have st : ∀ a xs, SqT K M8 a xs → SqT K N7 a xs := fun a xs h => Same.sqt z0 h
    have two : IsSts K N7 _ [["refused", "number", z.shown], ["fine"], ["refused", "word"]] := .cons ⟨p1, rfl, Same.sqt z1 g1⟩ (.cons ⟨p2, rfl, Same.sqt z2 g2⟩ (.cons ⟨p3, rfl, Same.sqt z3 g3⟩ .nil))
    have lay : ∀ l ∈ ([["refused", "number", z.shown], ["fine"], ["refused", "word"]] : List (List Str)), ∀ x ∈ l, (PyData.str x).canLay0 = true := by
      have e1 : (PyData.str "refused").canLay0 = true := by decide +kernel
      have e2 : (PyData.str "number").canLay0 = true := by decide +kernel
      have e3 : (PyData.str "word").canLay0 = true := by decide +kernel
      have e5 : (PyData.str "fine").canLay0 = true := by decide +kernel
      simp only [List.mem_cons, List.not_mem_nil, or_false, forall_eq_or_imp, forall_eq]
      exact ⟨⟨e1, e2, hz.sh.2.2.2.2⟩, e5, e1, e3⟩
    have hs9 : IsSts K N7 vs [["refused", "number", z.shown], ["fine"], ["refused", "word"]] := hs8.to st
    refine ⟨_, _, IsSts.dp (SqL.of (z0 _ _ hl8)) hs9, IsSts.dp (SqL.of g7) two, shaped_sts lay, shaped_sts lay, ?_⟩
    have eq8 := eqv_sts lay
    show Q (.bl (PyData.eqv (dSts _) (dSts _))) N7
    rw [eq8]
    exact q N7 (hHC.trans (KpN.ext bC (tl8.ext.trans (Same.ext z0)))) (tl8.tab.ext z0)
end
end K06
/-! K06k -/
set_option Elab.async false
set_option linter.all false
set_option maxRecDepth 100000
set_option maxHeartbeats 2000000
namespace K06
open PySem PySem.Spec PyProof.Rows L2 PpSet RL LamX
/-- the two defs that the loop calls -/
def heldC {K : PySem.W.Frag} {mg : Str → Option Value} (T : Txt K mg) (f : Addr) (sp : Sp) : Prop := (f = T.a_compare ∨ f = T.a_agree) ∧ sp = sp_bad2 K T.C_Endless T.C_InvalidNumber T.C_InvalidHeight
theorem heldC_ok {P : Program} {w : World} {K : PySem.W.Frag} {mg : Str → Option Value} {base : Heap} (T : Txt K mg) : ∀ f sp, heldC T f sp → HeldX P w K mg base 6 f sp := by
  rintro f sp ⟨rfl | rfl, rfl⟩
  · exact ⟨_, _, (ok_compare T).mono (by decide), T.F_compare.kp, T.b_compare⟩
  · exact ⟨_, _, (ok_agree T).mono (by decide), T.F_agree.kp, T.b_agree⟩
section
variable {K : PySem.W.Frag} {mg : Str → Option Value} {H : Hp} {k : Int}
theorem hv_non (T : Txt K mg) : HgV K T.C_Endless H .non k false := .inr ⟨⟨_, .base .non, T.kNoneType_Endless⟩, sv_non⟩
theorem hv_int (T : Txt K mg) (i : Int) : HgV K T.C_Endless H (.int i) k false := .inr ⟨⟨_, .base (.int i), T.kint_Endless⟩, sv_int i⟩
theorem hv_str (T : Txt K mg) (x : Str) : HgV K T.C_Endless H (.str x) k false := .inr ⟨⟨_, .base (.str x), T.kstr_Endless⟩, sv_str x⟩
theorem hv_lst (T : Txt K mg) {a : Addr} {xs : List V} (e : H a = some (.lst xs)) : HgV K T.C_Endless H (.ref a) k false := .inr ⟨⟨_, .base (.lst e), T.klist_Endless⟩, sv_lst e⟩
theorem hv_dK (T : Txt K mg) {a : Addr} {xs : List (Key × V)} (e : H a = some (.dK xs)) : HgV K T.C_Endless H (.ref a) k false := .inr ⟨⟨_, .base (.dK e), T.kdict_Endless⟩, sv_dK e⟩
theorem hv_tup (T : Txt K mg) {a : Addr} {xs : List V} (h : SqT K H a xs) (s : SpV K H (.ref a) k 200 false) : HgV K T.C_Endless H (.ref a) k false := .inr ⟨⟨_, tyx_sqt h, T.ktuple_Endless⟩, s⟩
theorem sv_end (T : Txt K mg) {v : V} {k' : Int} {r t : List Int} (h : EndAt K T.C_Endless H v k' r t) : SpV K H v k 200 false := by
  obtain ⟨p, dx, rv, tv, rfl, hp, _⟩ := h
  exact .inl ⟨rfl, _, tyx_end T hp, T.kt_Endless⟩
theorem sv_1k {a : Addr} (h : SqT K H a [.int k]) : SpV K H (.ref a) k 200 false := sv_tup h (by show 1 ≤ 1000; decide) (by intro x hx; rw [List.mem_singleton.mp hx]; exact nv_int _) (spelled_bad List.mem_cons_self (numB_top k))
theorem sv_1b {a : Addr} (h : SqT K H a [.bl true]) : SpV K H (.ref a) k 200 false := sv_tup h (by decide) (by intro x hx; rw [List.mem_singleton.mp hx]; exact nv_bl _) (spelled_bad List.mem_cons_self rfl)
theorem sv_0n {a : Addr} (h : SqT K H a [.int 0, .non]) : SpV K H (.ref a) k 200 false := by
  refine sv_tup h (by decide) (fun x hx => ?_) (spelled_bad (.tail _ List.mem_cons_self) rfl)
  rcases List.mem_cons.mp hx with rfl | hx
  · exact nv_int _
  · rw [List.mem_singleton.mp hx]; exact nv_non
theorem sv_201 {a : Addr} (h : SqT K H a (List.replicate (Int.toNat 201) [V.int 0]).flatten) : SpV K H (.ref a) k 200 false := by
  rw [zeros_v] at h
  refine sv_tup h (by rw [zeros_len]; decide) (fun x hx => ?_) (spelled_long (by rw [zeros_len]; decide))
  obtain ⟨i, _, rfl⟩ := List.mem_map.mp hx
  exact nv_int _
end
/-- the heap without l -/
def noL (l : Addr) (H : Hp) : Hp := fun a => if a = l then none else H a
theorem noL_ext {l : Addr} {H H' : Hp} (n : H l = none) (s : Same H H') : ExtN H (noL l H') := fun a o e _ => by
  have : a ≠ l := ne_of_none e n
  unfold noL
  rw [if_neg this]
  exact s a o e
theorem noL_of {l : Addr} {H : Hp} : ExtN (noL l H) H := fun a o e _ => by
  unfold noL at e
  split at e
  · cases e
  · exact e
theorem noL_sqt {K : PySem.W.Frag} {l : Addr} {H : Hp} {xs : List V} (hl : H l = some (.lst xs)) {a : Addr} {ys : List V} (h : SqT K H a ys) : SqT K (noL l H) a ys := by
  have key : ∀ o, H a = some o → o ≠ .lst xs → noL l H a = some o := fun o e n => by
    unfold noL
    rw [if_neg fun z => by rw [z, hl] at e; exact n (Option.some.inj e).symm]
    exact e
  rcases h with (h | ⟨o, h⟩) | h
  · exact .inl (.inl (key _ h fun z => by cases z))
  · exact .inl (.inr ⟨o, key _ h fun z => by cases z⟩)
  · exact .inr h
theorem noL_tl {K : PySem.W.Frag} {tabs : List (Addr × Str)} {l : Addr} {H : Hp} {xs : List V} {ls : List (List Str)} (hl : H l = some (.lst xs)) (h : IsSts K H xs ls) (t : Tabs tabs H) : Tl K tabs (noL l H) l H ls :=
  ⟨noL_of, fun o ho _ => (by unfold noL at ho; rw [if_pos rfl] at ho; cases ho), ⟨xs, hl, h⟩, t⟩
/-- what the loop's turn gives -/
abbrev three (z : PyData) : List (List Str) := [["refused", "number", z.shown], ["refused", "height"], ["refused", "height"]]
def sp_hgt {K : PySem.W.Frag} {mg : Str → Option Value} (T : Txt K mg) : Sp := fun vs H Q _ => ∃ (b : Addr) (k : Int) (bv hv : V) (z : PyData) (r t : List Int), vs = [.ref b, .int k, bv, hv] ∧ Bag b H ∧ 1 ≤ k ∧ k ≤ 4 ∧ BadN K b H bv 1 4 z ∧ EndAt K T.C_Endless H hv k r t ∧ r ≠ [] ∧ r.length ≤ 1000 ∧ t.length ≤ 1000 ∧ Tabs T.tabs H ∧
  ∀ H', KpN b H H' → Tabs T.tabs H' → Q (.bl true) H'
section
variable {P : Program} {w : World} {K : PySem.W.Frag} {mg : Str → Option Value} {base : Heap}
theorem ok__law_heights_right (T : Txt K mg) (TB : ∀ p ∈ T.cs, TabB base mg p.1 p.2) : FnG P w K mg base CX0 11 T.a__law_heights_right T.d__law_heights_right ["bag", "letters", "bad", "here"] (sp_hgt T) := by
  refine Fun.okG T.F__law_heights_right sc__law_heights_right (fun vs H Q E h => ?_) (fun cdv A outer s H vs Q E hcd hg hr h => ?_)
  · obtain ⟨b, k, bv, hv, z, r, t, rfl, _⟩ := h
    rfl
  · obtain ⟨b, k, bv, hv, z, r, t, rfl, hb, k1, k4, hbad, hh, hne, zr, zt, ht, q⟩ := h
    refine ⟨_, (pss_cons (ps_set (i := 4) sc__law_heights_right.nd rfl (Or.inl rfl) (pe_make (E := E0) T.mk_Endless (ok_Endless___init__ T) (hr.mono (by decide)) rfl T.mC_Endless T.b_Endless___init__ T.v_Endless passL (pa_cons (pe_op op_add (pe_op op_mod (pv 1) pe_int) pe_int) (pa_cons (pe_tupK (K := K) rfl (pa_cons pe_int pa_nil)) pa_nil)))) (pss_cons (ps_set (i := 5) sc__law_heights_right.nd rfl (Or.inr rfl) (pe_call (ok__law_one_of T) (hr.mono (by decide)) rfl T.m__law_one_of T.F__law_one_of.kp T.b__law_one_of .nil pass0 (pa_cons (pv 0) (pa_cons (pe_lstS (pa_cons pe_non (pa_cons pe_int (pa_cons pe_str (pa_cons (pe_lstS (pa_cons pe_int pa_nil)) (pa_cons (pe_tupK (K := K) rfl (pa_cons (pv 1) pa_nil)) (pa_cons (pe_tupK (K := K) rfl (pa_cons pe_bl pa_nil)) (pa_cons (pe_op op_repS (pe_tupK (K := K) rfl (pa_cons pe_int pa_nil)) pe_int) (pa_cons (pv 4) (pa_cons pe_dnewK (pa_cons (pe_tupK (K := K) rfl (pa_cons pe_int (pa_cons pe_non pa_nil))) pa_nil))))))))))) pa_nil)))) (pss_cons (ps_set (i := 6) sc__law_heights_right.nd rfl (Or.inr rfl) (pe_call (ok__law_one_of T) (hr.mono (by decide)) rfl T.m__law_one_of T.F__law_one_of.kp T.b__law_one_of .nil pass0 (pa_cons (pv 0) (pa_cons (pe_lstS (pa_cons pe_non (pa_cons pe_int (pa_cons pe_str (pa_cons (pe_lstS (pa_cons pe_int pa_nil)) (pa_cons (pe_tupK (K := K) rfl (pa_cons (pv 1) pa_nil)) (pa_cons (pe_tupK (K := K) rfl (pa_cons pe_bl pa_nil)) (pa_cons (pe_op op_repS (pe_tupK (K := K) rfl (pa_cons pe_int pa_nil)) pe_int) (pa_cons (pv 3) (pa_cons pe_dnewK pa_nil)))))))))) pa_nil)))) (pss_cons (ps_set (i := 7) sc__law_heights_right.nd rfl (Or.inr rfl) (pe_call (ok__law_one_of T) (hr.mono (by decide)) rfl T.m__law_one_of T.F__law_one_of.kp T.b__law_one_of .nil pass0 (pa_cons (pv 0) (pa_cons (pe_lstS (pa_cons pe_non (pa_cons (pe_un un_neg pe_int) (pa_cons pe_int (pa_cons pe_bl (pa_cons pe_str (pa_cons (pe_tupK (K := K) rfl (pa_cons pe_int pa_nil)) (pa_cons (pe_op op_pow pe_int pe_int) pa_nil)))))))) pa_nil)))) (pss_cons (ps_set (i := 8) sc__law_heights_right.nd rfl (Or.inl rfl) (pe_lstS pa_nil)) (pss_cons (ps_for PassesOwn.never rfl (pi_tup (pe_tupK (K := K) rfl (pa_cons (pe_glob (v := .ref T.a_compare) rfl T.m_compare rfl) (pa_cons (pe_glob (v := .ref T.a_agree) rfl T.m_agree rfl) pa_nil)))) (pg_name (i := 9) sc__law_heights_right.nd rfl (Or.inr rfl)) (pss_cons (ps_expr (pe_bm PySem.F.plainAttrs_list PySem.F.slot_list_append PySem.F.type_list_append mt_append (pv 8) (pa_cons (pe_lamF (k := 6) (T := T.tabs) (TT := TTm T) rfl T.m__law_met T.F__law_met T.b__law_met sc__law_met rfl (Or.inl rfl) (by refine met_gives (kk := 1) T rfl rfl ?_ ?_; exact hg; exact hr.mono (by decide)) (TB _ T.in__law_heights_right) (hcd.symm.trans T.hc__law_heights_right) T.on__law_heights_right T.un__law_heights_right (hr.mono (by decide)) (by exact lamS_by (sc := defScope s__law_heights_right) (by decide +kernel)) (fun A outer s H E f c' hr => (pe_callAX (i := 9) (k := 6) (S := heldC T) (heldC_ok T) (hr.mono (by decide)) rfl (Or.inr (Or.inr rfl)) (passE (takes_of rfl rfl rfl rfl)) (pa_cons (pv 2) (pa_cons (pv 5) (pa_cons (pv 5) pa_nil)))))) pa_nil))) (pss_cons (ps_expr (pe_bm PySem.F.plainAttrs_list PySem.F.slot_list_append PySem.F.type_list_append mt_append (pv 8) (pa_cons (pe_lamF (k := 6) (T := T.tabs) (TT := TTm T) rfl T.m__law_met T.F__law_met T.b__law_met sc__law_met rfl (Or.inl rfl) (by refine met_gives (kk := 1) T rfl rfl ?_ ?_; exact hg; exact hr.mono (by decide)) (TB _ T.in__law_heights_right) (hcd.symm.trans T.hc__law_heights_right) T.on__law_heights_right T.un__law_heights_right (hr.mono (by decide)) (by exact lamS_by (sc := defScope s__law_heights_right) (by decide +kernel)) (fun A outer s H E f c' hr => (pe_callAX (i := 9) (k := 6) (S := heldC T) (heldC_ok T) (hr.mono (by decide)) rfl (Or.inr (Or.inr rfl)) (passE (takes_of rfl rfl rfl rfl)) (pa_cons (pv 1) (pa_cons (pv 5) (pa_cons (pv 5) pa_nil)))))) pa_nil))) (pss_one (ps_expr (pe_bm PySem.F.plainAttrs_list PySem.F.slot_list_append PySem.F.type_list_append mt_append (pv 8) (pa_cons (pe_lamF (k := 6) (T := T.tabs) (TT := TTm T) rfl T.m__law_met T.F__law_met T.b__law_met sc__law_met rfl (Or.inl rfl) (by refine met_gives (kk := 1) T rfl rfl ?_ ?_; exact hg; exact hr.mono (by decide)) (TB _ T.in__law_heights_right) (hcd.symm.trans T.hc__law_heights_right) T.on__law_heights_right T.un__law_heights_right (hr.mono (by decide)) (by exact lamS_by (sc := defScope s__law_heights_right) (by decide +kernel)) (fun A outer s H E f c' hr => (pe_callAX (i := 9) (k := 6) (S := heldC T) (heldC_ok T) (hr.mono (by decide)) rfl (Or.inr (Or.inr rfl)) (passE (takes_of rfl rfl rfl rfl)) (pa_cons (pv 1) (pa_cons (pv 3) (pa_cons (pv 5) pa_nil)))))) pa_nil))))))) (pss_cons (ps_expr (pe_bm PySem.F.plainAttrs_list PySem.F.slot_list_append PySem.F.type_list_append mt_append (pv 8) (pa_cons (pe_lamF (k := 5) (T := T.tabs) (TT := TTm T) rfl T.m__law_met T.F__law_met T.b__law_met sc__law_met rfl (Or.inl rfl) (by refine met_gives (kk := 1) T rfl rfl ?_ ?_; exact hg; exact hr.mono (by decide)) (TB _ T.in__law_heights_right) (hcd.symm.trans T.hc__law_heights_right) T.on__law_heights_right T.un__law_heights_right (hr.mono (by decide)) (by exact lamS_by (sc := defScope s__law_heights_right) (by decide +kernel)) (fun A outer s H E f c' hr => (pe_call (ok_ends_with T) (hr.mono (by decide)) rfl T.m_ends_with T.F_ends_with.kp T.b_ends_with .nil (passE (takes_of rfl rfl rfl rfl)) (pa_cons (pv 2) (pa_cons (pv 5) (pa_cons (pv 6) pa_nil)))))) pa_nil))) (pss_cons (ps_expr (pe_bm PySem.F.plainAttrs_list PySem.F.slot_list_append PySem.F.type_list_append mt_append (pv 8) (pa_cons (pe_lamF (k := 5) (T := T.tabs) (TT := TTm T) rfl T.m__law_met T.F__law_met T.b__law_met sc__law_met rfl (Or.inl rfl) (by refine met_gives (kk := 1) T rfl rfl ?_ ?_; exact hg; exact hr.mono (by decide)) (TB _ T.in__law_heights_right) (hcd.symm.trans T.hc__law_heights_right) T.on__law_heights_right T.un__law_heights_right (hr.mono (by decide)) (by exact lamS_by (sc := defScope s__law_heights_right) (by decide +kernel)) (fun A outer s H E f c' hr => (pe_call (ok_ends_with T) (hr.mono (by decide)) rfl T.m_ends_with T.F_ends_with.kp T.b_ends_with .nil (passE (takes_of rfl rfl rfl rfl)) (pa_cons (pv 1) (pa_cons (pv 5) (pa_cons (pv 6) pa_nil)))))) pa_nil))) (pss_cons (ps_expr (pe_bm PySem.F.plainAttrs_list PySem.F.slot_list_append PySem.F.type_list_append mt_append (pv 8) (pa_cons (pe_lamF (k := 5) (T := T.tabs) (TT := TTm T) rfl T.m__law_met T.F__law_met T.b__law_met sc__law_met rfl (Or.inl rfl) (by refine met_gives (kk := 1) T rfl rfl ?_ ?_; exact hg; exact hr.mono (by decide)) (TB _ T.in__law_heights_right) (hcd.symm.trans T.hc__law_heights_right) T.on__law_heights_right T.un__law_heights_right (hr.mono (by decide)) (by exact lamS_by (sc := defScope s__law_heights_right) (by decide +kernel)) (fun A outer s H E f c' hr => (pe_call (ok_ends_with T) (hr.mono (by decide)) rfl T.m_ends_with T.F_ends_with.kp T.b_ends_with .nil (passE (takes_of rfl rfl rfl rfl)) (pa_cons (pv 1) (pa_cons (pv 3) (pa_cons (pv 6) pa_nil)))))) pa_nil))) (pss_cons (ps_expr (pe_bm PySem.F.plainAttrs_list PySem.F.slot_list_append PySem.F.type_list_append mt_append (pv 8) (pa_cons (pe_lamF (k := 8) (T := T.tabs) (TT := TTm T) rfl T.m__law_met T.F__law_met T.b__law_met sc__law_met rfl (Or.inl rfl) (by refine met_gives (kk := 1) T rfl rfl ?_ ?_; exact hg; exact hr.mono (by decide)) (TB _ T.in__law_heights_right) (hcd.symm.trans T.hc__law_heights_right) T.on__law_heights_right T.un__law_heights_right (hr.mono (by decide)) (by exact lamS_by (sc := defScope s__law_heights_right) (by decide +kernel)) (fun A outer s H E f c' hr => (pe_listG (pgen_call (ok_each_end T) (hr.mono (by decide)) rfl T.m_each_end T.F_each_end.kp T.b_each_end .nil (pa_cons (pv 2) (pa_cons (pv 5) (pa_cons (pv 7) pa_nil)))) (passES (takes_of rfl rfl rfl rfl)) noStopES (hr.mono (by decide)) rfl T.n_list (by decide +kernel)))) pa_nil))) (pss_cons (ps_expr (pe_bm PySem.F.plainAttrs_list PySem.F.slot_list_append PySem.F.type_list_append mt_append (pv 8) (pa_cons (pe_lamF (k := 8) (T := T.tabs) (TT := TTm T) rfl T.m__law_met T.F__law_met T.b__law_met sc__law_met rfl (Or.inl rfl) (by refine met_gives (kk := 1) T rfl rfl ?_ ?_; exact hg; exact hr.mono (by decide)) (TB _ T.in__law_heights_right) (hcd.symm.trans T.hc__law_heights_right) T.on__law_heights_right T.un__law_heights_right (hr.mono (by decide)) (by exact lamS_by (sc := defScope s__law_heights_right) (by decide +kernel)) (fun A outer s H E f c' hr => (pe_listG (pgen_call (ok_each_end T) (hr.mono (by decide)) rfl T.m_each_end T.F_each_end.kp T.b_each_end .nil (pa_cons (pv 1) (pa_cons (pv 5) (pa_cons (pv 7) pa_nil)))) (passES (takes_of rfl rfl rfl rfl)) noStopES (hr.mono (by decide)) rfl T.n_list (by decide +kernel)))) pa_nil))) (pss_cons (ps_expr (pe_bm PySem.F.plainAttrs_list PySem.F.slot_list_append PySem.F.type_list_append mt_append (pv 8) (pa_cons (pe_lamF (k := 8) (T := T.tabs) (TT := TTm T) rfl T.m__law_met T.F__law_met T.b__law_met sc__law_met rfl (Or.inl rfl) (by refine met_gives (kk := 1) T rfl rfl ?_ ?_; exact hg; exact hr.mono (by decide)) (TB _ T.in__law_heights_right) (hcd.symm.trans T.hc__law_heights_right) T.on__law_heights_right T.un__law_heights_right (hr.mono (by decide)) (by exact lamS_by (sc := defScope s__law_heights_right) (by decide +kernel)) (fun A outer s H E f c' hr => (pe_listG (pgen_call (ok_each_end T) (hr.mono (by decide)) rfl T.m_each_end T.F_each_end.kp T.b_each_end .nil (pa_cons (pv 1) (pa_cons (pv 3) (pa_cons (pv 7) pa_nil)))) (passES (takes_of rfl rfl rfl rfl)) noStopES (hr.mono (by decide)) rfl T.n_list (by decide +kernel)))) pa_nil))) (pss_cons (ps_expr (pe_bm PySem.F.plainAttrs_list PySem.F.slot_list_append PySem.F.type_list_append mt_append (pv 8) (pa_cons (pe_lamF (k := 8) (T := T.tabs) (TT := TTm T) rfl T.m__law_met T.F__law_met T.b__law_met sc__law_met rfl (Or.inl rfl) (by refine met_gives (kk := 1) T rfl rfl ?_ ?_; exact hg; exact hr.mono (by decide)) (TB _ T.in__law_heights_right) (hcd.symm.trans T.hc__law_heights_right) T.on__law_heights_right T.un__law_heights_right (hr.mono (by decide)) (by exact lamS_by (sc := defScope s__law_heights_right) (by decide +kernel)) (fun A outer s H E f c' hr => (pe_listG (pgen_call (ok_each_end T) (hr.mono (by decide)) rfl T.m_each_end T.F_each_end.kp T.b_each_end .nil (pa_cons (pv 1) (pa_cons (pv 3) (pa_cons pe_int pa_nil)))) (passES (takes_of rfl rfl rfl rfl)) noStopES (hr.mono (by decide)) rfl T.n_list (by decide +kernel)))) pa_nil))) (pss_cons (ps_expr (pe_bm PySem.F.plainAttrs_list PySem.F.slot_list_append PySem.F.type_list_append mt_append (pv 8) (pa_cons (pe_lamF (k := 4) (T := T.tabs) (TT := TTm T) rfl T.m__law_met T.F__law_met T.b__law_met sc__law_met rfl (Or.inl rfl) (by refine met_gives (kk := 1) T rfl rfl ?_ ?_; exact hg; exact hr.mono (by decide)) (TB _ T.in__law_heights_right) (hcd.symm.trans T.hc__law_heights_right) T.on__law_heights_right T.un__law_heights_right (hr.mono (by decide)) (by exact lamS_by (sc := defScope s__law_heights_right) (by decide +kernel)) (fun A outer s H E f c' hr => (pe_call (ok_is_height T) (hr.mono (by decide)) rfl T.m_is_height T.F_is_height.kp T.b_is_height .nil (passE (takes_of rfl rfl rfl rfl)) (pa_cons (pv 2) (pa_cons (pv 5) pa_nil))))) pa_nil))) (pss_cons (ps_par (i := 10) (j := 11) rfl sc__law_heights_right.nd rfl rfl (by decide) rfl rfl (pa_cons (pe_tupK (K := K) rfl (pa_cons pe_str (pa_cons pe_str (pa_cons (pe_callB (call_reprD hg hr.units) rfl T.n_repr (by decide +kernel) (pa_cons (pv 2) pa_nil)) pa_nil)))) (pa_cons (pe_tupK (K := K) rfl (pa_cons pe_str (pa_cons pe_str pa_nil))) pa_nil)) rfl) (pss_cons (ps_set (i := 12) sc__law_heights_right.nd rfl (Or.inl rfl) (pe_op op_catL (pe_op op_repL (pe_lstS (pa_cons (pv 10) (pa_cons (pv 11) (pa_cons (pv 11) pa_nil)))) pe_int) (pe_lstS (pa_cons (pv 10) (pa_cons (pv 11) (pa_cons (pe_tupK (K := K) rfl (pa_cons pe_str (pa_cons pe_str pa_nil))) (pa_cons (pv 10) (pa_cons (pv 11) (pa_cons (pe_tupK (K := K) rfl (pa_cons pe_str (pa_cons pe_str (pa_cons (pe_callB (call_reprD hg hr.units) rfl T.n_repr (by decide +kernel) (pa_cons (pv 7) pa_nil)) pa_nil)))) pa_nil))))))))) (pss_one (ps_ret (pe_and (pe_cmpR (op_eqD hr.units) (pv 8) (pe_op op_catL (pv 12) (pe_lstS (pa_cons (pe_tupK (K := K) rfl (pa_cons pe_str pa_nil)) (pa_cons (pv 10) pa_nil)))) (nomark _)) (pe_one (pe_cmpR op_isB (pe_call (ok_is_height T) (hr.mono (by decide)) rfl T.m_is_height T.F_is_height.kp T.b_is_height .nil passL (pa_cons (pv 1) (pa_cons (pv 5) pa_nil))) pe_bl (nomark _)))))))))))))))))))))), ?_⟩
    have noN : numB (.int k) 1 4 = false → False := fun e => by rw [num_of k1 k4] at e; cases e
    -- far
    refine ⟨_, rfl, _, _, rfl, rfl, (by show (0 : Int) < 4; decide), _, _, rfl, rfl, by show 1 ≤ sizeLine; decide, fun H1 p1 s1 h1 => ?_⟩
    intro x dx nx ndx ne
    have hk1 : 1 ≤ k % 4 + 1 := by omega
    have hk4 : k % 4 + 1 ≤ 4 := by omega
    have sM := same_new2 (C := T.C_Endless) nx ndx
    have o0 : okW (k % 4 + 1) [0] := ⟨by decide, fun n hn => by rw [List.mem_singleton.mp hn]; omega⟩
    have h1M := Same.sqt sM h1
    refine ⟨x, dx, .int (k % 4 + 1), .ref p1, _, rfl, upd_same, nv_int _, fun e => (by rw [num_of hk1 hk4] at e; cases e), fun k' ek a1 a4 => ?_⟩
    cases ek
    refine ⟨true, spv_of (ws := [0]) ⟨p1, rfl, h1M⟩ o0, fun z => (by cases z), fun _ => ⟨true, spv_of (ws := []) ⟨_, rfl, T.et_Endless___init___tail _⟩ ⟨by decide, fun n hn => by cases hn⟩, fun z => (by cases z), fun _ => ⟨[0], [], ⟨p1, rfl, h1M⟩, ⟨_, rfl, T.et_Endless___init___tail _⟩, o0, ⟨by decide, fun n hn => by cases hn⟩, fun z => (by cases z), fun _ M rv' tv' bM hM hr' ht' => ⟨rfl, ?_⟩⟩⟩⟩
    have s1M : Same H M := fun b o e => bM b o (ne_of_none (s1 b o e) nx) (sM b o (s1 b o e))
    have hfar : EndAt K T.C_Endless M (.ref x) (k % 4 + 1) (EW.kept [0] []).1 (EW.kept [0] []).2 := ⟨x, dx, rv', tv', rfl, hM, hr', ht'⟩
    have bM := hb.same s1M
    clear ne sM o0 h1M hM hr' ht'
    have eM : ExtN H M := Same.ext s1M
    -- none
    refine ⟨_, rfl, by show 1 ≤ sizeLine; decide, fun A1 l1 a1 n1 e1 => ?_⟩
    refine ⟨_, rfl, by show 1 ≤ sizeLine; decide, fun A2 q2 a2 g2 => ?_⟩
    refine ⟨by show 1 ≤ sizeLine; decide, fun A3 q3 a3 g3 => ?_⟩
    refine ⟨by show 1 ≤ sizeLine; decide, fun A4 q4 a4 g4 => ?_⟩
    refine ⟨q4, _, _, rfl, rfl, g4, by decide, by decide, by decide, fun A5 q5 a5 g5 => ?_⟩
    refine ⟨_, rfl, ?_⟩
    intro d hd
    refine ⟨by show 2 ≤ sizeLine; decide, fun A6 q6 a6 g6 => ?_⟩
    refine ⟨by show 10 ≤ sizeLine; decide, fun HA la sA nA eA => ?_⟩
    have c6 := sA
    have cd := Same.trans a6 c6
    have c5 := Same.trans (same_upd hd (.dK [])) cd
    have c4 := Same.trans a5 c5
    have c3 := Same.trans a4 c4
    have c2 := Same.trans a3 c3
    have c1 := Same.trans a2 c2
    have sMA := Same.trans a1 c1
    have sM5 : Same M A5 := Same.trans a1 (Same.trans a2 (Same.trans a3 (Same.trans a4 a5)))
    have sM6 : Same M A6 := Same.trans sM5 (Same.trans (same_upd hd (.dK [])) a6)
    have bA : Bag b HA := bM.same sMA
    have old {a : Addr} {G : Hp} (s : Same M G) (n : G a = none) : a ≠ b := ne_bag (bM.same s) n
    refine ⟨b, la, _, rfl, bA, old sM6 nA, eA, by show 0 < 10; decide, by show 10 < 1000; decide, fun HB v kB hv' => ?_⟩
    have xs {a : Addr} {xs : List V} {G : Hp} (s : Same G HA) (h : SqT K G a xs) : SqT K HB a xs := (KpN.of kB).sqt bA (Same.sqt s h)
    have kMB : KpN b M HB := (KpN.ext bM (Same.ext sMA)).trans (KpN.of kB)
    replace hv' : ∀ G, KpN b HB G → HgV K T.C_Endless G v k false := by
      intro G kG
      have xs {a : Addr} {ys : List V} {G' : Hp} (s : Same G' HA) (h : SqT K G' a ys) : SqT K G a ys := kG.sqt kB.1 (xs s h)
      have ob {a : Addr} {o : HO} (n : a ≠ b) (e : HA a = some o) (t : ∀ ps, o ≠ .tbl ps) : G a = some o := kG.2 _ _ n (kB.2 _ _ n e) t
      simp only [List.mem_cons, List.not_mem_nil, or_false] at hv'
      rcases hv' with rfl | rfl | rfl | rfl | rfl | rfl | rfl | rfl | rfl | rfl
      · exact hv_non T
      · exact hv_int T _
      · exact hv_str T _
      · exact hv_lst T (ob (old (Same.refl M) n1) (c1 _ _ e1) fun ps z => by cases z)
      · exact hv_tup T (xs c2 g2) (sv_1k (xs c2 g2))
      · exact hv_tup T (xs c3 g3) (sv_1b (xs c3 g3))
      · exact hv_tup T (xs c5 g5) (sv_201 (xs c5 g5))
      · exact .inl ⟨_, _, _, (hfar.kpn bM kMB).kpn kB.1 kG, (decide_eq_false (by omega)).symm⟩
      · exact hv_dK T (ob (old sM5 hd) (cd _ _ upd_same) fun ps z => by cases z)
      · exact hv_tup T (xs c6 g6) (sv_0n (xs c6 g6))
    have kHB : KpN b H HB := (KpN.ext hb eM).trans kMB
    have tB : Tabs T.tabs HB := tabs_kp bA kB ((ht.ext s1M).ext sMA)
    have bB := kB.1
    have hhB := hh.kpn hb kHB
    clear xs old kMB bA sM6 sM5 sMA c1 c2 c3 c4 c5 cd c6 hfar
    -- wrong
    refine ⟨_, rfl, by show 1 ≤ sizeLine; decide, fun A1 l1 a1 n1 e1 => ?_⟩
    refine ⟨_, rfl, by show 1 ≤ sizeLine; decide, fun A2 q2 a2 g2 => ?_⟩
    refine ⟨by show 1 ≤ sizeLine; decide, fun A3 q3 a3 g3 => ?_⟩
    refine ⟨by show 1 ≤ sizeLine; decide, fun A4 q4 a4 g4 => ?_⟩
    refine ⟨q4, _, _, rfl, rfl, g4, by decide, by decide, by decide, fun A5 q5 a5 g5 => ?_⟩
    refine ⟨_, rfl, ?_⟩
    intro d hd
    refine ⟨by show 9 ≤ sizeLine; decide, fun HA la sA nA eA => ?_⟩
    have cd := sA
    have c5 := Same.trans (same_upd hd (.dK [])) cd
    have c4 := Same.trans a5 c5
    have c3 := Same.trans a4 c4
    have c2 := Same.trans a3 c3
    have c1 := Same.trans a2 c2
    have sMA := Same.trans a1 c1
    have sM5 : Same HB A5 := Same.trans a1 (Same.trans a2 (Same.trans a3 (Same.trans a4 a5)))
    have sM6 := Same.trans sM5 (same_upd hd (.dK []))
    have bA : Bag b HA := bB.same sMA
    have old {a : Addr} {G : Hp} (s : Same HB G) (n : G a = none) : a ≠ b := ne_bag (bB.same s) n
    refine ⟨b, la, _, rfl, bA, old sM6 nA, eA, by show 0 < 9; decide, by show 9 < 1000; decide, fun HC u kC hu => ?_⟩
    have xs {a : Addr} {xs : List V} {G : Hp} (s : Same G HA) (h : SqT K G a xs) : SqT K HC a xs := (KpN.of kC).sqt bA (Same.sqt s h)
    have kBC : KpN b HB HC := (KpN.ext bB (Same.ext sMA)).trans (KpN.of kC)
    have hhC := hhB.kpn bB kBC
    replace hu : ∀ G, KpN b HC G → SpV K G u k 200 false := by
      intro G kG
      have xs {a : Addr} {ys : List V} {G' : Hp} (s : Same G' HA) (h : SqT K G' a ys) : SqT K G a ys := kG.sqt kC.1 (xs s h)
      have ob {a : Addr} {o : HO} (n : a ≠ b) (e : HA a = some o) (t : ∀ ps, o ≠ .tbl ps) : G a = some o := kG.2 _ _ n (kC.2 _ _ n e) t
      simp only [List.mem_cons, List.not_mem_nil, or_false] at hu
      rcases hu with rfl | rfl | rfl | rfl | rfl | rfl | rfl | rfl | rfl
      · exact sv_non
      · exact sv_int _
      · exact sv_str _
      · exact sv_lst (ob (old (Same.refl HB) n1) (c1 _ _ e1) fun ps z => by cases z)
      · exact sv_1k (xs c2 g2)
      · exact sv_1b (xs c3 g3)
      · exact sv_201 (xs c5 g5)
      · exact sv_end T (hhC.kpn kC.1 kG)
      · exact sv_dK (ob (old sM5 hd) (cd _ _ upd_same) fun ps z => by cases z)
    have tC : Tabs T.tabs HC := tabs_kp bA kC (tB.ext sMA)
    have bC := kC.1
    clear xs old bA sM6 sM5 sMA c1 c2 c3 c4 c5 cd
    -- many
    refine ⟨_, rfl, _, rfl, by show 1 ≤ sizeLine; decide, fun A6 q6 a6 g6 => ?_⟩
    refine ⟨_, _, rfl, rfl, ⟨by decide, by decide, by decide⟩, ?_⟩
    refine ⟨by show 7 ≤ sizeLine; decide, fun HE le sE nE eE => ?_⟩
    have s6E := Same.trans a6 sE
    have bE : Bag b HE := bC.same s6E
    refine ⟨b, le, _, rfl, bE, ne_bag (bC.same a6) nE, eE, by show 0 < 7; decide, by show 7 < 1000; decide, fun HF mv kF hm => ?_⟩
    replace hm : BadS K b HF mv 0 60 := by
      simp only [List.mem_cons, List.not_mem_nil, or_false] at hm
      rcases hm with rfl | rfl | rfl | rfl | rfl | rfl | rfl
      · exact bs_non
      · exact bs_int (by decide +kernel) (by decide)
      · exact bs_int (by decide +kernel) (by decide)
      · exact bs_bl
      · exact bs_str (by decide +kernel)
      · exact bs_tup kF.1 ((KpN.of kF).sqt bE (Same.sqt sE g6)) (by decide +kernel)
      · exact bs_int (by decide +kernel) (by decide +kernel)
    obtain ⟨zm, hz⟩ := hm
    have kCF : KpN b HC HF := (KpN.ext bC (Same.ext s6E)).trans (KpN.of kF)
    have tF : Tabs T.tabs HF := tabs_kp bE kF (tC.ext s6E)
    have bF := kF.1
    have kBF := kBC.trans kCF
    have kHF := kHB.trans kBF
    have hhF := hhC.kpn bC kCF
    have bd := hbad.to kHF
    clear bE s6E
    -- told = []
    refine ⟨by show 0 ≤ sizeLine; decide, fun L0 l s0 n0 e0 => ?_⟩
    refine ⟨by show 2 ≤ sizeLine; decide, fun F0 pt sF hF => ⟨pt, rfl, ⟨_, hF⟩, ?_⟩⟩
    have l0F := sF _ _ e0
    have eB : ExtN HF (noL l F0) := noL_ext n0 (Same.trans s0 sF)
    have hB := noL_sqt l0F hF
    have tl0 : Tl K T.tabs (noL l F0) l F0 [] := noL_tl l0F .nil ((tF.ext s0).ext sF)
    have kFB : ∀ G, ExtN (noL l F0) G → KpN b HF G := fun G e => KpN.ext bF (eB.trans e)
    have hvG : ∀ G, ExtN (noL l F0) G → HgV K T.C_Endless G v k false := fun G e => hv' G ((kBF).trans (kFB G e))
    have huG : ∀ G, ExtN (noL l F0) G → SpV K G u k 200 false := fun G e => hu G (kCF.trans (kFB G e))
    have hhG : ∀ G, ExtN (noL l F0) G → EndAt K T.C_Endless G hv k r t := fun G e => hhF.kpn bF (kFB G e)
    have bdN : ∀ G, ExtN (noL l F0) G → NumV K G bv := fun G e => bd.num G (kFB G e)
    have bdD : ∀ G, ExtN (noL l F0) G → Dp K G bv z := fun G e => bd.dp G (kFB G e)
    have bdX : ∀ k', bv = .int k' → 1 ≤ k' → k' ≤ 4 → False := fun k' ek a1 a4 => by
      have := bd.no
      rw [ek, num_of a1 a4] at this
      cases this
    refine for_tup (K := K) (a := pt) (xs := [.ref T.a_compare, .ref T.a_agree]) (fun i σ G => Tl K T.tabs (noL l F0) l G (List.replicate i (three z)).flatten ∧ ∃ w, σ = [some (.ref b), some (.int k), some bv, some hv, some (.ref x), some v, some u, some mv, some (.ref l), w, none, none, none]) ⟨tl0, _, rfl⟩ (fun i σ G _ p => ext_sqt p.1.ext hB) ?_ ?_
    · rintro i y σ G hi ⟨tl, w, rfl⟩
      have hi2 : i < 2 := (List.getElem?_eq_some_iff.mp hi).1
      obtain ⟨f, rfl, hf⟩ : ∃ f, y = .ref f ∧ (f = T.a_compare ∨ f = T.a_agree) := by
        match i, hi with
        | 0, hi => exact ⟨_, (Option.some.inj hi).symm, .inl rfl⟩
        | 1, hi => exact ⟨_, (Option.some.inj hi).symm, .inr rfl⟩
      have le : ((List.replicate i (three z)).flatten).length ≤ 3 := by
        have : i = 0 ∨ i = 1 := by omega
        rcases this with rfl | rfl <;> simp
      refine ⟨_, rfl, .inl ⟨rfl, _, SqL.of tl.lst.choose_spec.1⟩, tl.tab, fun L1 x1 t1 => ?_⟩
      refine ⟨f, _, rfl, ⟨hf, rfl⟩, _, rfl, _, rfl, _, rfl, ?_⟩
      have e1 := tl.ext.trans x1
      refine ⟨bv, v, v, rfl, bdN _ e1, fun _ => mNum t1 (bdD _ e1) bd.sh (GotN.to (tl.more (by omega) fun M1 tl1 => ?_) x1), fun k' ek a1 a4 => (bdX k' ek a1 a4).elim⟩
      clear x1 t1 e1 L1
      refine ⟨_, rfl, .inl ⟨rfl, _, SqL.of tl1.lst.choose_spec.1⟩, tl1.tab, fun L1 x1 t1 => ?_⟩
      refine ⟨f, _, rfl, ⟨hf, rfl⟩, _, rfl, _, rfl, _, rfl, ?_⟩
      have e1 := tl1.ext.trans x1
      refine ⟨.int k, v, v, rfl, nv_int k, fun e => (noN e).elim, fun k' ek a1 a4 => ?_⟩
      cases ek
      refine ⟨false, hvG _ e1, fun _ => mHgt t1 (GotN.to (tl1.more (by rw [List.length_append]; simp; omega) fun M2 tl2 => ?_) x1), fun z => by cases z⟩
      clear x1 t1 e1 L1 a1 a4
      refine ⟨_, rfl, .inl ⟨rfl, _, SqL.of tl2.lst.choose_spec.1⟩, tl2.tab, fun L1 x1 t1 => ?_⟩
      refine ⟨f, _, rfl, ⟨hf, rfl⟩, _, rfl, _, rfl, _, rfl, ?_⟩
      have e1 := tl2.ext.trans x1
      refine ⟨.int k, hv, v, rfl, nv_int k, fun e => (noN e).elim, fun k' ek a1 a4 => ?_⟩
      cases ek
      refine ⟨true, .inl ⟨k, r, t, hhG _ e1, (decide_eq_true rfl).symm⟩, fun z => (by cases z), fun _ => ⟨hvG _ e1, mHgt t1 (GotN.to (tl2.more (by rw [List.length_append, List.length_append]; simp; omega) fun M3 tl3 => ?_) x1)⟩⟩
      refine ⟨?_, _, rfl⟩
      have e : (List.replicate (i + 1) (three z)).flatten = (List.replicate i (three z)).flatten ++ ([["refused", "number", z.shown]] : List (List Str)) ++ ([["refused", "height"]] : List (List Str)) ++ ([["refused", "height"]] : List (List Str)) := by
        rw [List.replicate_succ', List.flatten_append]
        simp
      rw [e]
      exact tl3
    · rintro σ G ⟨tl, w, rfl⟩
      have tl0 : Tl K T.tabs (noL l F0) l G [["refused", "number", z.shown], ["refused", "height"], ["refused", "height"], ["refused", "number", z.shown], ["refused", "height"], ["refused", "height"]] := tl
      -- 0
      refine ⟨_, rfl, .inl ⟨rfl, _, SqL.of tl0.lst.choose_spec.1⟩, tl0.tab, fun L1 x1 t1 => ?_⟩
      have e1 := tl0.ext.trans x1
      refine ⟨_, rfl, _, rfl, _, rfl, ?_⟩
      refine ⟨bv, v, u, rfl, bdN _ e1, fun _ => mNum t1 (bdD _ e1) bd.sh (GotN.to (tl0.more (by simp) fun M1 tl1 => ?_) x1), fun k' ek a1 a4 => (bdX k' ek a1 a4).elim⟩
      clear x1 t1 e1 L1
      -- 1
      refine ⟨_, rfl, .inl ⟨rfl, _, SqL.of tl1.lst.choose_spec.1⟩, tl1.tab, fun L1 x1 t1 => ?_⟩
      have e1 := tl1.ext.trans x1
      refine ⟨_, rfl, _, rfl, _, rfl, ?_⟩
      refine ⟨.int k, v, u, rfl, nv_int k, fun e => (noN e).elim, fun k' ek a1 a4 => ?_⟩
      cases ek
      refine ⟨false, hvG _ e1, fun _ => mHgt t1 (GotN.to (tl1.more (by simp) fun M2 tl2 => ?_) x1), fun z => by cases z⟩
      clear x1 t1 e1 L1
      -- 2
      refine ⟨_, rfl, .inl ⟨rfl, _, SqL.of tl2.lst.choose_spec.1⟩, tl2.tab, fun L1 x1 t1 => ?_⟩
      have e1 := tl2.ext.trans x1
      refine ⟨_, rfl, _, rfl, _, rfl, ?_⟩
      refine ⟨.int k, hv, u, rfl, nv_int k, fun e => (noN e).elim, fun k' ek a1 a4 => ?_⟩
      cases ek
      refine ⟨true, .inl ⟨k, r, t, hhG _ e1, (decide_eq_true rfl).symm⟩, fun z => (by cases z), fun _ => ⟨huG _ e1, mWord t1 (GotN.to (tl2.more (by simp) fun M3 tl3 => ?_) x1)⟩⟩
      clear x1 t1 e1 L1
      -- 3
      refine ⟨_, rfl, .inl ⟨rfl, _, SqL.of tl3.lst.choose_spec.1⟩, tl3.tab, fun L1 x1 t1 => ?_⟩
      have e1 := tl3.ext.trans x1
      refine ⟨_, rfl, _, rfl, _, rfl, ?_⟩
      refine ⟨bv, v, mv, rfl, bdN _ e1, fun _ => (mNum t1 (bdD _ e1) bd.sh (GotN.to (tl3.more (by simp) fun M4 tl4 => ?_) x1)).es T.sn_InvalidNumber, fun k' ek a1 a4 => (bdX k' ek a1 a4).elim⟩
      clear x1 t1 e1 L1
      -- 4
      refine ⟨_, rfl, .inl ⟨rfl, _, SqL.of tl4.lst.choose_spec.1⟩, tl4.tab, fun L1 x1 t1 => ?_⟩
      have e1 := tl4.ext.trans x1
      refine ⟨_, rfl, _, rfl, _, rfl, ?_⟩
      refine ⟨.int k, v, mv, rfl, nv_int k, fun e => (noN e).elim, fun k' ek a1 a4 => ?_⟩
      cases ek
      refine ⟨false, hvG _ e1, fun _ => (mHgt t1 (GotN.to (tl4.more (by simp) fun M5 tl5 => ?_) x1)).es T.sn_InvalidHeight, fun z => by cases z⟩
      clear x1 t1 e1 L1
      -- 5
      refine ⟨_, rfl, .inl ⟨rfl, _, SqL.of tl5.lst.choose_spec.1⟩, tl5.tab, fun L1 x1 t1 => ?_⟩
      have e1 := tl5.ext.trans x1
      refine ⟨_, rfl, _, rfl, _, rfl, ?_⟩
      refine ⟨.int k, hv, mv, rfl, nv_int k, fun e => (noN e).elim, fun k' ek a1 a4 => ?_⟩
      cases ek
      refine ⟨true, .inl ⟨k, r, t, hhG _ e1, (decide_eq_true rfl).symm⟩, fun z => (by cases z), fun _ => ⟨hz.num _ (kFB _ e1), fun _ => (mNum t1 (hz.dp _ (kFB _ e1)) hz.sh (GotN.to (tl5.more (by simp) fun M6 tl6 => ?_) x1)).es T.sn_InvalidNumber, fun e => by rw [hz.no] at e; cases e⟩⟩
      clear x1 t1 e1 L1
      -- 6
      refine ⟨_, rfl, .inl ⟨rfl, _, SqL.of tl6.lst.choose_spec.1⟩, tl6.tab, fun L1 x1 t1 => ?_⟩
      have e1 := tl6.ext.trans x1
      refine ⟨_, rfl, _, rfl, ?_⟩
      refine ⟨.int k, hv, .int 60, rfl, nv_int k, fun e => (noN e).elim, fun k' ek a1 a4 => ?_⟩
      cases ek
      refine ⟨true, .inl ⟨k, r, t, hhG _ e1, (decide_eq_true rfl).symm⟩, fun z => (by cases z), fun _ => ⟨nv_int _, fun e => absurd e (by decide), fun _ => ⟨k, r, t, hhG _ e1, hne, zr, zt, fun ys H2 s2 p hp => ?_⟩⟩⟩
      have s3 := Same.trans s2 (same_upd hp (.lst ys))
      refine GotN.fine (tl6.more (by simp) fun M7 tl7 => ?_) (x1.trans (Same.ext s3)) (t1.ext s3)
      clear s3 s2 hp H2 x1 t1 e1 L1
      -- 7
      refine ⟨_, rfl, .inl ⟨rfl, _, SqL.of tl7.lst.choose_spec.1⟩, tl7.tab, fun L1 x1 t1 => ?_⟩
      have e1 := tl7.ext.trans x1
      refine ⟨_, rfl, _, rfl, ?_⟩
      refine ⟨bv, v, rfl, bdN _ e1, fun _ => mNum t1 (bdD _ e1) bd.sh (GotN.to (tl7.more (by simp) fun M8 tl8 => ?_) x1), fun k' ek a1 a4 => (bdX k' ek a1 a4).elim⟩
      clear x1 t1 e1 L1
      -- number, height
      have e8 := tl8.ext
      refine ⟨_, rfl, bv, z, rfl, bdD _ e8, bd.sh, by show 3 ≤ sizeLine; decide, fun N1 pn r1 h1 => ⟨by show 2 ≤ sizeLine; decide, fun N2 ph r2 h2 => ⟨_, _, rfl, ?_⟩⟩⟩
      refine ⟨_, rfl, _, rfl, _, rfl, by show 3 ≤ sizeLine; decide, fun N3 l3 r3 n3 g3 => ?_⟩
      refine ⟨l3, 2, _, rfl, rfl, g3, by decide, by decide, by show 3 * 2 ≤ sizeLine; decide, fun N4 l4 r4 n4 g4 => ?_⟩
      refine ⟨_, rfl, _, rfl, by show 2 ≤ sizeLine; decide, fun N5 p5 r5 h5 => ?_⟩
      refine ⟨_, rfl, _, rfl, _, rfl, mv, zm, rfl, hz.dp _ (kFB _ (e8.trans (Same.ext (Same.trans r1 (Same.trans r2 (Same.trans r3 (Same.trans r4 r5))))))), hz.sh, by show 3 ≤ sizeLine; decide, fun N6 p6 r6 h6 => ?_⟩
      refine ⟨by show 6 ≤ sizeLine; decide, fun N7 l7 r7 n7 g7 => ?_⟩
      have r57 := Same.trans r5 (Same.trans r6 r7)
      refine ⟨l4, l7, _, _, rfl, rfl, r57 _ _ g4, g7, by show 12 ≤ sizeLine; decide, fun N8 l8 r8 n8 g8 => ?_⟩
      -- the answer
      refine ⟨_, rfl, _, rfl, by show 1 ≤ sizeLine; decide, fun N9 p9 r9 h9 => ?_⟩
      refine ⟨_, rfl, by show 2 ≤ sizeLine; decide, fun NA lA rA nA gA => ?_⟩
      refine ⟨l8, lA, _, _, rfl, rfl, Same.trans r9 rA _ _ g8, gA, by show 14 ≤ sizeLine; decide, fun NB lB rB nB gB => ?_⟩
      have z9 := Same.trans rA rB
      have z8 := Same.trans r9 z9
      have z7 := Same.trans r8 z8
      have z6 := Same.trans r7 z7
      have z5 := Same.trans r6 z6
      have z4 := Same.trans r5 z5
      have z3 := Same.trans r4 z4
      have z2 := Same.trans r3 z3
      have z1 := Same.trans r2 z2
      have z0 := Same.trans r1 z1
      obtain ⟨vs, hl8, hs8⟩ := tl8.at_
      have st : ∀ a xs, SqT K M8 a xs → SqT K NB a xs := fun a xs h => Same.sqt z0 h
      have inum : IsSt K NB (.ref pn) ["refused", "number", z.shown] := ⟨pn, rfl, Same.sqt z1 h1⟩
      have ihgt : IsSt K NB (.ref ph) ["refused", "height"] := ⟨ph, rfl, Same.sqt z2 h2⟩
      have two : IsSts K NB _ ([["refused", "number", z.shown], ["refused", "height"], ["refused", "height"], ["refused", "number", z.shown], ["refused", "height"], ["refused", "height"], ["refused", "number", z.shown], ["refused", "height"], ["refused", "word"], ["refused", "number", z.shown], ["refused", "height"], ["refused", "number", zm.shown], ["fine"], ["refused", "number", z.shown]]) :=
        .cons inum (.cons ihgt (.cons ihgt (.cons inum (.cons ihgt (.cons ihgt (.cons inum (.cons ihgt (.cons ⟨p5, rfl, Same.sqt z5 h5⟩ (.cons inum (.cons ihgt (.cons ⟨p6, rfl, Same.sqt z6 h6⟩ (.cons ⟨p9, rfl, Same.sqt z9 h9⟩ (.cons inum .nil)))))))))))))
      have lay : ∀ l ∈ ([["refused", "number", z.shown], ["refused", "height"], ["refused", "height"], ["refused", "number", z.shown], ["refused", "height"], ["refused", "height"], ["refused", "number", z.shown], ["refused", "height"], ["refused", "word"], ["refused", "number", z.shown], ["refused", "height"], ["refused", "number", zm.shown], ["fine"], ["refused", "number", z.shown]] : List (List Str)), ∀ x ∈ l, (PyData.str x).canLay0 = true := by
        have f1 : (PyData.str "refused").canLay0 = true := by decide +kernel
        have f2 : (PyData.str "number").canLay0 = true := by decide +kernel
        have f3 : (PyData.str "word").canLay0 = true := by decide +kernel
        have f4 : (PyData.str "height").canLay0 = true := by decide +kernel
        have f5 : (PyData.str "fine").canLay0 = true := by decide +kernel
        have hz1 := bd.sh.2.2.2.2
        have hz2 := hz.sh.2.2.2.2
        simp only [List.mem_cons, List.not_mem_nil, or_false, forall_eq_or_imp, forall_eq]
        exact ⟨⟨f1, f2, hz1⟩, ⟨f1, f4⟩, ⟨f1, f4⟩, ⟨f1, f2, hz1⟩, ⟨f1, f4⟩, ⟨f1, f4⟩, ⟨f1, f2, hz1⟩, ⟨f1, f4⟩, ⟨f1, f3⟩, ⟨f1, f2, hz1⟩, ⟨f1, f4⟩, ⟨f1, f2, hz2⟩, f5, f1, f2, hz1⟩
      have hs9 : IsSts K NB vs ([["refused", "number", z.shown], ["refused", "height"], ["refused", "height"], ["refused", "number", z.shown], ["refused", "height"], ["refused", "height"], ["refused", "number", z.shown], ["refused", "height"], ["refused", "word"], ["refused", "number", z.shown], ["refused", "height"], ["refused", "number", zm.shown], ["fine"], ["refused", "number", z.shown]]) := hs8.to st
      have eq8 := eqv_sts lay
      refine ⟨_, _, IsSts.dp (SqL.of (z0 _ _ hl8)) hs9, IsSts.dp (SqL.of gB) two, shaped_sts lay, shaped_sts lay, _, rfl, ?_⟩
      rw [eq8]
      refine iteT ?_
      have eNB := e8.trans (Same.ext z0)
      refine ⟨_, rfl, _, rfl, .int k, v, rfl, nv_int k, fun e => (noN e).elim, fun k' ek a1 a4 => ?_⟩
      cases ek
      refine ⟨false, hvG _ eNB, fun NC sC => ⟨false, false, rfl, rfl, ?_⟩⟩
      exact q NC (kHF.trans (kFB _ (eNB.trans (Same.ext sC)))) ((tl8.tab.ext z0).ext sC)
end
end K06
/-! K06l -/
set_option Elab.async false
set_option linter.all false
set_option maxRecDepth 100000
set_option maxHeartbeats 4000000
namespace K06
open PySem PySem.Spec PyProof.Rows L2 PpSet RL LamX
def sp_law {K : PySem.W.Frag} {mg : Str → Option Value} (T : Txt K mg) : Sp := fun vs H Q _ => ∃ (a : Addr) (xs : List Int), vs = [.ref a] ∧ SqL K H a (xs.map V.int) ∧ xs.length ≤ 100 ∧ Tabs T.tabs H ∧ ∀ H', Q (.bl true) H'
theorem c200 : EW.kept (List.replicate (Int.toNat 200) 0) (List.replicate (Int.toNat 200) 0) = ([0], []) := by decide +kernel
theorem c1 : EW.kept [0] [] = ([0], []) := by decide +kernel
section
variable {P : Program} {w : World} {K : PySem.W.Frag} {mg : Str → Option Value} {base : Heap}
theorem ok_law (T : Txt K mg) (TB : ∀ p ∈ T.cs, TabB base mg p.1 p.2) : FnG P w K mg base CX0 12 T.a_law T.d_law ["script"] (sp_law T) := by
  refine Fun.okG T.F_law sc_law (fun vs H Q E h => ?_) (fun cdv A outer s H vs Q E hcd hg hr h => ?_)
  · obtain ⟨a, xs, rfl, _⟩ := h
    rfl
  · obtain ⟨a, xs, rfl, hx, hz, ht, q⟩ := h
    refine ⟨_, (pss_cons (ps_for PassesOwn.never rfl (pi_range1 rfl T.n_range (pa_cons (pe_callB (call_max2 rfl) rfl T.n_max (by decide +kernel) (pa_cons pe_int (pa_cons (pe_callB (call_min2 rfl) rfl T.n_min (by decide +kernel) (pa_cons pe_int (pa_cons (pe_callB call_len_seq rfl T.n_len (by decide +kernel) (pa_cons (pv 0) pa_nil)) pa_nil))) pa_nil))) pa_nil)) (pg_name (i := 1) sc_law.nd rfl (Or.inl rfl)) (pss_cons (ps_set (i := 2) sc_law.nd rfl (Or.inl rfl) (pe_call (ok__law_bag T) (hr.mono (by decide)) rfl T.m__law_bag T.F__law_bag.kp T.b__law_bag .nil pass0 (pa_cons (pv 0) (pa_cons (pv 1) pa_nil)))) (pss_cons (ps_set (i := 3) sc_law.nd rfl (Or.inl rfl) (pe_op op_add pe_int (pe_call (ok__law_grab T) (hr.mono (by decide)) rfl T.m__law_grab T.F__law_grab.kp T.b__law_grab .nil pass0 (pa_cons (pv 2) (pa_cons pe_int pa_nil))))) (pss_cons (ps_set (i := 4) sc_law.nd rfl (Or.inl rfl) (pe_call (ok__law_one_of T) (hr.mono (by decide)) rfl T.m__law_one_of T.F__law_one_of.kp T.b__law_one_of .nil pass0 (pa_cons (pv 2) (pa_cons (pe_lstS (pa_cons pe_non (pa_cons pe_int (pa_cons pe_int (pa_cons (pe_un un_neg pe_int) (pa_cons pe_bl (pa_cons pe_str (pa_cons (pe_tupK (K := K) rfl (pa_cons pe_int pa_nil)) (pa_cons (pe_op op_pow pe_int pe_int) pa_nil))))))))) pa_nil)))) (pss_cons (ps_set (i := 5) sc_law.nd rfl (Or.inl rfl) (pe_call (ok__law_word_drawn T) (hr.mono (by decide)) rfl T.m__law_word_drawn T.F__law_word_drawn.kp T.b__law_word_drawn .nil pass0 (pa_cons (pv 2) (pa_cons (pv 3) (pa_cons pe_int pa_nil))))) (pss_cons (ps_set (i := 6) sc_law.nd rfl (Or.inl rfl) (pe_makeK (E := E0) (n := 2) T.mk_Endless (ok_Endless___init__ T) (hr.mono (by decide)) rfl T.mC_Endless T.kb_Endless passL (pa_cons (pv 3) (pa_cons (pe_tupK (K := K) rfl (pa_cons (pe_op op_sub (pv 3) pe_int) pa_nil)) pa_nil)) (pk_cons (pv 5) pk_nil))) (pss_cons (ps_if (PW.pt (pw_or (pt_not (pt_val (pe_callG hg (ok__law_makings_right T TB) (hr.mono (by decide)) rfl T.m__law_makings_right T.F__law_makings_right.kp T.b__law_makings_right pass0 (pa_cons (pv 2) (pa_cons (pv 3) (pa_cons (pv 4) (pa_cons (pv 5) pa_nil))))))) (pw_or1 (pt_not (pt_val (pe_callG hg (ok__law_methods_right T TB) (hr.mono (by decide)) rfl T.m__law_methods_right T.F__law_methods_right.kp T.b__law_methods_right pass0 (pa_cons (pv 2) (pa_cons (pv 3) (pa_cons (pv 6) pa_nil))))))))) (pss_one (ps_ret pe_bl)) pss_nil) (pss_one (ps_if (pt_not (pt_val (pe_callG hg (ok__law_heights_right T TB) (hr.mono (by decide)) rfl T.m__law_heights_right T.F__law_heights_right.kp T.b__law_heights_right pass0 (pa_cons (pv 2) (pa_cons (pv 3) (pa_cons (pv 4) (pa_cons (pv 6) pa_nil))))))) (pss_one (ps_ret pe_bl)) pss_nil))))))))) (pss_one (ps_ret (pe_and (pe_cmpR (op_eqD hr.units) (pe_lstS (pa_cons (pe_glob (v := .int 1000) rfl T.g_MAX_END ⟨_, rfl⟩) (pa_cons (pe_glob (v := .int 60) rfl T.g_MOST_ENDS ⟨_, rfl⟩) pa_nil))) (pe_lstS (pa_cons pe_int (pa_cons pe_int pa_nil))) (nomark _)) (pe_one (pe_cmpR (op_eqO (E := E0) T.eq_Endless T.eqf_Endless (ok_Endless___eq__ T) (hr.mono (by decide)) T.b_Endless___eq__ pass0) (pe_makeK (E := E0) (n := 2) T.mk_Endless (ok_Endless___init__ T) (hr.mono (by decide)) rfl T.mC_Endless T.kb_Endless passL (pa_cons pe_int (pa_cons (pe_op op_repS (pe_tupK (K := K) rfl (pa_cons pe_int pa_nil)) pe_int) pa_nil)) (pk_cons (pe_op op_repS (pe_tupK (K := K) rfl (pa_cons pe_int pa_nil)) pe_int) pk_nil)) (pe_make (E := E0) T.mk_Endless (ok_Endless___init__ T) (hr.mono (by decide)) rfl T.mC_Endless T.b_Endless___init__ T.v_Endless passL (pa_cons pe_int (pa_cons (pe_tupK (K := K) rfl (pa_cons pe_int pa_nil)) pa_nil))) (nomark _))))))), ?_⟩
    refine ⟨_, rfl, _, _, rfl, .inl hx, _, _, rfl, _, _, rfl, ?_⟩
    rw [List.length_map]
    refine ⟨_, rfl, by split <;> (try split) <;> omega, by split <;> (try split) <;> omega, for_range (fun i σ H2 => ExtN H H2 ∧ Tabs T.tabs H2 ∧ ∃ u1 u2 u3 u4 u5 u6, σ = [some (.ref a), u1, u2, u3, u4, u5, u6]) ⟨ExtN.refl H, ht, _, _, _, _, _, _, rfl⟩ ?_ ?_⟩
    · rintro i σ H2 hi ⟨x2, t2, u1, u2, u3, u4, u5, u6, rfl⟩
      have hi3 : i < 1000 := by
        refine Nat.lt_of_lt_of_le hi ?_
        split <;> (try split) <;> omega
      refine ⟨_, rfl, _, rfl, a, xs, i, by rw [Int.zero_add]; rfl, ext_sql x2 hx, hi3, fun H3 b s3 hb hb0 => ?_⟩
      have t3 := t2.ext s3
      -- letters
      refine ⟨_, rfl, b, 4, rfl, hb, by decide, by decide, fun H4 r k4 r0 r4 => ⟨_, _, rfl, rfl, ?_⟩⟩
      have t4 := tabs_kp hb k4 t3
      have b4 := k4.1
      -- bad
      refine ⟨_, rfl, _, rfl, by show 1 ≤ sizeLine; decide, fun H5 p5 s5 h5 => ?_⟩
      refine ⟨_, _, rfl, rfl, ⟨by decide, by decide, by decide⟩, by show 8 ≤ sizeLine; decide, fun HA la sA nA eA => ?_⟩
      have bA := b4.same (Same.trans s5 sA)
      refine ⟨b, la, _, rfl, bA, ne_bag (b4.same s5) nA, eA, by show 0 < 8; decide, by show 8 < 1000; decide, fun HB v kB hm => ?_⟩
      replace hm : BadS K b HB v 1 4 := by
        simp only [List.mem_cons, List.not_mem_nil, or_false] at hm
        rcases hm with rfl | rfl | rfl | rfl | rfl | rfl | rfl | rfl
        · exact bs_non
        · exact bs_int (by decide +kernel) (by decide)
        · exact bs_int (by decide +kernel) (by decide)
        · exact bs_int (by decide +kernel) (by decide)
        · exact bs_bl
        · exact bs_str (by decide +kernel)
        · exact bs_tup kB.1 ((KpN.of kB).sqt bA (Same.sqt sA h5)) (by decide +kernel)
        · exact bs_int (by decide +kernel) (by decide +kernel)
      obtain ⟨z, hbad⟩ := hm
      have tB := tabs_kp bA kB (t4.ext (Same.trans s5 sA))
      have bB := kB.1
      have k3B : KpN b H3 HB := (KpN.of k4).trans ((KpN.ext b4 (Same.ext (Same.trans s5 sA))).trans (KpN.of kB))
      -- word
      refine ⟨_, rfl, _, rfl, b, 1 + r, 4, rfl, bB, by omega, by omega, by decide, by decide, fun HC wv ws kC hw hl ho => ?_⟩
      have tC := tabs_kp bB kC tB
      have bC := kC.1
      have k3C := k3B.trans (KpN.of kC)
      have bdC := hbad.to (KpN.of kC)
      have ow : okW (1 + r) ws := ⟨by omega, ho⟩
      -- here
      refine ⟨_, rfl, _, rfl, _, _, rfl, rfl, by show 1 ≤ sizeLine; decide, fun H6 p6 s6 h6 => ?_⟩
      refine ⟨_, rfl, rfl, rfl, fun x dx nx ndx ne => ?_⟩
      have sN := same_new2 (C := T.C_Endless) nx ndx
      have o1 : okW (1 + r) [1 + r - 1] := ⟨by show 1 ≤ 200; decide, fun n hn => by rw [List.mem_singleton.mp hn]; omega⟩
      have h6N := Same.sqt sN h6
      have hwN := hw.same (Same.trans s6 sN)
      refine ⟨x, dx, .int (1 + r), .ref p6, wv, rfl, upd_same, nv_int _, fun e => (by rw [num_of (by omega) (by omega)] at e; cases e), fun k' ek a1 a4 => ?_⟩
      cases ek
      refine ⟨true, spv_of (ws := [1 + r - 1]) ⟨p6, rfl, h6N⟩ o1, fun z => (by cases z), fun _ => ⟨true, spv_of hwN ow, fun z => (by cases z), fun _ => ⟨[1 + r - 1], ws, ⟨p6, rfl, h6N⟩, hwN, o1, ow, fun z => (by cases z), fun hne HD rv' tv' bD hD hr' ht' => ⟨rfl, ?_⟩⟩⟩⟩
      have sCD : Same HC HD := fun c o e => bD c o (ne_of_none (s6 c o e) nx) (sN c o (s6 c o e))
      have hhD : EndAt K T.C_Endless HD (.ref x) (1 + r) (EW.kept [1 + r - 1] ws).1 (EW.kept [1 + r - 1] ws).2 := ⟨x, dx, rv', tv', rfl, hD, hr', ht'⟩
      have kl := EW.kept_len hne ws
      have kn := EW.kept_ne hne ws
      have bD := bC.same sCD
      have kCD : KpN b HC HD := KpN.ext bC (Same.ext sCD)
      -- makings
      refine ⟨_, rfl, _, rfl, _, rfl, _, rfl, b, 1 + r, v, wv, z, ws, rfl, bD, by omega, by omega, bdC.to kCD, hw.same sCD, ow, tC.ext sCD, fun HE kE tE => ⟨_, rfl, iteF ?_⟩⟩
      have hhE := hhD.kpn bD kE
      have l1 : (EW.kept [1 + r - 1] ws).1.length ≤ 1000 := by have := kl.1; simp at this; omega
      have l2 : (EW.kept [1 + r - 1] ws).2.length ≤ 1000 := by have := kl.2; omega
      -- methods
      refine ⟨_, rfl, _, rfl, _, rfl, b, 1 + r, .ref x, _, _, rfl, kE.1, by omega, by omega, hhE, kn, l1, l2, tE, fun HF kF tF => ⟨_, rfl, iteF ?_⟩⟩
      -- heights
      refine ⟨_, rfl, _, rfl, _, rfl, _, rfl, b, 1 + r, v, .ref x, z, _, _, rfl, kF.1, by omega, by omega, (bdC.to kCD).to (kE.trans kF), hhE.kpn kE.1 kF, kn, l1, l2, tF, fun HG kG tG => ⟨_, rfl, iteF ?_⟩⟩
      have k3G := k3C.trans (kCD.trans (kE.trans (kF.trans kG)))
      refine ⟨fun c o e n => ?_, tG, _, _, _, _, _, _, rfl⟩
      have e2 := x2 c o e n
      exact k3G.2 c o (fun z => by rw [z, hb0] at e2; cases e2) (s3 c o e2) n
    rintro σ H2 ⟨x2, t2, u1, u2, u3, u4, u5, u6, rfl⟩
    refine ⟨by show 2 ≤ sizeLine; decide, fun I1 j1 i1 _ hj1 => ⟨by show 2 ≤ sizeLine; decide, fun I2 j2 i2 _ hj2 => ?_⟩⟩
    have hd : ∀ {H : Hp} {t : Addr}, H t = some (.lst [.int 1000, .int 60]) → Dp K H (.ref t) (.list [.int 1000, .int 60]) := fun h1 => .lst (SqL.of h1) (.cons (.int _) (.cons (.int _) .nil))
    refine ⟨_, _, hd (i2 _ _ hj1), hd hj2, by decide +kernel, by decide +kernel, _, rfl, ifT (by decide +kernel) ?_⟩
    refine ⟨by show 1 ≤ sizeLine; decide, fun L2 p s2 hp => ?_⟩
    refine ⟨p, _, _, rfl, rfl, hp, by decide, by decide, by decide, fun L3 r s3 hr3 => ?_⟩
    refine ⟨by show 1 ≤ sizeLine; decide, fun L4 p4 s4 hp4 => ?_⟩
    refine ⟨p4, _, _, rfl, rfl, hp4, by decide, by decide, by decide, fun L5 r5 s5 hr5 => ?_⟩
    refine ⟨rfl, rfl, fun x dx nx ndx ne => ?_⟩
    rw [zeros_v] at hr3 hr5
    have sN := same_new2 (C := T.C_Endless) nx ndx
    have hr3 := Same.sqt (Same.trans s4 (Same.trans s5 sN)) hr3
    have hr5 := Same.sqt sN hr5
    have o200 : okW 1 (List.replicate (Int.toNat 200) (0 : Int)) := ⟨by rw [List.length_replicate]; decide, fun n hn => by rw [List.eq_of_mem_replicate hn]; omega⟩
    refine ⟨x, dx, .int 1, .ref r, .ref r5, rfl, upd_same, nv_int _, fun e => absurd e (by decide), fun k' ek a1 a4 => ?_⟩
    cases ek
    refine ⟨true, spv_of ⟨r, rfl, hr3⟩ o200, fun z => (by cases z), fun _ => ⟨true, spv_of ⟨r5, rfl, hr5⟩ o200, fun z => (by cases z), fun _ => ⟨_, _, ⟨r, rfl, hr3⟩, ⟨r5, rfl, hr5⟩, o200, o200, fun z => ?_, fun _ M rv' tv' bM hM hrM htM => ⟨rfl, ?_⟩⟩⟩⟩
    · exact absurd (congrArg List.length z) (by rw [List.length_replicate]; decide)
    rw [c200] at hrM htM
    have hhM : EndAt K T.C_Endless M (.ref x) 1 [0] [] := ⟨x, dx, rv', tv', rfl, hM, hrM, htM⟩
    refine ⟨by show 1 ≤ sizeLine; decide, fun N1 p1 s1 h1 => ?_⟩
    refine fun y dy ny ndy ney => ?_
    have sY := same_new2 (C := T.C_Endless) ny ndy
    have h1Y := Same.sqt sY h1
    have o1 : okW 1 [0] := ⟨by decide, fun n hn => by rw [List.mem_singleton.mp hn]; omega⟩
    have o0 : okW 1 [] := ⟨by decide, fun n hn => by cases hn⟩
    refine ⟨y, dy, .int 1, .ref p1, _, rfl, upd_same, nv_int _, fun e => absurd e (by decide), fun k' ek a1 a4 => ?_⟩
    cases ek
    refine ⟨true, spv_of (ws := [0]) ⟨p1, rfl, h1Y⟩ o1, fun z => (by cases z), fun _ => ⟨true, spv_of (ws := []) ⟨_, rfl, T.et_Endless___init___tail _⟩ o0, fun z => (by cases z), fun _ => ⟨[0], [], ⟨p1, rfl, h1Y⟩, ⟨_, rfl, T.et_Endless___init___tail _⟩, o1, o0, fun z => (by cases z), fun _ N rv2 tv2 bN hN hrN htN => ⟨rfl, ?_⟩⟩⟩⟩
    rw [c1] at hrN htN
    have sMN : Same M N := fun c o e => bN c o (ne_of_none (s1 c o e) ny) (sY c o (s1 c o e))
    have hhN : EndAt K T.C_Endless N (.ref y) 1 [0] [] := ⟨y, dy, rv2, tv2, rfl, hN, hrN, htN⟩
    refine ⟨x, _, _, _, rfl, sMN _ _ hM, tyx_end T hN, T.nf_Endless, .ref x, .ref y, 1, [0], [], rfl, hhM.same sMN, .inr ⟨1, [0], [], hhN, ?_⟩⟩
    exact q _
end
end K06
/-! K06y -/
set_option Elab.async false
set_option linter.all false
set_option maxRecDepth 100000
set_option maxHeartbeats 2000000
namespace K06
open PySem PySem.Spec PyProof.Rows L2 PpSet RL
theorem bind_init (D : Addr) (doc pm : Value) (an : Option Addr) (cdv ct : Value) (us ks : List Value) (h1 : us.length = 3) (h2 : ks.length = 1) :
    KwChain D ([("tail" : Str)].zip ks) (bindArgs (PySem.W.fnOf "__init__" "Endless.__init__" (defArgs s_Endless___init__) (defBody s_Endless___init__) (defScope s_Endless___init__) .none (.ref D) doc pm an cdv ct) ⟨us, []⟩) ([("self" : Str), "letters", "ring", "tail"].zip (us ++ ks)) := by
  match us, ks, h1, h2 with
  | [a, b, c], [e], _, _ => exact ⟨_, _, _, _, _, _, rfl, rfl, rfl⟩
theorem bind_initK (D : Addr) (doc pm : Value) (an : Option Addr) (cdv ct : Value) (us ws : List Value) (h1 : us.length = 3) (h2 : ws.length = 1) :
    KwChain D [] (bindArgs (PySem.W.fnOf "__init__" "Endless.__init__" (defArgs s_Endless___init__) (defBody s_Endless___init__) (defScope s_Endless___init__) .none (.ref D) doc pm an cdv ct) ⟨us, [("tail" : Str)].zip ws⟩) ([("self" : Str), "letters", "ring", "tail"].zip (us ++ ws)) := by
  match us, ws, h1, h2 with
  | [a, b, c], [e], _, _ => exact rfl
theorem vals1_ref {e : Addr} {ds : List Value} (h : Vals [V.ref e] ds) : ds = [Value.ref e] := by
  obtain ⟨u, rfl, r⟩ := h.one
  exact congrArg (fun x => [x]) (show u = Value.ref e from r)
end K06
/-! K06q -/
set_option Elab.async false
set_option linter.all false
set_option maxRecDepth 100000
set_option maxHeartbeats 4000000
namespace K06
open PySem PySem.Spec PyProof.Rows L2 PpSet RL LamX
theorem kit_no {K : PySem.W.Frag} {C : Addr} {T : String} {l : List Value} (hm : fastBuiltinMro T = some l) (hl : l.contains (.ref C) = false) (hd : PySem.W.hasDictIn K C = true) (ty : PySem.W.typeIn K (.ref C) = some (.type "type")) : PySem.W.kitOne K (.type T) (.ref C) = some false := by
  have hc : (PySem.W.clsIn K C).isSome = true := by
    obtain ⟨cd, hc, _⟩ := PySem.W.any_some hd
    rw [hc]
    rfl
  have hs : PySem.W.subIn K (.type T) (.ref C) = some false := by
    show (fastBuiltinMro T).map (·.contains (.ref C)) = some false
    rw [hm]
    show some (l.contains (.ref C)) = some false
    rw [hl]
  unfold PySem.W.kitOne
  rw [if_neg (by simp)]
  show (if ((PySem.W.clsIn K C).isSome && PySem.W.typeIn K (.ref C) == some (.type "type")) = true then PySem.W.subIn K (.type T) (.ref C) else none) = some false
  rw [if_pos (by rw [hc, ty]; simp), hs]
theorem kit_own {K : PySem.W.Frag} {C : Addr} {T : String} {b : Bool} (h : PySem.W.subIn K (.ref C) (.type T) = some b) (m : PySem.W.kitMeta T = true) : PySem.W.kitOne K (.ref C) (.type T) = some b := by
  unfold PySem.W.kitOne
  rw [if_neg (by simp)]
  show (if PySem.W.kitMeta T = true then PySem.W.subIn K (.ref C) (.type T) else none) = some b
  rw [if_pos m]
  exact h
theorem tab_mk {K : PySem.W.Frag} {x : Str} {f c P : Addr} {oc e : Value} {od dd : Option Addr} {fd : FuncData} {sl s2 : Array (Option Value)} {vs : Array Value} (a : PySem.W.nsIn K mainGlobals x = some (some (.ref f))) (l : K.lookup f = some ⟨oc, od, .func fd, sl⟩)
    (hc : fd.code = .ref c) (k : K.lookup c = some ⟨e, dd, .fields vs, s2⟩) (hv : vs[11]? = some (.ref P)) : PySem.W.tabIn K x = some (c, P) := by
  unfold PySem.W.tabIn
  simp only [a, l, hc, k, hv]
theorem exm_mk {K : PySem.W.Frag} {S R : Addr} {v : Bool} (h1 : PySem.W.subIn K (.ref R) (.type "BaseException") = some true) (h2 : PySem.W.isClsIn K R = true) (h3 : PySem.W.typeIn K (.ref R) = some (.type "type")) (h4 : PySem.W.subIn K (.ref S) (.ref R) = some v) :
    PySem.W.exmOne K (.ref S) (.ref R) = some v := by
  have a1 : (PySem.W.subIn K (.ref R) (.type "BaseException") == some true) = true := by rw [h1]; rfl
  have a2 : ((PySem.W.clsIn K R).isSome && PySem.W.typeIn K (.ref R) == some (.type "type")) = true := by
    rw [show (PySem.W.clsIn K R).isSome = true from h2, h3]
    rfl
  show (if (PySem.W.subIn K (.ref R) (.type "BaseException") == some true) = true then
    (if ((PySem.W.clsIn K R).isSome && PySem.W.typeIn K (.ref R) == some (.type "type")) = true then PySem.W.subIn K (.ref S) (.ref R) else none) else none) = some v
  rw [if_pos a1, if_pos a2]
  exact h4
def txt_mk {K : PySem.W.Frag} {h : Heap} {mg : Str → Option Value} (X : K.In h) (G : h.Ns mainGlobals mg)
    {CC : Addr}
    {f0 : Addr} {od0 an0 : Option Addr} {sl0 : Array (Option Value)} {oc0 kV0 dc0 pm0 cd0 ct0 : Value}
    {f1 : Addr} {od1 an1 : Option Addr} {sl1 : Array (Option Value)} {oc1 kV1 dc1 pm1 cd1 ct1 : Value}
    {f2 : Addr} {od2 an2 : Option Addr} {sl2 : Array (Option Value)} {oc2 kV2 dc2 pm2 cd2 ct2 : Value}
    {f3 : Addr} {od3 an3 : Option Addr} {sl3 : Array (Option Value)} {oc3 kV3 dc3 pm3 cd3 ct3 : Value}
    {f4 : Addr} {od4 an4 : Option Addr} {sl4 : Array (Option Value)} {oc4 kV4 dc4 pm4 cd4 ct4 : Value}
    {f5 : Addr} {od5 an5 : Option Addr} {sl5 : Array (Option Value)} {oc5 kV5 dc5 pm5 cd5 ct5 : Value}
    {f6 : Addr} {od6 an6 : Option Addr} {sl6 : Array (Option Value)} {oc6 kV6 dc6 pm6 cd6 ct6 : Value}
    {f7 : Addr} {od7 an7 : Option Addr} {sl7 : Array (Option Value)} {oc7 dc7 pm7 cd7 ct7 : Value}
    {D0 e0 : Addr} {eod : Option Addr} {en : Nat} {esl : Array (Option Value)}
    {f8 : Addr} {od8 an8 : Option Addr} {sl8 : Array (Option Value)} {oc8 kV8 dc8 pm8 cd8 ct8 : Value}
    {q8 : Addr} {rs8 : List Value}
    {f9 : Addr} {od9 an9 : Option Addr} {sl9 : Array (Option Value)} {oc9 kV9 dc9 pm9 cd9 ct9 : Value}
    {q9 : Addr} {rs9 : List Value}
    {f10 : Addr} {od10 an10 : Option Addr} {sl10 : Array (Option Value)} {oc10 kV10 dc10 pm10 cd10 ct10 : Value}
    {q10 : Addr} {rs10 : List Value}
    {f11 : Addr} {od11 an11 : Option Addr} {sl11 : Array (Option Value)} {oc11 kV11 dc11 pm11 cd11 ct11 : Value}
    {f12 : Addr} {od12 an12 : Option Addr} {sl12 : Array (Option Value)} {oc12 kV12 dc12 pm12 cd12 ct12 : Value}
    {f13 : Addr} {od13 an13 : Option Addr} {sl13 : Array (Option Value)} {oc13 kV13 dc13 pm13 cd13 ct13 : Value}
    {f14 : Addr} {od14 an14 : Option Addr} {sl14 : Array (Option Value)} {oc14 kV14 dc14 pm14 cd14 ct14 : Value}
    {f15 : Addr} {od15 an15 : Option Addr} {sl15 : Array (Option Value)} {oc15 kV15 dc15 pm15 cd15 ct15 : Value}
    {f16 : Addr} {od16 an16 : Option Addr} {sl16 : Array (Option Value)} {oc16 kV16 dc16 pm16 cd16 ct16 : Value}
    {f17 : Addr} {od17 an17 : Option Addr} {sl17 : Array (Option Value)} {oc17 kV17 dc17 pm17 cd17 ct17 : Value}
    {f18 : Addr} {od18 an18 : Option Addr} {sl18 : Array (Option Value)} {oc18 kV18 dc18 pm18 cd18 ct18 : Value}
    {f19 : Addr} {od19 an19 : Option Addr} {sl19 : Array (Option Value)} {oc19 kV19 dc19 pm19 cd19 ct19 : Value}
    {f20 : Addr} {od20 an20 : Option Addr} {sl20 : Array (Option Value)} {oc20 kV20 dc20 pm20 cd20 ct20 : Value}
    {f21 : Addr} {od21 an21 : Option Addr} {sl21 : Array (Option Value)} {oc21 kV21 dc21 pm21 cd21 ct21 : Value}
    {f22 : Addr} {od22 an22 : Option Addr} {sl22 : Array (Option Value)} {oc22 kV22 dc22 pm22 cd22 ct22 : Value}
    {f23 : Addr} {od23 an23 : Option Addr} {sl23 : Array (Option Value)} {oc23 kV23 dc23 pm23 cd23 ct23 : Value}
    {f24 : Addr} {od24 an24 : Option Addr} {sl24 : Array (Option Value)} {oc24 kV24 dc24 pm24 cd24 ct24 : Value}
    {f25 : Addr} {od25 an25 : Option Addr} {sl25 : Array (Option Value)} {oc25 kV25 dc25 pm25 cd25 ct25 : Value}
    {f26 : Addr} {od26 an26 : Option Addr} {sl26 : Array (Option Value)} {oc26 kV26 dc26 pm26 cd26 ct26 : Value}
    {f27 : Addr} {od27 an27 : Option Addr} {sl27 : Array (Option Value)} {oc27 kV27 dc27 pm27 cd27 ct27 : Value}
    {f28 : Addr} {od28 an28 : Option Addr} {sl28 : Array (Option Value)} {oc28 kV28 dc28 pm28 ct28 : Value}
    {cc28 P28 : Addr}
    {f29 : Addr} {od29 an29 : Option Addr} {sl29 : Array (Option Value)} {oc29 kV29 dc29 pm29 ct29 : Value}
    {cc29 P29 : Addr}
    {f30 : Addr} {od30 an30 : Option Addr} {sl30 : Array (Option Value)} {oc30 kV30 dc30 pm30 ct30 : Value}
    {cc30 P30 : Addr}
    {f31 : Addr} {od31 an31 : Option Addr} {sl31 : Array (Option Value)} {oc31 kV31 dc31 pm31 cd31 ct31 : Value}
    {f32 : Addr} {od32 an32 : Option Addr} {sl32 : Array (Option Value)} {oc32 kV32 dc32 pm32 cd32 ct32 : Value}
    {tk_MAX_LETTERS : Tok}
    {tk_MAX_WORD : Tok}
    {tk_MAX_END : Tok}
    {tk_MOST_ENDS : Tok}
    {X_InvalidWord : Addr}
    {X_InvalidHeight : Addr}
    {X_InvalidOperation : Addr}
    {X_InvalidNumber : Addr}
    {I_InvalidNumber : Addr} {xod_InvalidNumber xan_InvalidNumber : Option Addr} {xsl_InvalidNumber : Array (Option Value)} {xoc_InvalidNumber xdc_InvalidNumber xpm_InvalidNumber xcd_InvalidNumber xct_InvalidNumber : Value}
    (aC : PySem.W.nsIn K mainGlobals "Endless" = some (some (.ref CC)))
    (a0 : PySem.W.nsIn K mainGlobals "is_number" = some (some (.ref f0)))
    (l0 : K.lookup f0 = some ⟨oc0, od0, .func (PySem.W.fnOf "is_number" "is_number" (defArgs s_is_number) (defBody s_is_number) (defScope s_is_number) .none kV0 dc0 pm0 an0 cd0 ct0), sl0⟩)
    (c0 : PySem.W.codeIn K cd0 "is_number" = true)
    (k0 : PySem.W.keepIn K (.ref f0) = true)
    (a1 : PySem.W.nsIn K mainGlobals "check_number" = some (some (.ref f1)))
    (l1 : K.lookup f1 = some ⟨oc1, od1, .func (PySem.W.fnOf "check_number" "check_number" (defArgs s_check_number) (defBody s_check_number) (defScope s_check_number) .none kV1 dc1 pm1 an1 cd1 ct1), sl1⟩)
    (c1 : PySem.W.codeIn K cd1 "check_number" = true)
    (k1 : PySem.W.keepIn K (.ref f1) = true)
    (a2 : PySem.W.nsIn K mainGlobals "check_letters" = some (some (.ref f2)))
    (l2 : K.lookup f2 = some ⟨oc2, od2, .func (PySem.W.fnOf "check_letters" "check_letters" (defArgs s_check_letters) (defBody s_check_letters) (defScope s_check_letters) .none kV2 dc2 pm2 an2 cd2 ct2), sl2⟩)
    (c2 : PySem.W.codeIn K cd2 "check_letters" = true)
    (k2 : PySem.W.keepIn K (.ref f2) = true)
    (a3 : PySem.W.nsIn K mainGlobals "is_spelled" = some (some (.ref f3)))
    (l3 : K.lookup f3 = some ⟨oc3, od3, .func (PySem.W.fnOf "is_spelled" "is_spelled" (defArgs s_is_spelled) (defBody s_is_spelled) (defScope s_is_spelled) .none kV3 dc3 pm3 an3 cd3 ct3), sl3⟩)
    (c3 : PySem.W.codeIn K cd3 "is_spelled" = true)
    (k3 : PySem.W.keepIn K (.ref f3) = true)
    (a4 : PySem.W.nsIn K mainGlobals "check_word" = some (some (.ref f4)))
    (l4 : K.lookup f4 = some ⟨oc4, od4, .func (PySem.W.fnOf "check_word" "check_word" (defArgs s_check_word) (defBody s_check_word) (defScope s_check_word) .none kV4 dc4 pm4 an4 cd4 ct4), sl4⟩)
    (c4 : PySem.W.codeIn K cd4 "check_word" = true)
    (k4 : PySem.W.keepIn K (.ref f4) = true)
    (a5 : PySem.W.nsIn K mainGlobals "_root" = some (some (.ref f5)))
    (l5 : K.lookup f5 = some ⟨oc5, od5, .func (PySem.W.fnOf "_root" "_root" (defArgs s__root) (defBody s__root) (defScope s__root) .none kV5 dc5 pm5 an5 cd5 ct5), sl5⟩)
    (c5 : PySem.W.codeIn K cd5 "_root" = true)
    (k5 : PySem.W.keepIn K (.ref f5) = true)
    (a6 : PySem.W.nsIn K mainGlobals "_kept" = some (some (.ref f6)))
    (l6 : K.lookup f6 = some ⟨oc6, od6, .func (PySem.W.fnOf "_kept" "_kept" (defArgs s__kept) (defBody s__kept) (defScope s__kept) .none kV6 dc6 pm6 an6 cd6 ct6), sl6⟩)
    (c6 : PySem.W.codeIn K cd6 "_kept" = true)
    (k6 : PySem.W.keepIn K (.ref f6) = true)
    (a7 : PySem.W.findIn K (.ref CC) "__init__" = some (some (.ref f7)))
    (i7 : PySem.W.isFn K (.ref f7) = true)
    (l7 : K.lookup f7 = some ⟨oc7, od7, .func (PySem.W.fnOf "__init__" "Endless.__init__" (defArgs s_Endless___init__) (defBody s_Endless___init__) (defScope s_Endless___init__) .none (.ref D0) dc7 pm7 an7 cd7 ct7), sl7⟩)
    (c7 : PySem.W.codeIn K cd7 "Endless.__init__" = true)
    (k7 : PySem.W.keepIn K (.ref f7) = true)
    (hkd0 : PySem.W.nsIn K D0 "tail" = some (some (.ref e0)))
    (hle0 : K.lookup e0 = some ⟨.type "tuple", eod, .seq #[] en, esl⟩)
    (a8 : PySem.W.findIn K (.ref CC) "letters" = some (some (.ref q8)))
    (g8 : PySem.W.specialIn K (.ref q8) "__get__" = some (some (.builtin "property.__get__")))
    (t8 : PySem.W.takesIn K (.ref q8) = some true)
    (r8 : PySem.W.recIn K q8 "property" = some (.ref f8 :: rs8))
    (l8 : K.lookup f8 = some ⟨oc8, od8, .func (PySem.W.fnOf "letters" "Endless.letters" (defArgs s_Endless_letters) (defBody s_Endless_letters) (defScope s_Endless_letters) .none kV8 dc8 pm8 an8 cd8 ct8), sl8⟩)
    (c8 : PySem.W.codeIn K cd8 "Endless.letters" = true)
    (k8 : PySem.W.keepIn K (.ref f8) = true)
    (a9 : PySem.W.findIn K (.ref CC) "ring" = some (some (.ref q9)))
    (g9 : PySem.W.specialIn K (.ref q9) "__get__" = some (some (.builtin "property.__get__")))
    (t9 : PySem.W.takesIn K (.ref q9) = some true)
    (r9 : PySem.W.recIn K q9 "property" = some (.ref f9 :: rs9))
    (l9 : K.lookup f9 = some ⟨oc9, od9, .func (PySem.W.fnOf "ring" "Endless.ring" (defArgs s_Endless_ring) (defBody s_Endless_ring) (defScope s_Endless_ring) .none kV9 dc9 pm9 an9 cd9 ct9), sl9⟩)
    (c9 : PySem.W.codeIn K cd9 "Endless.ring" = true)
    (k9 : PySem.W.keepIn K (.ref f9) = true)
    (a10 : PySem.W.findIn K (.ref CC) "tail" = some (some (.ref q10)))
    (g10 : PySem.W.specialIn K (.ref q10) "__get__" = some (some (.builtin "property.__get__")))
    (t10 : PySem.W.takesIn K (.ref q10) = some true)
    (r10 : PySem.W.recIn K q10 "property" = some (.ref f10 :: rs10))
    (l10 : K.lookup f10 = some ⟨oc10, od10, .func (PySem.W.fnOf "tail" "Endless.tail" (defArgs s_Endless_tail) (defBody s_Endless_tail) (defScope s_Endless_tail) .none kV10 dc10 pm10 an10 cd10 ct10), sl10⟩)
    (c10 : PySem.W.codeIn K cd10 "Endless.tail" = true)
    (k10 : PySem.W.keepIn K (.ref f10) = true)
    (a11 : PySem.W.nsIn K mainGlobals "last_letters" = some (some (.ref f11)))
    (l11 : K.lookup f11 = some ⟨oc11, od11, .func (PySem.W.fnOf "last_letters" "last_letters" (defArgs s_last_letters) (defBody s_last_letters) (defScope s_last_letters) .none kV11 dc11 pm11 an11 cd11 ct11), sl11⟩)
    (c11 : PySem.W.codeIn K cd11 "last_letters" = true)
    (k11 : PySem.W.keepIn K (.ref f11) = true)
    (a12 : PySem.W.findIn K (.ref CC) "end" = some (some (.ref f12)))
    (i12 : PySem.W.isFn K (.ref f12) = true)
    (l12 : K.lookup f12 = some ⟨oc12, od12, .func (PySem.W.fnOf "end" "Endless.end" (defArgs s_Endless_end) (defBody s_Endless_end) (defScope s_Endless_end) .none kV12 dc12 pm12 an12 cd12 ct12), sl12⟩)
    (c12 : PySem.W.codeIn K cd12 "Endless.end" = true)
    (k12 : PySem.W.keepIn K (.ref f12) = true)
    (a13 : PySem.W.findIn K (.ref CC) "__add__" = some (some (.ref f13)))
    (i13 : PySem.W.isFn K (.ref f13) = true)
    (l13 : K.lookup f13 = some ⟨oc13, od13, .func (PySem.W.fnOf "__add__" "Endless.__add__" (defArgs s_Endless___add__) (defBody s_Endless___add__) (defScope s_Endless___add__) .none kV13 dc13 pm13 an13 cd13 ct13), sl13⟩)
    (c13 : PySem.W.codeIn K cd13 "Endless.__add__" = true)
    (k13 : PySem.W.keepIn K (.ref f13) = true)
    (a14 : PySem.W.findIn K (.ref CC) "__eq__" = some (some (.ref f14)))
    (i14 : PySem.W.isFn K (.ref f14) = true)
    (l14 : K.lookup f14 = some ⟨oc14, od14, .func (PySem.W.fnOf "__eq__" "Endless.__eq__" (defArgs s_Endless___eq__) (defBody s_Endless___eq__) (defScope s_Endless___eq__) .none kV14 dc14 pm14 an14 cd14 ct14), sl14⟩)
    (c14 : PySem.W.codeIn K cd14 "Endless.__eq__" = true)
    (k14 : PySem.W.keepIn K (.ref f14) = true)
    (a15 : PySem.W.nsIn K mainGlobals "root_of" = some (some (.ref f15)))
    (l15 : K.lookup f15 = some ⟨oc15, od15, .func (PySem.W.fnOf "root_of" "root_of" (defArgs s_root_of) (defBody s_root_of) (defScope s_root_of) .none kV15 dc15 pm15 an15 cd15 ct15), sl15⟩)
    (c15 : PySem.W.codeIn K cd15 "root_of" = true)
    (k15 : PySem.W.keepIn K (.ref f15) = true)
    (a16 : PySem.W.nsIn K mainGlobals "_is_height_of" = some (some (.ref f16)))
    (l16 : K.lookup f16 = some ⟨oc16, od16, .func (PySem.W.fnOf "_is_height_of" "_is_height_of" (defArgs s__is_height_of) (defBody s__is_height_of) (defScope s__is_height_of) .none kV16 dc16 pm16 an16 cd16 ct16), sl16⟩)
    (c16 : PySem.W.codeIn K cd16 "_is_height_of" = true)
    (k16 : PySem.W.keepIn K (.ref f16) = true)
    (a17 : PySem.W.nsIn K mainGlobals "_check_height" = some (some (.ref f17)))
    (l17 : K.lookup f17 = some ⟨oc17, od17, .func (PySem.W.fnOf "_check_height" "_check_height" (defArgs s__check_height) (defBody s__check_height) (defScope s__check_height) .none kV17 dc17 pm17 an17 cd17 ct17), sl17⟩)
    (c17 : PySem.W.codeIn K cd17 "_check_height" = true)
    (k17 : PySem.W.keepIn K (.ref f17) = true)
    (a18 : PySem.W.nsIn K mainGlobals "_check_heights" = some (some (.ref f18)))
    (l18 : K.lookup f18 = some ⟨oc18, od18, .func (PySem.W.fnOf "_check_heights" "_check_heights" (defArgs s__check_heights) (defBody s__check_heights) (defScope s__check_heights) .none kV18 dc18 pm18 an18 cd18 ct18), sl18⟩)
    (c18 : PySem.W.codeIn K cd18 "_check_heights" = true)
    (k18 : PySem.W.keepIn K (.ref f18) = true)
    (a19 : PySem.W.nsIn K mainGlobals "is_height" = some (some (.ref f19)))
    (l19 : K.lookup f19 = some ⟨oc19, od19, .func (PySem.W.fnOf "is_height" "is_height" (defArgs s_is_height) (defBody s_is_height) (defScope s_is_height) .none kV19 dc19 pm19 an19 cd19 ct19), sl19⟩)
    (c19 : PySem.W.codeIn K cd19 "is_height" = true)
    (k19 : PySem.W.keepIn K (.ref f19) = true)
    (a20 : PySem.W.nsIn K mainGlobals "compare" = some (some (.ref f20)))
    (l20 : K.lookup f20 = some ⟨oc20, od20, .func (PySem.W.fnOf "compare" "compare" (defArgs s_compare) (defBody s_compare) (defScope s_compare) .none kV20 dc20 pm20 an20 cd20 ct20), sl20⟩)
    (c20 : PySem.W.codeIn K cd20 "compare" = true)
    (k20 : PySem.W.keepIn K (.ref f20) = true)
    (a21 : PySem.W.nsIn K mainGlobals "ends_with" = some (some (.ref f21)))
    (l21 : K.lookup f21 = some ⟨oc21, od21, .func (PySem.W.fnOf "ends_with" "ends_with" (defArgs s_ends_with) (defBody s_ends_with) (defScope s_ends_with) .none kV21 dc21 pm21 an21 cd21 ct21), sl21⟩)
    (c21 : PySem.W.codeIn K cd21 "ends_with" = true)
    (k21 : PySem.W.keepIn K (.ref f21) = true)
    (a22 : PySem.W.nsIn K mainGlobals "agree" = some (some (.ref f22)))
    (l22 : K.lookup f22 = some ⟨oc22, od22, .func (PySem.W.fnOf "agree" "agree" (defArgs s_agree) (defBody s_agree) (defScope s_agree) .none kV22 dc22 pm22 an22 cd22 ct22), sl22⟩)
    (c22 : PySem.W.codeIn K cd22 "agree" = true)
    (k22 : PySem.W.keepIn K (.ref f22) = true)
    (a23 : PySem.W.nsIn K mainGlobals "each_end" = some (some (.ref f23)))
    (l23 : K.lookup f23 = some ⟨oc23, od23, .func (PySem.W.fnOf "each_end" "each_end" (defArgs s_each_end) (defBody s_each_end) (defScope s_each_end) .none kV23 dc23 pm23 an23 cd23 ct23), sl23⟩)
    (c23 : PySem.W.codeIn K cd23 "each_end" = true)
    (k23 : PySem.W.keepIn K (.ref f23) = true)
    (a24 : PySem.W.nsIn K mainGlobals "_law_bag" = some (some (.ref f24)))
    (l24 : K.lookup f24 = some ⟨oc24, od24, .func (PySem.W.fnOf "_law_bag" "_law_bag" (defArgs s__law_bag) (defBody s__law_bag) (defScope s__law_bag) .none kV24 dc24 pm24 an24 cd24 ct24), sl24⟩)
    (c24 : PySem.W.codeIn K cd24 "_law_bag" = true)
    (k24 : PySem.W.keepIn K (.ref f24) = true)
    (a25 : PySem.W.nsIn K mainGlobals "_law_grab" = some (some (.ref f25)))
    (l25 : K.lookup f25 = some ⟨oc25, od25, .func (PySem.W.fnOf "_law_grab" "_law_grab" (defArgs s__law_grab) (defBody s__law_grab) (defScope s__law_grab) .none kV25 dc25 pm25 an25 cd25 ct25), sl25⟩)
    (c25 : PySem.W.codeIn K cd25 "_law_grab" = true)
    (k25 : PySem.W.keepIn K (.ref f25) = true)
    (a26 : PySem.W.nsIn K mainGlobals "_law_one_of" = some (some (.ref f26)))
    (l26 : K.lookup f26 = some ⟨oc26, od26, .func (PySem.W.fnOf "_law_one_of" "_law_one_of" (defArgs s__law_one_of) (defBody s__law_one_of) (defScope s__law_one_of) .none kV26 dc26 pm26 an26 cd26 ct26), sl26⟩)
    (c26 : PySem.W.codeIn K cd26 "_law_one_of" = true)
    (k26 : PySem.W.keepIn K (.ref f26) = true)
    (a27 : PySem.W.nsIn K mainGlobals "_law_word_drawn" = some (some (.ref f27)))
    (l27 : K.lookup f27 = some ⟨oc27, od27, .func (PySem.W.fnOf "_law_word_drawn" "_law_word_drawn" (defArgs s__law_word_drawn) (defBody s__law_word_drawn) (defScope s__law_word_drawn) .none kV27 dc27 pm27 an27 cd27 ct27), sl27⟩)
    (c27 : PySem.W.codeIn K cd27 "_law_word_drawn" = true)
    (k27 : PySem.W.keepIn K (.ref f27) = true)
    (a28 : PySem.W.nsIn K mainGlobals "_law_makings_right" = some (some (.ref f28)))
    (l28 : K.lookup f28 = some ⟨oc28, od28, .func (PySem.W.fnOf "_law_makings_right" "_law_makings_right" (defArgs s__law_makings_right) (defBody s__law_makings_right) (defScope s__law_makings_right) .none kV28 dc28 pm28 an28 (.ref cc28) ct28), sl28⟩)
    (c28 : PySem.W.codeIn K (.ref cc28) "_law_makings_right" = true)
    (k28 : PySem.W.keepIn K (.ref f28) = true)
    (a29 : PySem.W.nsIn K mainGlobals "_law_methods_right" = some (some (.ref f29)))
    (l29 : K.lookup f29 = some ⟨oc29, od29, .func (PySem.W.fnOf "_law_methods_right" "_law_methods_right" (defArgs s__law_methods_right) (defBody s__law_methods_right) (defScope s__law_methods_right) .none kV29 dc29 pm29 an29 (.ref cc29) ct29), sl29⟩)
    (c29 : PySem.W.codeIn K (.ref cc29) "_law_methods_right" = true)
    (k29 : PySem.W.keepIn K (.ref f29) = true)
    (a30 : PySem.W.nsIn K mainGlobals "_law_heights_right" = some (some (.ref f30)))
    (l30 : K.lookup f30 = some ⟨oc30, od30, .func (PySem.W.fnOf "_law_heights_right" "_law_heights_right" (defArgs s__law_heights_right) (defBody s__law_heights_right) (defScope s__law_heights_right) .none kV30 dc30 pm30 an30 (.ref cc30) ct30), sl30⟩)
    (c30 : PySem.W.codeIn K (.ref cc30) "_law_heights_right" = true)
    (k30 : PySem.W.keepIn K (.ref f30) = true)
    (a31 : PySem.W.nsIn K mainGlobals "law" = some (some (.ref f31)))
    (l31 : K.lookup f31 = some ⟨oc31, od31, .func (PySem.W.fnOf "law" "law" (defArgs s_law) (defBody s_law) (defScope s_law) .none kV31 dc31 pm31 an31 cd31 ct31), sl31⟩)
    (c31 : PySem.W.codeIn K cd31 "law" = true)
    (k31 : PySem.W.keepIn K (.ref f31) = true)
    (a32 : PySem.W.nsIn K mainGlobals "_law_met" = some (some (.ref f32)))
    (l32 : K.lookup f32 = some ⟨oc32, od32, .func (PySem.W.fnOf "_law_met" "_law_met" (defArgs s__law_met) (defBody s__law_met) (defScope s__law_met) .none kV32 dc32 pm32 an32 cd32 ct32), sl32⟩)
    (c32 : PySem.W.codeIn K cd32 "_law_met" = true)
    (k32 : PySem.W.keepIn K (.ref f32) = true)
    (pg : PySem.W.plainGet K CC Str.empty = true)
    (hd : PySem.W.hasDictIn K CC = true)
    (po : PySem.W.plainOver K CC = true)
    (sa : PySem.W.findIn K (.ref CC) "__setattr__" = some (some (.builtin "object.__setattr__")))
    (mk : PySem.W.makesIn K CC = true)
    (kc : PySem.W.keepIn K (.ref CC) = true)
    (nl : PySem.W.findIn K (.ref CC) "_letters" = some none)
    (nr : PySem.W.findIn K (.ref CC) "_ring" = some none)
    (nt : PySem.W.findIn K (.ref CC) "_tail" = some none)
    (ob : PySem.W.mroIn K CC (.type "object") = some true)
    (ne : PySem.W.findIn K (.ref CC) "__ne__" = some (some (.builtin "object.__ne__")))
    (sf : PySem.W.selfFirst K CC = true)
    (ca : PySem.W.findIn K (.ref CC) "__class__" = some (some (.builtin "object.__class__")))
    (cn : PySem.W.specialIn K (.builtin "object.__class__") "__get__" = some (some (.builtin "getset_descriptor.__get__")))
    (ct : PySem.W.takesIn K (.builtin "object.__class__") = some true)
    (ty0 : PySem.W.typeIn K (.ref CC) = some (.type "type"))
    (nf : PySem.W.notFirst K CC (.ref CC) = true)
    (nftuple : PySem.W.notFirst K CC (.type "tuple") = true)
    (g_MAX_LETTERS : PySem.W.nsIn K mainGlobals "MAX_LETTERS" = some (some (.int 4 tk_MAX_LETTERS)))
    (g_MAX_WORD : PySem.W.nsIn K mainGlobals "MAX_WORD" = some (some (.int 200 tk_MAX_WORD)))
    (g_MAX_END : PySem.W.nsIn K mainGlobals "MAX_END" = some (some (.int 1000 tk_MAX_END)))
    (g_MOST_ENDS : PySem.W.nsIn K mainGlobals "MOST_ENDS" = some (some (.int 60 tk_MOST_ENDS)))
    (z_bool : PySem.W.nsIn K mainGlobals "bool" = some none)
    (z_len : PySem.W.nsIn K mainGlobals "len" = some none)
    (z_min : PySem.W.nsIn K mainGlobals "min" = some none)
    (z_max : PySem.W.nsIn K mainGlobals "max" = some none)
    (z_abs : PySem.W.nsIn K mainGlobals "abs" = some none)
    (z_int : PySem.W.nsIn K mainGlobals "int" = some none)
    (z_isinstance : PySem.W.nsIn K mainGlobals "isinstance" = some none)
    (z_tuple : PySem.W.nsIn K mainGlobals "tuple" = some none)
    (z_list : PySem.W.nsIn K mainGlobals "list" = some none)
    (z_all : PySem.W.nsIn K mainGlobals "all" = some none)
    (z_range : PySem.W.nsIn K mainGlobals "range" = some none)
    (z_repr : PySem.W.nsIn K mainGlobals "repr" = some none)
    (xa_InvalidWord : PySem.W.nsIn K mainGlobals "InvalidWord" = some (some (.ref X_InvalidWord)))
    (xk_InvalidWord : PySem.W.keepIn K (.ref X_InvalidWord) = true)
    (xe_InvalidWord : PySem.W.subIn K (.ref X_InvalidWord) (.type "BaseException") = some true)
    (xt_InvalidWord : PySem.W.typeIn K (.ref X_InvalidWord) = some (.type "type"))
    (xs_InvalidWord : PySem.W.subIn K (.ref X_InvalidWord) (.type "StopIteration") = some false)
    (xc_InvalidWord : PySem.W.isClsIn K X_InvalidWord = true)
    (xx_InvalidWord : PySem.W.excIn K X_InvalidWord [.type "ValueError", .type "Exception", .type "BaseException", .type "object"] "ValueError.__new__" = true)
    (xa_InvalidHeight : PySem.W.nsIn K mainGlobals "InvalidHeight" = some (some (.ref X_InvalidHeight)))
    (xk_InvalidHeight : PySem.W.keepIn K (.ref X_InvalidHeight) = true)
    (xe_InvalidHeight : PySem.W.subIn K (.ref X_InvalidHeight) (.type "BaseException") = some true)
    (xt_InvalidHeight : PySem.W.typeIn K (.ref X_InvalidHeight) = some (.type "type"))
    (xs_InvalidHeight : PySem.W.subIn K (.ref X_InvalidHeight) (.type "StopIteration") = some false)
    (xc_InvalidHeight : PySem.W.isClsIn K X_InvalidHeight = true)
    (xx_InvalidHeight : PySem.W.excIn K X_InvalidHeight [.type "ValueError", .type "Exception", .type "BaseException", .type "object"] "ValueError.__new__" = true)
    (xa_InvalidOperation : PySem.W.nsIn K mainGlobals "InvalidOperation" = some (some (.ref X_InvalidOperation)))
    (xk_InvalidOperation : PySem.W.keepIn K (.ref X_InvalidOperation) = true)
    (xe_InvalidOperation : PySem.W.subIn K (.ref X_InvalidOperation) (.type "BaseException") = some true)
    (xt_InvalidOperation : PySem.W.typeIn K (.ref X_InvalidOperation) = some (.type "type"))
    (xs_InvalidOperation : PySem.W.subIn K (.ref X_InvalidOperation) (.type "StopIteration") = some false)
    (xc_InvalidOperation : PySem.W.isClsIn K X_InvalidOperation = true)
    (xx_InvalidOperation : PySem.W.excIn K X_InvalidOperation [.type "ValueError", .type "Exception", .type "BaseException", .type "object"] "ValueError.__new__" = true)
    (xa_InvalidNumber : PySem.W.nsIn K mainGlobals "InvalidNumber" = some (some (.ref X_InvalidNumber)))
    (xk_InvalidNumber : PySem.W.keepIn K (.ref X_InvalidNumber) = true)
    (xe_InvalidNumber : PySem.W.subIn K (.ref X_InvalidNumber) (.type "BaseException") = some true)
    (xt_InvalidNumber : PySem.W.typeIn K (.ref X_InvalidNumber) = some (.type "type"))
    (xs_InvalidNumber : PySem.W.subIn K (.ref X_InvalidNumber) (.type "StopIteration") = some false)
    (xc_InvalidNumber : PySem.W.isClsIn K X_InvalidNumber = true)
    (xi_InvalidNumber : PySem.W.excInitIn K X_InvalidNumber [.type "IndexError", .type "LookupError", .type "Exception", .type "BaseException", .type "object"] "IndexError.__new__" = true)
    (xo_InvalidNumber : PySem.W.excOver K X_InvalidNumber [.type "IndexError", .type "LookupError", .type "Exception", .type "BaseException", .type "object"] = true)
    (xsa_InvalidNumber : PySem.W.findIn K (.ref X_InvalidNumber) "__setattr__" = some (some (.builtin "object.__setattr__")))
    (xga_InvalidNumber : PySem.W.findIn K (.ref X_InvalidNumber) "__getattribute__" = some (some (.builtin "BaseException.__getattribute__")))
    (xgg_InvalidNumber : PySem.W.findIn K (.ref X_InvalidNumber) "__getattr__" = some none)
    (xno_InvalidNumber : PySem.W.findIn K (.ref X_InvalidNumber) "given" = some none)
    (xin_InvalidNumber : PySem.W.findIn K (.ref X_InvalidNumber) "__init__" = some (some (.ref I_InvalidNumber)))
    (xit_InvalidNumber : PySem.W.typeIn K (.ref I_InvalidNumber) = some (.type "function"))
    (xhd_InvalidNumber : PySem.W.hasDictIn K X_InvalidNumber = true)
    (xl_InvalidNumber : K.lookup I_InvalidNumber = some ⟨xoc_InvalidNumber, xod_InvalidNumber, .func (PySem.W.fnOf "__init__" "InvalidNumber.__init__" (PySem.OwX.kA "given" ⟨12, 17, 12, 21⟩ ⟨12, 23, 12, 28⟩) (PySem.OwX.kB "given" ⟨13, 8, 13, 12⟩ ⟨13, 8, 13, 18⟩ ⟨13, 21, 13, 26⟩ ⟨13, 8, 13, 26⟩) (PySem.OwX.kS "given") .none .none xdc_InvalidNumber xpm_InvalidNumber xan_InvalidNumber xcd_InvalidNumber xct_InvalidNumber), xsl_InvalidNumber⟩)
    (xcc_InvalidNumber : PySem.W.codeIn K xcd_InvalidNumber "InvalidNumber.__init__" = true)
    (xm_InvalidWord_InvalidWord : PySem.W.subIn K (.ref X_InvalidWord) (.ref X_InvalidWord) = some true)
    (xm_InvalidHeight_InvalidWord : PySem.W.subIn K (.ref X_InvalidHeight) (.ref X_InvalidWord) = some false)
    (xm_InvalidHeight_InvalidHeight : PySem.W.subIn K (.ref X_InvalidHeight) (.ref X_InvalidHeight) = some true)
    (xm_InvalidOperation_InvalidWord : PySem.W.subIn K (.ref X_InvalidOperation) (.ref X_InvalidWord) = some false)
    (xm_InvalidOperation_InvalidHeight : PySem.W.subIn K (.ref X_InvalidOperation) (.ref X_InvalidHeight) = some false)
    (xm_InvalidOperation_InvalidOperation : PySem.W.subIn K (.ref X_InvalidOperation) (.ref X_InvalidOperation) = some true)
    (xm_InvalidNumber_InvalidWord : PySem.W.subIn K (.ref X_InvalidNumber) (.ref X_InvalidWord) = some false)
    (xm_InvalidNumber_InvalidHeight : PySem.W.subIn K (.ref X_InvalidNumber) (.ref X_InvalidHeight) = some false)
    (xm_InvalidNumber_InvalidOperation : PySem.W.subIn K (.ref X_InvalidNumber) (.ref X_InvalidOperation) = some false)
    (xm_InvalidNumber_InvalidNumber : PySem.W.subIn K (.ref X_InvalidNumber) (.ref X_InvalidNumber) = some true)
    (tb28 : PySem.W.tabIn K "_law_makings_right" = some (cc28, P28))
    (nk28 : K.lookup P28 = none)
    (tb29 : PySem.W.tabIn K "_law_methods_right" = some (cc29, P29))
    (nk29 : K.lookup P29 = none)
    (tb30 : PySem.W.tabIn K "_law_heights_right" = some (cc30, P30))
    (nk30 : K.lookup P30 = none)
    (ne0_1 : P28 ≠ P29)
    (ne0_2 : P28 ≠ P30)
    (ne1_2 : P29 ≠ P30)
    (ktu : PySem.W.subIn K (.ref CC) (.type "tuple") = some false) : Txt K mg :=
  have F0 := fun_mk (st := s_is_number) l0 c0 k0
  have b0 := F0.binds (ps := ["value", "least", "most"]) fun _ _ _ _ _ _ us hl => match us, hl with | [_, _, _], _ => rfl
  have F1 := fun_mk (st := s_check_number) l1 c1 k1
  have b1 := F1.binds (ps := ["value", "least", "most"]) fun _ _ _ _ _ _ us hl => match us, hl with | [_, _, _], _ => rfl
  have F2 := fun_mk (st := s_check_letters) l2 c2 k2
  have b2 := F2.binds (ps := ["letters"]) fun _ _ _ _ _ _ us hl => match us, hl with | [_], _ => rfl
  have F3 := fun_mk (st := s_is_spelled) l3 c3 k3
  have b3 := F3.binds (ps := ["letters", "value", "most"]) fun _ _ _ _ _ _ us hl => match us, hl with | [_, _, _], _ => rfl
  have F4 := fun_mk (st := s_check_word) l4 c4 k4
  have b4 := F4.binds (ps := ["letters", "word"]) fun _ _ _ _ _ _ us hl => match us, hl with | [_, _], _ => rfl
  have F5 := fun_mk (st := s__root) l5 c5 k5
  have b5 := F5.binds (ps := ["word"]) fun _ _ _ _ _ _ us hl => match us, hl with | [_], _ => rfl
  have F6 := fun_mk (st := s__kept) l6 c6 k6
  have b6 := F6.binds (ps := ["ring", "tail"]) fun _ _ _ _ _ _ us hl => match us, hl with | [_, _], _ => rfl
  have F7 : FunD K "__init__" "Endless.__init__" (defArgs s_Endless___init__) (defBody s_Endless___init__) (defScope s_Endless___init__) [] [("tail", V.ref e0)] f7 (PySem.W.fnOf "__init__" "Endless.__init__" (defArgs s_Endless___init__) (defBody s_Endless___init__) (defScope s_Endless___init__) .none (.ref D0) dc7 pm7 an7 cd7 ct7) := ⟨⟨oc7, od7, .none, .ref D0, dc7, pm7, an7, cd7, ct7, sl7, rfl, l7, c7, .inl ⟨rfl, rfl⟩, .inr ⟨D0, rfl, fun q hq => by rw [List.mem_singleton.mp hq]; exact ⟨_, hkd0, rfl⟩⟩⟩, k7⟩
  have b7 : Binds K (PySem.W.fnOf "__init__" "Endless.__init__" (defArgs s_Endless___init__) (defBody s_Endless___init__) (defScope s_Endless___init__) .none (.ref D0) dc7 pm7 an7 cd7 ct7) ["self", "letters", "ring", "tail"] [.ref e0] := by
    obtain ⟨ds, h1, h2⟩ := FunD.binds0 (ps := ["self", "letters", "ring", "tail"]) F7 3 (List.cons_ne_nil _ _) rfl fun D doc pm an cdv ct us ks e1 e2 => bind_init D doc pm an cdv ct us ks e1 e2
    rw [vals1_ref h1] at h2
    exact h2
  have kb : KBn K (PySem.W.fnOf "__init__" "Endless.__init__" (defArgs s_Endless___init__) (defBody s_Endless___init__) (defScope s_Endless___init__) .none (.ref D0) dc7 pm7 an7 cd7 ct7) ["self", "letters", "ring", "tail"] 3 ["tail"] (fun us ws => us ++ ws) (fun vs zs => vs ++ zs) := by
    obtain ⟨mv, h⟩ := FunD.kbinds0 (ps := ["self", "letters", "ring", "tail"]) F7 3 ["tail"] [] (fun us _ ws => us ++ ws) (List.cons_ne_nil _ _) (fun q hq => by cases hq) (fun r1 _ r3 => r1.append r3) fun D doc pm an cdv ct us mv ws e1 _ e2 => bind_initK D doc pm an cdv ct us ws e1 e2
    exact h
  have F8 := fun_mk (st := s_Endless_letters) l8 c8 k8
  have b8 := F8.binds (ps := ["self"]) fun _ _ _ _ _ _ us hl => match us, hl with | [_], _ => rfl
  have F9 := fun_mk (st := s_Endless_ring) l9 c9 k9
  have b9 := F9.binds (ps := ["self"]) fun _ _ _ _ _ _ us hl => match us, hl with | [_], _ => rfl
  have F10 := fun_mk (st := s_Endless_tail) l10 c10 k10
  have b10 := F10.binds (ps := ["self"]) fun _ _ _ _ _ _ us hl => match us, hl with | [_], _ => rfl
  have F11 := fun_mk (st := s_last_letters) l11 c11 k11
  have b11 := F11.binds (ps := ["height", "many"]) fun _ _ _ _ _ _ us hl => match us, hl with | [_, _], _ => rfl
  have F12 := fun_mk (st := s_Endless_end) l12 c12 k12
  have b12 := F12.binds (ps := ["self", "many"]) fun _ _ _ _ _ _ us hl => match us, hl with | [_, _], _ => rfl
  have F13 := fun_mk (st := s_Endless___add__) l13 c13 k13
  have b13 := F13.binds (ps := ["self", "other"]) fun _ _ _ _ _ _ us hl => match us, hl with | [_, _], _ => rfl
  have F14 := fun_mk (st := s_Endless___eq__) l14 c14 k14
  have b14 := F14.binds (ps := ["self", "other"]) fun _ _ _ _ _ _ us hl => match us, hl with | [_, _], _ => rfl
  have F15 := fun_mk (st := s_root_of) l15 c15 k15
  have b15 := F15.binds (ps := ["letters", "word"]) fun _ _ _ _ _ _ us hl => match us, hl with | [_, _], _ => rfl
  have F16 := fun_mk (st := s__is_height_of) l16 c16 k16
  have b16 := F16.binds (ps := ["letters", "value"]) fun _ _ _ _ _ _ us hl => match us, hl with | [_, _], _ => rfl
  have F17 := fun_mk (st := s__check_height) l17 c17 k17
  have b17 := F17.binds (ps := ["letters", "height"]) fun _ _ _ _ _ _ us hl => match us, hl with | [_, _], _ => rfl
  have F18 := fun_mk (st := s__check_heights) l18 c18 k18
  have b18 := F18.binds (ps := ["letters", "one", "other"]) fun _ _ _ _ _ _ us hl => match us, hl with | [_, _, _], _ => rfl
  have F19 := fun_mk (st := s_is_height) l19 c19 k19
  have b19 := F19.binds (ps := ["letters", "value"]) fun _ _ _ _ _ _ us hl => match us, hl with | [_, _], _ => rfl
  have F20 := fun_mk (st := s_compare) l20 c20 k20
  have b20 := F20.binds (ps := ["letters", "one", "other"]) fun _ _ _ _ _ _ us hl => match us, hl with | [_, _, _], _ => rfl
  have F21 := fun_mk (st := s_ends_with) l21 c21 k21
  have b21 := F21.binds (ps := ["letters", "height", "word"]) fun _ _ _ _ _ _ us hl => match us, hl with | [_, _, _], _ => rfl
  have F22 := fun_mk (st := s_agree) l22 c22 k22
  have b22 := F22.binds (ps := ["letters", "one", "other"]) fun _ _ _ _ _ _ us hl => match us, hl with | [_, _, _], _ => rfl
  have F23 := fun_mk (st := s_each_end) l23 c23 k23
  have b23 := F23.binds (ps := ["letters", "height", "many"]) fun _ _ _ _ _ _ us hl => match us, hl with | [_, _, _], _ => rfl
  have F24 := fun_mk (st := s__law_bag) l24 c24 k24
  have b24 := F24.binds (ps := ["script", "spot"]) fun _ _ _ _ _ _ us hl => match us, hl with | [_, _], _ => rfl
  have F25 := fun_mk (st := s__law_grab) l25 c25 k25
  have b25 := F25.binds (ps := ["bag", "total"]) fun _ _ _ _ _ _ us hl => match us, hl with | [_, _], _ => rfl
  have F26 := fun_mk (st := s__law_one_of) l26 c26 k26
  have b26 := F26.binds (ps := ["bag", "items"]) fun _ _ _ _ _ _ us hl => match us, hl with | [_, _], _ => rfl
  have F27 := fun_mk (st := s__law_word_drawn) l27 c27 k27
  have b27 := F27.binds (ps := ["bag", "letters", "most"]) fun _ _ _ _ _ _ us hl => match us, hl with | [_, _, _], _ => rfl
  have F28 := fun_mk (st := s__law_makings_right) l28 c28 k28
  have b28 := F28.binds (ps := ["bag", "letters", "bad", "word"]) fun _ _ _ _ _ _ us hl => match us, hl with | [_, _, _, _], _ => rfl
  have F29 := fun_mk (st := s__law_methods_right) l29 c29 k29
  have b29 := F29.binds (ps := ["bag", "letters", "here"]) fun _ _ _ _ _ _ us hl => match us, hl with | [_, _, _], _ => rfl
  have F30 := fun_mk (st := s__law_heights_right) l30 c30 k30
  have b30 := F30.binds (ps := ["bag", "letters", "bad", "here"]) fun _ _ _ _ _ _ us hl => match us, hl with | [_, _, _, _], _ => rfl
  have F31 := fun_mk (st := s_law) l31 c31 k31
  have b31 := F31.binds (ps := ["script"]) fun _ _ _ _ _ _ us hl => match us, hl with | [_], _ => rfl
  have F32 := fun_mk (st := s__law_met) l32 c32 k32
  have b32 := F32.binds (ps := ["call"]) fun _ _ _ _ _ _ us hl => match us, hl with | [_], _ => rfl
  { C_Endless := CC,
    a_is_number := f0, d_is_number := _,
    F_is_number := F0, b_is_number := b0,
    m_is_number := PySem.W.mg_of X G a0,
    a_check_number := f1, d_check_number := _,
    F_check_number := F1, b_check_number := b1,
    m_check_number := PySem.W.mg_of X G a1,
    a_check_letters := f2, d_check_letters := _,
    F_check_letters := F2, b_check_letters := b2,
    m_check_letters := PySem.W.mg_of X G a2,
    a_is_spelled := f3, d_is_spelled := _,
    F_is_spelled := F3, b_is_spelled := b3,
    m_is_spelled := PySem.W.mg_of X G a3,
    a_check_word := f4, d_check_word := _,
    F_check_word := F4, b_check_word := b4,
    m_check_word := PySem.W.mg_of X G a4,
    a__root := f5, d__root := _,
    F__root := F5, b__root := b5,
    m__root := PySem.W.mg_of X G a5,
    a__kept := f6, d__kept := _,
    F__kept := F6, b__kept := b6,
    m__kept := PySem.W.mg_of X G a6,
    a_Endless___init__ := f7, d_Endless___init__ := _,
    e_Endless___init___tail := e0, et_Endless___init___tail := fun _ => .inr ⟨_, #[], en, hle0, rfl, rfl, Nat.zero_le _, .nil⟩, F_Endless___init__ := F7, b_Endless___init__ := b7, kb_Endless := kb, v_Endless := .cons rfl .nil, mk_Endless := ⟨mk, a7, i7, kc⟩,
    a_Endless_letters := f8, d_Endless_letters := _,
    F_Endless_letters := F8, b_Endless_letters := b8,
    q_Endless_letters := q8, p_Endless_letters := ⟨a8, g8, t8, _, r8⟩,
    a_Endless_ring := f9, d_Endless_ring := _,
    F_Endless_ring := F9, b_Endless_ring := b9,
    q_Endless_ring := q9, p_Endless_ring := ⟨a9, g9, t9, _, r9⟩,
    a_Endless_tail := f10, d_Endless_tail := _,
    F_Endless_tail := F10, b_Endless_tail := b10,
    q_Endless_tail := q10, p_Endless_tail := ⟨a10, g10, t10, _, r10⟩,
    a_last_letters := f11, d_last_letters := _,
    F_last_letters := F11, b_last_letters := b11,
    m_last_letters := PySem.W.mg_of X G a11,
    a_Endless_end := f12, d_Endless_end := _,
    F_Endless_end := F12, b_Endless_end := b12,
    mt_Endless_end := ⟨a12, i12, k12⟩,
    a_Endless___add__ := f13, d_Endless___add__ := _,
    F_Endless___add__ := F13, b_Endless___add__ := b13,
    add_Endless := a13, addf_Endless := i13,
    a_Endless___eq__ := f14, d_Endless___eq__ := _,
    F_Endless___eq__ := F14, b_Endless___eq__ := b14,
    eq_Endless := a14, eqf_Endless := i14,
    a_root_of := f15, d_root_of := _,
    F_root_of := F15, b_root_of := b15,
    m_root_of := PySem.W.mg_of X G a15,
    a__is_height_of := f16, d__is_height_of := _,
    F__is_height_of := F16, b__is_height_of := b16,
    m__is_height_of := PySem.W.mg_of X G a16,
    a__check_height := f17, d__check_height := _,
    F__check_height := F17, b__check_height := b17,
    m__check_height := PySem.W.mg_of X G a17,
    a__check_heights := f18, d__check_heights := _,
    F__check_heights := F18, b__check_heights := b18,
    m__check_heights := PySem.W.mg_of X G a18,
    a_is_height := f19, d_is_height := _,
    F_is_height := F19, b_is_height := b19,
    m_is_height := PySem.W.mg_of X G a19,
    a_compare := f20, d_compare := _,
    F_compare := F20, b_compare := b20,
    m_compare := PySem.W.mg_of X G a20,
    a_ends_with := f21, d_ends_with := _,
    F_ends_with := F21, b_ends_with := b21,
    m_ends_with := PySem.W.mg_of X G a21,
    a_agree := f22, d_agree := _,
    F_agree := F22, b_agree := b22,
    m_agree := PySem.W.mg_of X G a22,
    a_each_end := f23, d_each_end := _,
    F_each_end := F23, b_each_end := b23,
    m_each_end := PySem.W.mg_of X G a23,
    a__law_bag := f24, d__law_bag := _,
    F__law_bag := F24, b__law_bag := b24,
    m__law_bag := PySem.W.mg_of X G a24,
    a__law_grab := f25, d__law_grab := _,
    F__law_grab := F25, b__law_grab := b25,
    m__law_grab := PySem.W.mg_of X G a25,
    a__law_one_of := f26, d__law_one_of := _,
    F__law_one_of := F26, b__law_one_of := b26,
    m__law_one_of := PySem.W.mg_of X G a26,
    a__law_word_drawn := f27, d__law_word_drawn := _,
    F__law_word_drawn := F27, b__law_word_drawn := b27,
    m__law_word_drawn := PySem.W.mg_of X G a27,
    a__law_makings_right := f28, d__law_makings_right := _,
    F__law_makings_right := F28, b__law_makings_right := b28,
    m__law_makings_right := PySem.W.mg_of X G a28,
    a__law_methods_right := f29, d__law_methods_right := _,
    F__law_methods_right := F29, b__law_methods_right := b29,
    m__law_methods_right := PySem.W.mg_of X G a29,
    a__law_heights_right := f30, d__law_heights_right := _,
    F__law_heights_right := F30, b__law_heights_right := b30,
    m__law_heights_right := PySem.W.mg_of X G a30,
    a_law := f31, d_law := _,
    F_law := F31, b_law := b31,
    m_law := PySem.W.mg_of X G a31,
    a__law_met := f32, d__law_met := _,
    F__law_met := F32, b__law_met := b32,
    m__law_met := PySem.W.mg_of X G a32,
    ktuple_Endless := kit_no (by decide +kernel : fastBuiltinMro "tuple" = some [.type "tuple", .type "object"]) (by first | rfl | simp) hd ty0,
    kint_Endless := kit_no (by decide +kernel : fastBuiltinMro "int" = some [.type "int", .type "object"]) (by first | rfl | simp) hd ty0,
    kstr_Endless := kit_no (by decide +kernel : fastBuiltinMro "str" = some [.type "str", .type "object"]) (by first | rfl | simp) hd ty0,
    klist_Endless := kit_no (by decide +kernel : fastBuiltinMro "list" = some [.type "list", .type "object"]) (by first | rfl | simp) hd ty0,
    kdict_Endless := kit_no (by decide +kernel : fastBuiltinMro "dict" = some [.type "dict", .type "object"]) (by first | rfl | simp) hd ty0,
    kNoneType_Endless := kit_no (by decide +kernel : fastBuiltinMro "NoneType" = some [.type "NoneType", .type "object"]) (by first | rfl | simp) hd ty0,
    nftuple_Endless := nftuple,
    mC_Endless := PySem.W.mg_of X G aC, c_Endless := ⟨pg, hd, po, sa⟩, na_Endless_letters := nl, na_Endless_ring := nr, na_Endless_tail := nt, ob_Endless := ob, ne_Endless := ne, sf_Endless := sf, ca_Endless := ca, cn_Endless := cn, ct_Endless := ct, ks_Endless := if_pos (by simp), nf_Endless := nf,
    t_MAX_LETTERS := tk_MAX_LETTERS, g_MAX_LETTERS := PySem.W.mg_of X G g_MAX_LETTERS,
    t_MAX_WORD := tk_MAX_WORD, g_MAX_WORD := PySem.W.mg_of X G g_MAX_WORD,
    t_MAX_END := tk_MAX_END, g_MAX_END := PySem.W.mg_of X G g_MAX_END,
    t_MOST_ENDS := tk_MOST_ENDS, g_MOST_ENDS := PySem.W.mg_of X G g_MOST_ENDS,
    n_bool := PySem.W.mg_none_of X G z_bool,
    n_len := PySem.W.mg_none_of X G z_len,
    n_min := PySem.W.mg_none_of X G z_min,
    n_max := PySem.W.mg_none_of X G z_max,
    n_abs := PySem.W.mg_none_of X G z_abs,
    n_int := PySem.W.mg_none_of X G z_int,
    n_isinstance := PySem.W.mg_none_of X G z_isinstance,
    n_tuple := PySem.W.mg_none_of X G z_tuple,
    n_list := PySem.W.mg_none_of X G z_list,
    n_all := PySem.W.mg_none_of X G z_all,
    n_range := PySem.W.mg_none_of X G z_range,
    n_repr := PySem.W.mg_none_of X G z_repr,
    C_InvalidWord := X_InvalidWord, sn_InvalidWord := xs_InvalidWord, mC_InvalidWord := PySem.W.mg_of X G xa_InvalidWord, k_InvalidWord := xk_InvalidWord, e_InvalidWord := xe_InvalidWord, t_InvalidWord := xt_InvalidWord,
    x_InvalidWord := xx_InvalidWord,
    C_InvalidHeight := X_InvalidHeight, sn_InvalidHeight := xs_InvalidHeight, mC_InvalidHeight := PySem.W.mg_of X G xa_InvalidHeight, k_InvalidHeight := xk_InvalidHeight, e_InvalidHeight := xe_InvalidHeight, t_InvalidHeight := xt_InvalidHeight,
    x_InvalidHeight := xx_InvalidHeight,
    C_InvalidOperation := X_InvalidOperation, sn_InvalidOperation := xs_InvalidOperation, mC_InvalidOperation := PySem.W.mg_of X G xa_InvalidOperation, k_InvalidOperation := xk_InvalidOperation, e_InvalidOperation := xe_InvalidOperation, t_InvalidOperation := xt_InvalidOperation,
    x_InvalidOperation := xx_InvalidOperation,
    C_InvalidNumber := X_InvalidNumber, sn_InvalidNumber := xs_InvalidNumber, mC_InvalidNumber := PySem.W.mg_of X G xa_InvalidNumber, k_InvalidNumber := xk_InvalidNumber, e_InvalidNumber := xe_InvalidNumber, t_InvalidNumber := xt_InvalidNumber,
    i_InvalidNumber := I_InvalidNumber, kp_InvalidNumber := ⟨PySem.W.mg_of X G xa_InvalidNumber, xi_InvalidNumber, xo_InvalidNumber, xsa_InvalidNumber, xga_InvalidNumber, xgg_InvalidNumber, xno_InvalidNumber, xin_InvalidNumber, xit_InvalidNumber, xk_InvalidNumber, xe_InvalidNumber, xt_InvalidNumber, xhd_InvalidNumber, PySem.OwX.fname_given, ⟨_, _, _, _, _, _, _, _, _, _, _, _, _, _, _, xl_InvalidNumber, xcc_InvalidNumber⟩⟩, xf_InvalidNumber := ⟨xga_InvalidNumber, xgg_InvalidNumber, xe_InvalidNumber, xhd_InvalidNumber⟩,
    em_InvalidWord_InvalidWord := exm_mk xe_InvalidWord xc_InvalidWord xt_InvalidWord xm_InvalidWord_InvalidWord,
    em_InvalidHeight_InvalidWord := exm_mk xe_InvalidWord xc_InvalidWord xt_InvalidWord xm_InvalidHeight_InvalidWord,
    em_InvalidHeight_InvalidHeight := exm_mk xe_InvalidHeight xc_InvalidHeight xt_InvalidHeight xm_InvalidHeight_InvalidHeight,
    em_InvalidOperation_InvalidWord := exm_mk xe_InvalidWord xc_InvalidWord xt_InvalidWord xm_InvalidOperation_InvalidWord,
    em_InvalidOperation_InvalidHeight := exm_mk xe_InvalidHeight xc_InvalidHeight xt_InvalidHeight xm_InvalidOperation_InvalidHeight,
    em_InvalidOperation_InvalidOperation := exm_mk xe_InvalidOperation xc_InvalidOperation xt_InvalidOperation xm_InvalidOperation_InvalidOperation,
    em_InvalidNumber_InvalidWord := exm_mk xe_InvalidWord xc_InvalidWord xt_InvalidWord xm_InvalidNumber_InvalidWord,
    em_InvalidNumber_InvalidHeight := exm_mk xe_InvalidHeight xc_InvalidHeight xt_InvalidHeight xm_InvalidNumber_InvalidHeight,
    em_InvalidNumber_InvalidOperation := exm_mk xe_InvalidOperation xc_InvalidOperation xt_InvalidOperation xm_InvalidNumber_InvalidOperation,
    em_InvalidNumber_InvalidNumber := exm_mk xe_InvalidNumber xc_InvalidNumber xt_InvalidNumber xm_InvalidNumber_InvalidNumber,
    c__law_makings_right := cc28, P__law_makings_right := P28, hc__law_makings_right := rfl, tb__law_makings_right := tb28, nk__law_makings_right := nk28,
    c__law_methods_right := cc29, P__law_methods_right := P29, hc__law_methods_right := rfl, tb__law_methods_right := tb29, nk__law_methods_right := nk29,
    c__law_heights_right := cc30, P__law_heights_right := P30, hc__law_heights_right := rfl, tb__law_heights_right := tb30, nk__law_heights_right := nk30,
    n_0_1 := ne0_1,
    n_0_2 := ne0_2,
    n_1_2 := ne1_2,
    kt_Endless := kit_own ktu (by decide +kernel) }
theorem all_mk {l : PySem.W.OpenLaw} {q : Program} {w : World} {K : PySem.W.Frag} {mg : Str → Option Value} {fa : Addr} {h : Heap} (hfa : mg "law" = some (.ref fa)) (ok : TabsOk q K h) (T : Txt K mg) (hb : ∀ (s : Shared) (v : Value), BindsTo s T.d_law ⟨[v], []⟩ [("script", v)])
    (r28 : ((recsOf q).find? fun e => e.name == ("_law_makings_right" : Str)).isSome = true)
    (r29 : ((recsOf q).find? fun e => e.name == ("_law_methods_right" : Str)).isSome = true)
    (r30 : ((recsOf q).find? fun e => e.name == ("_law_heights_right" : Str)).isSome = true) :
    LawAtG l w K CX0 12 63 "script" mg fa h := by
  have e := hfa.symm.trans T.m_law
  cases e
  have cs : ∀ p ∈ T.cs, (PySem.W.CodeHd h p.1 p.2 ∧ h.get? p.2 = some { cls := .none, data := .fields #[] }) ∧ K.lookup p.2 = none := by
    intro p hp
    rcases List.mem_cons.mp hp with rfl | hp
    · exact ⟨ok _ _ _ r28 T.tb__law_makings_right, T.nk__law_makings_right⟩
    rcases List.mem_cons.mp hp with rfl | hp
    · exact ⟨ok _ _ _ r29 T.tb__law_methods_right, T.nk__law_methods_right⟩
    rcases List.mem_cons.mp hp with rfl | hp
    · exact ⟨ok _ _ _ r30 T.tb__law_heights_right, T.nk__law_heights_right⟩
    cases hp
  refine ⟨T.d_law, T.cs, sp_law T, fun p hp => (cs p hp).1.2, fun p hp => (cs p hp).2, fun p hp => (cs p hp).1.1, hb, fun H a ns hl _ ht hS => ⟨a, ns, rfl, hS, by omega, fun p hp => ?_, fun _ => rfl⟩, fun base _ _ TB => ok_law T TB⟩
  rcases List.mem_cons.mp hp with rfl | hp
  · exact TabS.nil (ht _ T.in__law_makings_right)
  rcases List.mem_cons.mp hp with rfl | hp
  · exact TabS.nil (ht _ T.in__law_methods_right)
  rcases List.mem_cons.mp hp with rfl | hp
  · exact TabS.nil (ht _ T.in__law_heights_right)
  cases hp
end K06
open PySem PySem.W PyProof.Rows
set_option maxHeartbeats 0 in
theorem PySem.Challenge.cw_roomlines_k06_errors_of_endless_words_holds : PySem.Challenge.rw_roomlines_k06_errors_of_endless_words.Holds := by
  w_on; o_law; k_head; (case hw => w_witness2)
  k_fill
  refine RL.walk_ofTG (l := PySem.Challenge.rw_roomlines_k06_errors_of_endless_words) (n := 63) (k := 12) (x := "script") (CX := fun _ => L2.CX0) rfl (by decide) rfl ⟨rfl, by decide, by decide⟩ (fun w h Y => PySem.W.km_in_of Y) ?F (fun _ _ _ _ _ h => h)
  case F =>
    intro w mg fa h Y KX G hmg tabs
    refine' K06.all_mk hmg tabs (K06.txt_mk KX G ?aC ?a0 ?l0 ?c0 ?k0 ?a1 ?l1 ?c1 ?k1 ?a2 ?l2 ?c2 ?k2 ?a3 ?l3 ?c3 ?k3 ?a4 ?l4 ?c4 ?k4 ?a5 ?l5 ?c5 ?k5 ?a6 ?l6 ?c6 ?k6 ?a7 ?i7 ?l7 ?c7 ?k7 ?hkd0 ?hle0 ?a8 ?g8 ?t8 ?r8 ?l8 ?c8 ?k8 ?a9 ?g9 ?t9 ?r9 ?l9 ?c9 ?k9 ?a10 ?g10 ?t10 ?r10 ?l10 ?c10 ?k10 ?a11 ?l11 ?c11 ?k11 ?a12 ?i12 ?l12 ?c12 ?k12 ?a13 ?i13 ?l13 ?c13 ?k13 ?a14 ?i14 ?l14 ?c14 ?k14 ?a15 ?l15 ?c15 ?k15 ?a16 ?l16 ?c16 ?k16 ?a17 ?l17 ?c17 ?k17 ?a18 ?l18 ?c18 ?k18 ?a19 ?l19 ?c19 ?k19 ?a20 ?l20 ?c20 ?k20 ?a21 ?l21 ?c21 ?k21 ?a22 ?l22 ?c22 ?k22 ?a23 ?l23 ?c23 ?k23 ?a24 ?l24 ?c24 ?k24 ?a25 ?l25 ?c25 ?k25 ?a26 ?l26 ?c26 ?k26 ?a27 ?l27 ?c27 ?k27 ?a28 ?l28 ?c28 ?k28 ?a29 ?l29 ?c29 ?k29 ?a30 ?l30 ?c30 ?k30 ?a31 ?l31 ?c31 ?k31 ?a32 ?l32 ?c32 ?k32 ?pg ?hd ?po ?sa ?mk ?kc ?nl ?nr ?nt ?ob ?ne ?sf ?ca ?cn ?ct ?ty0 ?nf ?nftuple ?g_MAX_LETTERS ?g_MAX_WORD ?g_MAX_END ?g_MOST_ENDS ?z_bool ?z_len ?z_min ?z_max ?z_abs ?z_int ?z_isinstance ?z_tuple ?z_list ?z_all ?z_range ?z_repr ?xa_InvalidWord ?xk_InvalidWord ?xe_InvalidWord ?xt_InvalidWord ?xs_InvalidWord ?xc_InvalidWord ?xx_InvalidWord ?xa_InvalidHeight ?xk_InvalidHeight ?xe_InvalidHeight ?xt_InvalidHeight ?xs_InvalidHeight ?xc_InvalidHeight ?xx_InvalidHeight ?xa_InvalidOperation ?xk_InvalidOperation ?xe_InvalidOperation ?xt_InvalidOperation ?xs_InvalidOperation ?xc_InvalidOperation ?xx_InvalidOperation ?xa_InvalidNumber ?xk_InvalidNumber ?xe_InvalidNumber ?xt_InvalidNumber ?xs_InvalidNumber ?xc_InvalidNumber ?xi_InvalidNumber ?xo_InvalidNumber ?xsa_InvalidNumber ?xga_InvalidNumber ?xgg_InvalidNumber ?xno_InvalidNumber ?xin_InvalidNumber ?xit_InvalidNumber ?xhd_InvalidNumber ?xl_InvalidNumber ?xcc_InvalidNumber ?xm_InvalidWord_InvalidWord ?xm_InvalidHeight_InvalidWord ?xm_InvalidHeight_InvalidHeight ?xm_InvalidOperation_InvalidWord ?xm_InvalidOperation_InvalidHeight ?xm_InvalidOperation_InvalidOperation ?xm_InvalidNumber_InvalidWord ?xm_InvalidNumber_InvalidHeight ?xm_InvalidNumber_InvalidOperation ?xm_InvalidNumber_InvalidNumber ?tb28 ?nk28 ?tb29 ?nk29 ?tb30 ?nk30 ?ne0_1 ?ne0_2 ?ne1_2 ?ktu) ?hb ?r28 ?r29 ?r30
    (case aC => k_is)
    (case a0 => k_is)
    (case l0 => k_is)
    (case c0 => k_is)
    (case k0 => k_is)
    (case a1 => k_is)
    (case l1 => k_is)
    (case c1 => k_is)
    (case k1 => k_is)
    (case a2 => k_is)
    (case l2 => k_is)
    (case c2 => k_is)
    (case k2 => k_is)
    (case a3 => k_is)
    (case l3 => k_is)
    (case c3 => k_is)
    (case k3 => k_is)
    (case a4 => k_is)
    (case l4 => k_is)
    (case c4 => k_is)
    (case k4 => k_is)
    (case a5 => k_is)
    (case l5 => k_is)
    (case c5 => k_is)
    (case k5 => k_is)
    (case a6 => k_is)
    (case l6 => k_is)
    (case c6 => k_is)
    (case k6 => k_is)
    (case a7 => k_is)
    (case i7 => k_is)
    (case l7 => k_is)
    (case c7 => k_is)
    (case k7 => k_is)
    (case hkd0 => k_is)
    (case hle0 => k_is)
    (case a8 => k_is)
    (case g8 => k_is)
    (case t8 => k_is)
    (case r8 => k_is)
    (case l8 => k_is)
    (case c8 => k_is)
    (case k8 => k_is)
    (case a9 => k_is)
    (case g9 => k_is)
    (case t9 => k_is)
    (case r9 => k_is)
    (case l9 => k_is)
    (case c9 => k_is)
    (case k9 => k_is)
    (case a10 => k_is)
    (case g10 => k_is)
    (case t10 => k_is)
    (case r10 => k_is)
    (case l10 => k_is)
    (case c10 => k_is)
    (case k10 => k_is)
    (case a11 => k_is)
    (case l11 => k_is)
    (case c11 => k_is)
    (case k11 => k_is)
    (case a12 => k_is)
    (case i12 => k_is)
    (case l12 => k_is)
    (case c12 => k_is)
    (case k12 => k_is)
    (case a13 => k_is)
    (case i13 => k_is)
    (case l13 => k_is)
    (case c13 => k_is)
    (case k13 => k_is)
    (case a14 => k_is)
    (case i14 => k_is)
    (case l14 => k_is)
    (case c14 => k_is)
    (case k14 => k_is)
    (case a15 => k_is)
    (case l15 => k_is)
    (case c15 => k_is)
    (case k15 => k_is)
    (case a16 => k_is)
    (case l16 => k_is)
    (case c16 => k_is)
    (case k16 => k_is)
    (case a17 => k_is)
    (case l17 => k_is)
    (case c17 => k_is)
    (case k17 => k_is)
    (case a18 => k_is)
    (case l18 => k_is)
    (case c18 => k_is)
    (case k18 => k_is)
    (case a19 => k_is)
    (case l19 => k_is)
    (case c19 => k_is)
    (case k19 => k_is)
    (case a20 => k_is)
    (case l20 => k_is)
    (case c20 => k_is)
    (case k20 => k_is)
    (case a21 => k_is)
    (case l21 => k_is)
    (case c21 => k_is)
    (case k21 => k_is)
    (case a22 => k_is)
    (case l22 => k_is)
    (case c22 => k_is)
    (case k22 => k_is)
    (case a23 => k_is)
    (case l23 => k_is)
    (case c23 => k_is)
    (case k23 => k_is)
    (case a24 => k_is)
    (case l24 => k_is)
    (case c24 => k_is)
    (case k24 => k_is)
    (case a25 => k_is)
    (case l25 => k_is)
    (case c25 => k_is)
    (case k25 => k_is)
    (case a26 => k_is)
    (case l26 => k_is)
    (case c26 => k_is)
    (case k26 => k_is)
    (case a27 => k_is)
    (case l27 => k_is)
    (case c27 => k_is)
    (case k27 => k_is)
    (case a28 => k_is)
    (case l28 => k_is)
    (case c28 => k_is)
    (case k28 => k_is)
    (case a29 => k_is)
    (case l29 => k_is)
    (case c29 => k_is)
    (case k29 => k_is)
    (case a30 => k_is)
    (case l30 => k_is)
    (case c30 => k_is)
    (case k30 => k_is)
    (case a31 => k_is)
    (case l31 => k_is)
    (case c31 => k_is)
    (case k31 => k_is)
    (case a32 => k_is)
    (case l32 => k_is)
    (case c32 => k_is)
    (case k32 => k_is)
    (case pg => k_is)
    (case hd => k_is)
    (case po => k_is)
    (case sa => k_is)
    (case mk => k_is)
    (case kc => k_is)
    (case nl => k_is)
    (case nr => k_is)
    (case nt => k_is)
    (case ob => k_is)
    (case ne => k_is)
    (case sf => k_is)
    (case ca => k_is)
    (case cn => k_is)
    (case ct => k_is)
    (case ty0 => k_is)
    (case nf => k_is)
    (case nftuple => k_is)
    (case g_MAX_LETTERS => k_is)
    (case g_MAX_WORD => k_is)
    (case g_MAX_END => k_is)
    (case g_MOST_ENDS => k_is)
    (case z_bool => k_is)
    (case z_len => k_is)
    (case z_min => k_is)
    (case z_max => k_is)
    (case z_abs => k_is)
    (case z_int => k_is)
    (case z_isinstance => k_is)
    (case z_tuple => k_is)
    (case z_list => k_is)
    (case z_all => k_is)
    (case z_range => k_is)
    (case z_repr => k_is)
    (case xa_InvalidWord => k_is)
    (case xk_InvalidWord => k_is)
    (case xe_InvalidWord => k_is)
    (case xt_InvalidWord => k_is)
    (case xs_InvalidWord => k_is)
    (case xc_InvalidWord => k_is)
    (case xx_InvalidWord => k_exc)
    (case xa_InvalidHeight => k_is)
    (case xk_InvalidHeight => k_is)
    (case xe_InvalidHeight => k_is)
    (case xt_InvalidHeight => k_is)
    (case xs_InvalidHeight => k_is)
    (case xc_InvalidHeight => k_is)
    (case xx_InvalidHeight => k_exc)
    (case xa_InvalidOperation => k_is)
    (case xk_InvalidOperation => k_is)
    (case xe_InvalidOperation => k_is)
    (case xt_InvalidOperation => k_is)
    (case xs_InvalidOperation => k_is)
    (case xc_InvalidOperation => k_is)
    (case xx_InvalidOperation => k_exc)
    (case xa_InvalidNumber => k_is)
    (case xk_InvalidNumber => k_is)
    (case xe_InvalidNumber => k_is)
    (case xt_InvalidNumber => k_is)
    (case xs_InvalidNumber => k_is)
    (case xc_InvalidNumber => k_is)
    (case xi_InvalidNumber => kx_is)
    (case xo_InvalidNumber => kx_is)
    (case xsa_InvalidNumber => k_is)
    (case xga_InvalidNumber => k_is)
    (case xgg_InvalidNumber => k_is)
    (case xno_InvalidNumber => k_is)
    (case xin_InvalidNumber => k_is)
    (case xit_InvalidNumber => k_is)
    (case xhd_InvalidNumber => k_is)
    (case xl_InvalidNumber => k_is)
    (case xcc_InvalidNumber => k_is)
    (case xm_InvalidWord_InvalidWord => first | k_is | rfl)
    (case xm_InvalidHeight_InvalidWord => first | k_is | rfl)
    (case xm_InvalidHeight_InvalidHeight => first | k_is | rfl)
    (case xm_InvalidOperation_InvalidWord => first | k_is | rfl)
    (case xm_InvalidOperation_InvalidHeight => first | k_is | rfl)
    (case xm_InvalidOperation_InvalidOperation => first | k_is | rfl)
    (case xm_InvalidNumber_InvalidWord => first | k_is | rfl)
    (case xm_InvalidNumber_InvalidHeight => first | k_is | rfl)
    (case xm_InvalidNumber_InvalidOperation => first | k_is | rfl)
    (case xm_InvalidNumber_InvalidNumber => first | k_is | rfl)
    (case tb28 => refine' K06.tab_mk ?ta ?tl ?tc ?tk ?tv; (case ta => k_is); (case tl => k_is); (case tc => rfl); (case tk => k_is); (case tv => rfl))
    (case nk28 => first | k_is | rfl)
    (case tb29 => refine' K06.tab_mk ?ta ?tl ?tc ?tk ?tv; (case ta => k_is); (case tl => k_is); (case tc => rfl); (case tk => k_is); (case tv => rfl))
    (case nk29 => first | k_is | rfl)
    (case tb30 => refine' K06.tab_mk ?ta ?tl ?tc ?tk ?tv; (case ta => k_is); (case tl => k_is); (case tc => rfl); (case tk => k_is); (case tv => rfl))
    (case nk30 => first | k_is | rfl)
    (case ne0_1 => decide)
    (case ne0_2 => decide)
    (case ne1_2 => decide)
    (case ktu => k_is)
    (case hb => exact fun s v => .of_eq rfl)
    (case r28 => decide +kernel)
    (case r29 => decide +kernel)
    (case r30 => decide +kernel)
