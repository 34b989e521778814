import PyProof.Rows.All
import Wide.All
import OpenK.AllK
import Wide.FinOn
import HandS.ForMost
import HandS.Zip0
import HandS.Zip
import HandS.Walk
import HandS.TupMul
import HandS.IsInst
import HandS.Wide
import HandS.WideMore
import HandS.TupLe
import HandS.TupAny
import HandS.Codes
import PySem.Challenge.RW_paperrows_k04_whole_led_in_steps
set_option Elab.async false
set_option linter.all false
set_option maxRecDepth 100000
set_option maxHeartbeats 8000000
/-! zip of a list or tuple with a list or tuple -/
namespace ZG
open PySem PySem.Spec PyProof.Rows L2
/-- a tuple (true) or a list (false) stands at l -/
def SeqH : Bool → Heap → Addr → Array Value → Prop
  | true, h, l, xs => h.IsTuple l xs
  | false, h, l, xs => h.IsList l xs
def IterH : Bool → Heap → Addr → Addr → Nat → Prop
  | true, h, it, l, k => h.IsTupleIter it l k
  | false, h, it, l, k => h.IsListIter it l k
def itName : Bool → String
  | true => "tuple_iterator"
  | false => "list_iterator"
def itObj (t : Bool) (l : Addr) : Obj := { cls := .type (itName t), data := .fields #[.ref l, .int 0 0] }
section
variable {prog : Program} {w : World} {A : Around} {E : Value → Shared → Prop} {st : Shared}
theorem SeqH.eb {t : Bool} {h g : Heap} {b l : Addr} {xs : Array Value} (q : SeqH t h l xs) (e : Heap.ExtBut b h g) (n : l ≠ b) : SeqH t g l xs := by
  cases t
  · exact Heap.IsList.extBut q e n
  · exact Heap.IsTuple.extBut q e n
theorem IterH.eb {t : Bool} {h g : Heap} {b it l : Addr} {k : Nat} (q : IterH t h it l k) (e : Heap.ExtBut b h g) (n : it ≠ b) : IterH t g it l k := by
  cases t
  · exact Heap.IsListIter.extBut q e n
  · exact Heap.IsTupleIter.extBut q e n
theorem IterH.to {t : Bool} {h g : Heap} {it l : Addr} {k : Nat} (q : IterH t h it l k) (e : ∀ o, h.get? it = some o → g.get? it = some o) : IterH t g it l k := by
  cases t
  · exact Heap.IsListIter.at q e
  · exact Heap.IsTupleIter.at q e
theorem IterH.lt {t : Bool} {h : Heap} {it l : Addr} {k : Nat} (q : IterH t h it l k) : it < h.objs.size := by
  cases t
  · obtain ⟨_, e, _⟩ := q
    exact Heap.lt_size e
  · obtain ⟨_, e, _⟩ := q
    exact Heap.lt_size e
theorem IterH.plain {t : Bool} {h : Heap} {it l : Addr} {k : Nat} (q : IterH t h it l k) : ∃ o, h.get? it = some o ∧ ∀ v, o.data ≠ .cell v := by
  cases t
  · obtain ⟨o, e, _, d⟩ := q
    exact ⟨o, e, fun v z => by rw [d] at z; cases z⟩
  · obtain ⟨o, e, _, d⟩ := q
    exact ⟨o, e, fun v z => by rw [d] at z; cases z⟩
theorem SeqH.psh {t : Bool} {h : Heap} {l : Addr} {xs : Array Value} (q : SeqH t h l xs) (o : Obj) : SeqH t (h.push o) l xs := by
  cases t
  · exact Heap.IsList.push q o
  · exact Heap.IsTuple.push q o
theorem nextG {t : Bool} {it l : Addr} {i : Nat} {its : Array Value} {x : Value} {Q : Value → Shared → Prop} (q1 : IterH t st.heap it l i)
    (q2 : SeqH t st.heap l its) (q3 : its[i]? = some x) (q4 : ∀ h', IterH t h' it l (i + 1) → Heap.SameBut it st.heap h' → Q x { st with heap := h' }) :
    wpAny (model prog w) A (Builtin.SmallTypes.nextOf (.ref it)) Q E st := by
  cases t
  · exact wpAny_nextOf_list_item q1 q2 q3 q4
  · exact RZ.nextOf_tuple_item q1 q2 q3 q4
theorem stopG {t : Bool} {it l : Addr} {i : Nat} {its : Array Value} {Q : Value → Shared → Prop} (q0 : A.handled = none) (q1 : IterH t st.heap it l i)
    (q2 : SeqH t st.heap l its) (q3 : its[i]? = none) (q4 : ∀ h' e, Heap.ExtBut it st.heap h' → (∃ o, h'.get? e = some o ∧ o.cls = .type "StopIteration") → E (.ref e) { st with heap := h' }) :
    wpAny (model prog w) A (Builtin.SmallTypes.nextOf (.ref it)) Q E st := by
  cases t
  · exact wpAny_nextOf_list_end q0 q1 q2 q3 q4
  · exact RZ.nextOf_tuple_end q0 q1 q2 q3 q4
theorem iterG {t : Bool} {l : Addr} {its : Array Value} {Q : Value → Shared → Prop} (q : SeqH t st.heap l its) (r : Q (.ref st.heap.objs.size) { st with heap := st.heap.push (itObj t l) }) :
    wpAny (model prog w) A (pyIter (.ref l)) Q E st := by
  cases t
  · exact wpAny_pyIter_list q r
  · exact wpAny_pyIter_tuple q r
theorem IterH.fresh (t : Bool) {h : Heap} {it l : Addr} (q : h.get? it = some (itObj t l)) : IterH t h it l 0 := by
  cases t
  · exact ⟨_, q, rfl, rfl⟩
  · exact ⟨_, q, rfl, rfl⟩
end
end ZG

namespace ZG
open PySem PySem.Spec PyProof.Rows L2
section
variable {prog : Program} {w : World} {A : Around} {E : Value → Shared → Prop} {st : Shared}
theorem zipG_item {ta tb : Bool} {zz ti tO ia ib la lb : Addr} {ka kb : Nat} {va vb : Array Value} {x y a b : Value} {Q : Value → Shared → Prop} (D : ZipApart zz ti tO ia ib la lb)
    (gz : IsZip st.heap zz ti tO .none) (gi : IsPair st.heap ti (.ref ia) (.ref ib)) (gO : IsPair st.heap tO a b)
    (ga : IterH ta st.heap ia la ka) (gb : IterH tb st.heap ib lb kb) (sa : SeqH ta st.heap la va) (sb : SeqH tb st.heap lb vb) (ex : va[ka]? = some x) (ey : vb[kb]? = some y)
    (gQ : ∀ h', IsZip h' zz ti tO (rawInt st.heap.objs.size) → IsPair h' tO x y → IterH ta h' ia la (ka + 1) → IterH tb h' ib lb (kb + 1) → IsPair h' st.heap.objs.size x y → h'.objs.size = st.heap.objs.size + 1 →
      (∀ c o, c ≠ zz → c ≠ tO → c ≠ ia → c ≠ ib → st.heap.get? c = some o → h'.get? c = some o) → Q (.ref st.heap.objs.size) { st with heap := h' }) :
    wpAny (model prog w) A (Builtin.«zip.__next__» ⟨[.ref zz], []⟩) (fun fin s' => ∃ v, fin = .done (.ret v) ∧ Q v s') E st := by
  show wpAny _ _ (field (.ref zz) 2 >>= _) _ _ _
  refine wpAny_bind (wpAny_field gz rfl (x := .bool false) rfl ?_)
  show wpAny _ _ (field (.ref zz) 3 >>= _) _ _ _
  refine wpAny_bind (wpAny_field gz rfl (x := .ref ti) rfl ?_)
  refine wpAny_bind (wpAny_seqItems gi rfl ?_)
  show wpAny _ _ (Builtin.SmallTypes.ownedTupleIsFree (.ref zz) >>= _) _ _ _
  refine wpAny_bind ?_
  unfold Builtin.SmallTypes.ownedTupleIsFree
  refine wpAny_bind (wpAny_field gz rfl (x := .none) rfl (wpAny_pure ?_))
  simp only [if_true]
  refine wpAny_bind (wpAny_rule ?_)
  refine wpAny_bind (wpAny_field gz rfl (x := .ref tO) rfl ?_)
  refine wpAny_bind (wpAny_setField_rec gz (by simp) fun j1 z1 m1 => ?_)
  replace z1 : IsZip j1 zz ti tO .ellipsis := z1
  refine wpAny_bind ?_
  simp only [List.forIn_cons, List.forIn_nil, List.zipIdx_cons, List.zipIdx_nil]
  refine wpAny_bind (wpAny_bind (wpAny_onRaise ?_))
  show wpAny _ _ (Builtin.SmallTypes.nextOf (.ref ia) >>= _) _ _ _
  refine wpAny_bind (nextG (ga.eb m1.extBut D.i1z) (sa.eb m1.extBut D.l1z) ex fun j2 i2 m2 => wpAny_pure ?_)
  have o2 : IsPair j2 tO a b := m2.extBut _ _ D.TOi1 (m1.extBut _ _ D.TOz gO)
  refine wpAny_bind (wpAny_seqItems o2 rfl ?_)
  refine wpAny_bind (wpAny_updateSeq_pair o2 fun j3 o3 m3 => ?_)
  replace o3 : IsPair j3 tO x b := o3
  refine wpAny_bind (wpAny_letGo (wpAny_pure ?_))
  refine wpAny_bind (wpAny_bind (wpAny_onRaise ?_))
  show wpAny _ _ (Builtin.SmallTypes.nextOf (.ref ib) >>= _) _ _ _
  refine wpAny_bind (nextG (((gb.eb m1.extBut D.i2z).eb m2.extBut D.i12.symm).eb m3.extBut D.TOi2.symm)
    (((sb.eb m1.extBut D.l2z).eb m2.extBut D.l2i1).eb m3.extBut D.l2TO) ey fun j4 i4 m4 => wpAny_pure ?_)
  have o4 : IsPair j4 tO x b := m4.extBut _ _ D.TOi2 o3
  refine wpAny_bind (wpAny_seqItems o4 rfl ?_)
  refine wpAny_bind (wpAny_updateSeq_pair o4 fun j5 o5 m5 => ?_)
  replace o5 : IsPair j5 tO x y := o5
  refine wpAny_bind (wpAny_letGo (wpAny_pure (wpAny_pure ?_)))
  refine wpAny_bind (wpAny_seqItems o5 rfl ?_)
  refine wpAny_bind (wpAny_newTuple ?_)
  have es : j5.objs.size = st.heap.objs.size := by rw [m5.1, m4.1, m3.1, m2.1, m1.1]
  have z5 : IsZip j5 zz ti tO .ellipsis := m5.extBut _ _ D.TOz.symm (m4.extBut _ _ D.i2z.symm (m3.extBut _ _ D.TOz.symm (m2.extBut _ _ D.i1z.symm z1)))
  have k5 : ∀ c o, c ≠ zz → c ≠ tO → c ≠ ia → c ≠ ib → st.heap.get? c = some o → j5.get? c = some o := fun c o c1 c2 c3 c4 e =>
    m5.extBut _ _ c2 (m4.extBut _ _ c4 (m3.extBut _ _ c2 (m2.extBut _ _ c3 (m1.extBut _ _ c1 e))))
  have a5 : IterH ta j5 ia la (ka + 1) := ((i2.eb m3.extBut D.TOi1.symm).eb m4.extBut D.i12).eb m5.extBut D.TOi1.symm
  have b5 : IterH tb j5 ib lb (kb + 1) := i4.eb m5.extBut D.TOi2.symm
  have lz : zz < j5.objs.size := Heap.lt_size z5
  show wpAny _ _ (Builtin.SmallTypes.ownedTupleHandOut (.ref zz) (.ref j5.objs.size) >>= _) _ _ _
  refine wpAny_bind ?_
  unfold Builtin.SmallTypes.ownedTupleHandOut
  have z6 : IsZip (j5.push { cls := .type "tuple", data := .seq #[x, y] }) zz ti tO .ellipsis := Heap.get?_push_of_some _ z5
  refine wpAny_bind (wpAny_setField_rec z6 (by simp) fun j7 z7 m7 => ?_)
  replace z7 : IsZip j7 zz ti tO (rawInt j5.objs.size) := z7
  refine wpAny_setField_rec z7 (by simp) fun j8 z8 m8 => ?_
  replace z8 : IsZip j8 zz ti tO (rawInt j5.objs.size) := z8
  have up : ∀ c o, c ≠ zz → j5.get? c = some o → j8.get? c = some o := fun c o c1 e => m8.extBut _ _ c1 (m7.extBut _ _ c1 (Heap.get?_push_of_some _ e))
  have t8 : IsPair j8 j5.objs.size x y := m8.extBut _ _ (Nat.ne_of_gt lz) (m7.extBut _ _ (Nat.ne_of_gt lz) (Heap.get?_push_size _ rfl))
  have s8 : j8.objs.size = j5.objs.size + 1 := by rw [m8.1, m7.1, Heap.size_push]
  rw [es] at z8 t8 s8
  refine wpAny_pure ⟨_, rfl, ?_⟩
  show Q (.ref j5.objs.size) _
  rw [es]
  exact gQ j8 z8 (up _ _ D.TOz o5) (a5.to fun o e => up _ o D.i1z e) (b5.to fun o e => up _ o D.i2z e) t8 s8 fun c o c1 c2 c3 c4 e => up c o c1 (k5 c o c1 c2 c3 c4 e)
theorem zipG_end {ta tb : Bool} {zz ti tO ia ib la lb : Addr} {ka kb : Nat} {va vb : Array Value} {a b : Value} {Q : Fin → Shared → Prop} (g0 : A.handled = none) (D : ZipApart zz ti tO ia ib la lb)
    (gz : IsZip st.heap zz ti tO .none) (gi : IsPair st.heap ti (.ref ia) (.ref ib)) (gO : IsPair st.heap tO a b)
    (ga : IterH ta st.heap ia la ka) (gb : IterH tb st.heap ib lb kb) (sa : SeqH ta st.heap la va) (sb : SeqH tb st.heap lb vb) (he : va[ka]? = none ∨ vb[kb]? = none)
    (gE : ∀ h' e, (∀ c o, c ≠ zz → c ≠ tO → c ≠ ia → c ≠ ib → st.heap.get? c = some o → h'.get? c = some o) → (∃ o, h'.get? e = some o ∧ o.cls = .type "StopIteration") → E (.ref e) { st with heap := h' }) :
    wpAny (model prog w) A (Builtin.«zip.__next__» ⟨[.ref zz], []⟩) Q E st := by
  show wpAny _ _ (field (.ref zz) 2 >>= _) _ _ _
  refine wpAny_bind (wpAny_field gz rfl (x := .bool false) rfl ?_)
  show wpAny _ _ (field (.ref zz) 3 >>= _) _ _ _
  refine wpAny_bind (wpAny_field gz rfl (x := .ref ti) rfl ?_)
  refine wpAny_bind (wpAny_seqItems gi rfl ?_)
  show wpAny _ _ (Builtin.SmallTypes.ownedTupleIsFree (.ref zz) >>= _) _ _ _
  refine wpAny_bind ?_
  unfold Builtin.SmallTypes.ownedTupleIsFree
  refine wpAny_bind (wpAny_field gz rfl (x := .none) rfl (wpAny_pure ?_))
  simp only [if_true]
  refine wpAny_bind (wpAny_rule ?_)
  refine wpAny_bind (wpAny_field gz rfl (x := .ref tO) rfl ?_)
  refine wpAny_bind (wpAny_setField_rec gz (by simp) fun j1 z1 m1 => ?_)
  replace z1 : IsZip j1 zz ti tO .ellipsis := z1
  refine wpAny_bind ?_
  simp only [List.forIn_cons, List.forIn_nil, List.zipIdx_cons, List.zipIdx_nil]
  refine wpAny_bind (wpAny_bind (wpAny_onRaise ?_))
  show wpAny _ _ (Builtin.SmallTypes.nextOf (.ref ia) >>= _) _ _ _
  cases ex : va[ka]? with
  | none =>
    refine wpAny_bind (stopG g0 (ga.eb m1.extBut D.i1z) (sa.eb m1.extBut D.l1z) ex fun j2 e m2 ge => ?_)
    obtain ⟨oe, goe, gce⟩ := ge
    have z2 : IsZip j2 zz ti tO .ellipsis := m2 _ _ D.i1z.symm z1
    have nez : e ≠ zz := fun x => by subst x; rw [z2] at goe; cases goe; simp at gce
    refine wpAny_setField_rec z2 (by simp) fun j3 _ m3 => gE j3 e (fun c o c1 _ c3 _ x => m3.extBut _ _ c1 (m2 _ _ c3 (m1.extBut _ _ c1 x))) ⟨oe, m3.extBut _ _ nez goe, gce⟩
  | some x =>
    have ey : vb[kb]? = none := by
      rcases he with h | h
      · rw [ex] at h
        cases h
      · exact h
    refine wpAny_bind (nextG (ga.eb m1.extBut D.i1z) (sa.eb m1.extBut D.l1z) ex fun j2 i2 m2 => wpAny_pure ?_)
    have o2 : IsPair j2 tO a b := m2.extBut _ _ D.TOi1 (m1.extBut _ _ D.TOz gO)
    refine wpAny_bind (wpAny_seqItems o2 rfl ?_)
    refine wpAny_bind (wpAny_updateSeq_pair o2 fun j3 o3 m3 => ?_)
    refine wpAny_bind (wpAny_letGo (wpAny_pure ?_))
    refine wpAny_bind (wpAny_bind (wpAny_onRaise ?_))
    show wpAny _ _ (Builtin.SmallTypes.nextOf (.ref ib) >>= _) _ _ _
    refine wpAny_bind (stopG g0 (((gb.eb m1.extBut D.i2z).eb m2.extBut D.i12.symm).eb m3.extBut D.TOi2.symm)
      (((sb.eb m1.extBut D.l2z).eb m2.extBut D.l2i1).eb m3.extBut D.l2TO) ey fun j4 e m4 ge => ?_)
    obtain ⟨oe, goe, gce⟩ := ge
    have z4 : IsZip j4 zz ti tO .ellipsis := m4 _ _ D.i2z.symm (m3.extBut _ _ D.TOz.symm (m2.extBut _ _ D.i1z.symm z1))
    have nez : e ≠ zz := fun x => by subst x; rw [z4] at goe; cases goe; simp at gce
    refine wpAny_setField_rec z4 (by simp) fun j5 _ m5 => gE j5 e (fun c o c1 c2 c3 c4 x => m5.extBut _ _ c1 (m4 _ _ c4 (m3.extBut _ _ c2 (m2.extBut _ _ c3 (m1.extBut _ _ c1 x))))) ⟨oe, m5.extBut _ _ nez goe, gce⟩
theorem pyNextG_item {ta tb : Bool} {zz ti tO ia ib la lb : Addr} {ka kb : Nat} {va vb : Array Value} {x y a b : Value} {Q : Option Value → Shared → Prop} (D : ZipApart zz ti tO ia ib la lb)
    (gz : IsZip st.heap zz ti tO .none) (gi : IsPair st.heap ti (.ref ia) (.ref ib)) (gO : IsPair st.heap tO a b)
    (ga : IterH ta st.heap ia la ka) (gb : IterH tb st.heap ib lb kb) (sa : SeqH ta st.heap la va) (sb : SeqH tb st.heap lb vb) (ex : va[ka]? = some x) (ey : vb[kb]? = some y)
    (gQ : ∀ h', IsZip h' zz ti tO (rawInt st.heap.objs.size) → IsPair h' tO x y → IterH ta h' ia la (ka + 1) → IterH tb h' ib lb (kb + 1) → IsPair h' st.heap.objs.size x y → h'.objs.size = st.heap.objs.size + 1 →
      (∀ c o, c ≠ zz → c ≠ tO → c ≠ ia → c ≠ ib → st.heap.get? c = some o → h'.get? c = some o) → Q (some (.ref st.heap.objs.size)) { st with heap := h' }) :
    wpAny (model prog w) A (pyNext (.ref zz)) Q E st := by
  have tz : st.TypeIs (.ref zz) "zip" := ⟨_, gz, rfl⟩
  unfold pyNext
  exact wpAny_bind (wpAny_attempt (wpAny_callSpecial?_slot (name := Str.ofString "__next__") tz F.slot_zip_next
    (wpAny_call_entry F.slot_zip_next tz F.entry_zip_next
      (zipG_item D gz gi gO ga gb sa sb ex ey fun h' a1 a2 a3 a4 a5 a6 a7 => wpAny_pure (gQ h' a1 a2 a3 a4 a5 a6 a7)) (F.args_zip_next_1 _))))
theorem pyNextG_end {ta tb : Bool} {zz ti tO ia ib la lb : Addr} {ka kb : Nat} {va vb : Array Value} {a b : Value} {Q : Option Value → Shared → Prop} (g0 : A.handled = none) (D : ZipApart zz ti tO ia ib la lb)
    (gz : IsZip st.heap zz ti tO .none) (gi : IsPair st.heap ti (.ref ia) (.ref ib)) (gO : IsPair st.heap tO a b)
    (ga : IterH ta st.heap ia la ka) (gb : IterH tb st.heap ib lb kb) (sa : SeqH ta st.heap la va) (sb : SeqH tb st.heap lb vb) (he : va[ka]? = none ∨ vb[kb]? = none)
    (gQ : ∀ h', (∀ c o, c ≠ zz → c ≠ tO → c ≠ ia → c ≠ ib → st.heap.get? c = some o → h'.get? c = some o) → Q none { st with heap := h' }) : wpAny (model prog w) A (pyNext (.ref zz)) Q E st := by
  have tz : st.TypeIs (.ref zz) "zip" := ⟨_, gz, rfl⟩
  unfold pyNext
  refine wpAny_bind (wpAny_attempt (wpAny_callSpecial?_slot (name := Str.ofString "__next__") tz F.slot_zip_next
    (wpAny_call_entry F.slot_zip_next tz F.entry_zip_next (zipG_end g0 D gz gi gO ga gb sa sb he fun h' e gk ge => ?_) (F.args_zip_next_1 _))))
  obtain ⟨o, go, gc⟩ := ge
  refine wpAny_bind (wpAny_isInstance (T := "StopIteration") (b := true) ⟨o, go, gc⟩ isSubtype_stop ?_)
  exact wpAny_pure (gQ _ gk)
end
abbrev gz1 (ta : Bool) (h : Heap) (la : Addr) : Heap := h.push (itObj ta la)
abbrev gz2 (ta tb : Bool) (h : Heap) (la lb : Addr) : Heap := (gz1 ta h la).push (itObj tb lb)
abbrev gz3 (ta tb : Bool) (h : Heap) (la lb : Addr) : Heap := (gz2 ta tb h la lb).push { cls := .type "tuple", data := .seq #[.ref h.objs.size, .ref (gz1 ta h la).objs.size] }
abbrev gz4 (ta tb : Bool) (h : Heap) (la lb : Addr) : Heap := (gz3 ta tb h la lb).push { cls := .type "tuple", data := .seq #[.none, .none] }
abbrev gz5 (ta tb : Bool) (h : Heap) (la lb : Addr) : Heap := (gz4 ta tb h la lb).push { cls := .type "zip", data := .fields #[.none, .bool false, .bool false, .ref (gz2 ta tb h la lb).objs.size, .ref (gz3 ta tb h la lb).objs.size] }
theorem meetsG (ta tb : Bool) (la lb : Addr) (va vb : Array Value) :
    Meets (Builtin.«zip.__new__» ⟨[.type "zip", .ref la, .ref lb], []⟩) (fun _ R s => SeqH ta s.heap la va ∧ SeqH tb s.heap lb vb ∧
      R (.ok (.ret (.ref (gz4 ta tb s.heap la lb).objs.size))) { s with heap := gz5 ta tb s.heap la lb }) :=
  .of_wp fun prog w A R s h => by
    obtain ⟨hp, g, d, tk, os⟩ := s
    obtain ⟨sa, sb, h⟩ := h
    have hsub := sub_zip
    have ha : SeqH ta (Shared.heap ⟨hp, g, d, tk, os⟩) la va := sa
    have hb : SeqH tb (Shared.heap ⟨hp.push (itObj ta la), g, d, tk, os⟩) lb vb := sb.psh _
    wp_walk using iterG ha, iterG hb
    exact ⟨_, rfl, h⟩
section
variable {prog : Program} {w : World} {A : Around} {E : Value → Shared → Prop} {st : Shared}
theorem callG {ta tb : Bool} {la lb : Addr} {va vb : Array Value} {Q : Value → Shared → Prop} (sa : SeqH ta st.heap la va) (sb : SeqH tb st.heap lb vb)
    (h : ∀ h', IsZip h' (st.heap.objs.size + 4) (st.heap.objs.size + 2) (st.heap.objs.size + 3) .none → IsPair h' (st.heap.objs.size + 2) (.ref st.heap.objs.size) (.ref (st.heap.objs.size + 1)) →
      IsPair h' (st.heap.objs.size + 3) .none .none → IterH ta h' st.heap.objs.size la 0 → IterH tb h' (st.heap.objs.size + 1) lb 0 → h'.objs.size = st.heap.objs.size + 5 →
      (∀ c o, st.heap.get? c = some o → h'.get? c = some o) → Q (.ref (st.heap.objs.size + 4)) { st with heap := h' }) :
    wpAny (model prog w) A (call (.type "zip") [.ref la, .ref lb]) Q E st := by
  refine callType_new F.called_zip (by decide) (F.typeCall_zip_2 _ _) (F.newCall_zip_2 _ _) (fun obj => F.args_object_init_3 obj _ _) F.entry_zip_new
    (meetsG ta tb la lb va vb) ⟨sa, sb, ?_⟩
  have z1 : (gz1 ta st.heap la).objs.size = st.heap.objs.size + 1 := Heap.size_push ..
  have z2 : (gz2 ta tb st.heap la lb).objs.size = st.heap.objs.size + 2 := by rw [Heap.size_push, z1]
  have z3 : (gz3 ta tb st.heap la lb).objs.size = st.heap.objs.size + 3 := by rw [Heap.size_push, z2]
  have z4 : (gz4 ta tb st.heap la lb).objs.size = st.heap.objs.size + 4 := by rw [Heap.size_push, z3]
  have z5 : (gz5 ta tb st.heap la lb).objs.size = st.heap.objs.size + 5 := by rw [Heap.size_push, z4]
  have g5 : (gz5 ta tb st.heap la lb).get? (gz4 ta tb st.heap la lb).objs.size = some _ := Heap.get?_push_size _ rfl
  have g4 : (gz5 ta tb st.heap la lb).get? (gz3 ta tb st.heap la lb).objs.size = some _ := Heap.get?_push_of_some _ (Heap.get?_push_size _ rfl)
  have g3 : (gz5 ta tb st.heap la lb).get? (gz2 ta tb st.heap la lb).objs.size = some _ := Heap.get?_push_of_some _ (Heap.get?_push_of_some _ (Heap.get?_push_size _ rfl))
  have g2 : (gz5 ta tb st.heap la lb).get? (gz1 ta st.heap la).objs.size = some _ := Heap.get?_push_of_some _ (Heap.get?_push_of_some _ (Heap.get?_push_of_some _ (Heap.get?_push_size _ (by rfl))))
  have g1 : (gz5 ta tb st.heap la lb).get? st.heap.objs.size = some _ := Heap.get?_push_of_some _ (Heap.get?_push_of_some _ (Heap.get?_push_of_some _ (Heap.get?_push_of_some _ (Heap.get?_push_size _ (by rfl)))))
  show _ ∧ _
  rw [z2, z3, z4] at g5
  rw [z1, z2] at g3
  rw [z3] at g4
  rw [z1] at g2
  rw [z4]
  exact ⟨⟨_, g5, rfl⟩, h _ g5 g3 g4 (IterH.fresh ta g1) (IterH.fresh tb g2) z5 fun c o x =>
    Heap.get?_push_of_some _ (Heap.get?_push_of_some _ (Heap.get?_push_of_some _ (Heap.get?_push_of_some _ (Heap.get?_push_of_some _ x))))⟩
end
/-! ### at the layer's level -/
def SqG : Bool → PySem.W.Frag → Hp → Addr → List V → Prop
  | true, K, H, a, xs => SqT K H a xs
  | false, K, H, a, xs => SqL K H a xs
theorem SqG.inv {X : Cx} {pins : List (Addr × Obj)} {σ : L2.St} {H : Hp} {s : Shared} {t : Bool} {a : Addr} {xs : List V} (q : SqG t X.K H a xs) (I : Inv X pins σ H s) : ∃ its : List Value, Vals xs its ∧ SeqH t s.heap a its.toArray := by
  cases t
  · obtain ⟨its, rv, p, _⟩ := I.list q
    exact ⟨its, rv, p.isList⟩
  · obtain ⟨its, rv, p, _⟩ := I.tuple q
    exact ⟨its, rv, p⟩
theorem SqG.inj {X : Cx} {pins : List (Addr × Obj)} {σ : L2.St} {H : Hp} {s : Shared} {t : Bool} {a : Addr} {xs ys : List V} (q : SqG t X.K H a xs) (q' : SqG t X.K H a ys) (I : Inv X pins σ H s) : xs = ys := by
  cases t
  · exact I.list_inj q q'
  · exact I.tuple_inj q q'
theorem SeqH.lt {t : Bool} {h : Heap} {l : Addr} {xs : Array Value} (q : SeqH t h l xs) : l < h.objs.size := by
  cases t
  · obtain ⟨_, e⟩ := q
    first | exact Heap.lt_size e.1 | exact Heap.lt_size e.choose_spec.1
  · obtain ⟨_, e, _⟩ := q
    exact Heap.lt_size e
/-- what stands at a and at b, of the kinds ta and tb, in new pairs -/
def ItG (K : PySem.W.Frag) (ta tb : Bool) (a b : Addr) : It :=
  ⟨fun i H => ∃ (xs ys : List V) (x y : V), SqG ta K H a xs ∧ SqG tb K H b ys ∧ xs[i]? = some x ∧ ys[i]? = some y,
    fun i H v H' => ∃ T x y, v = .ref T ∧ H T = none ∧ H' = upd H T (.tup [x, y]) ∧ (∀ xs, SqG ta K H a xs → xs[i]? = some x) ∧ ∀ ys, SqG tb K H b ys → ys[i]? = some y,
    fun i H => ∃ xs ys : List V, SqG ta K H a xs ∧ SqG tb K H b ys ∧ (xs.length ≤ i ∨ ys.length ≤ i)⟩
theorem turnG {P : Program} {w : World} {K : PySem.W.Frag} {elts : List Expr} {kk : Nat} {tpos : Pos} {ta tb : Bool} {a b zz ti tO ia ib : Addr} (D : ZipApart zz ti tO ia ib a b) :
    Turn P w K (.Tuple elts kk tpos) (ItG K ta tb a b) [zz, ti, tO, ia, ib] zz (fun i h => IsZip h zz ti tO .none ∧ IsPair h ti (.ref ia) (.ref ib) ∧ (∃ x y, IsPair h tO x y) ∧ IterH ta h ia a i ∧ IterH tb h ib b i) where
  mem := by simp
  obj := fun i h st c hc => by
    obtain ⟨gz, gi, ⟨x, y, gO⟩, ga, gb⟩ := st
    have e' : c = zz ∨ c = ti ∨ c = tO ∨ c = ia ∨ c = ib := by simpa using hc
    rcases e' with q | q | q | q | q
    · subst q; exact ⟨_, gz, fun v q => nomatch q⟩
    · subst q; exact ⟨_, gi, fun v q => nomatch q⟩
    · subst q; exact ⟨_, gO, fun v q => nomatch q⟩
    · subst q; exact ga.plain
    · subst q; exact gb.plain
  keep := fun i h h' st k => by
    obtain ⟨gz, gi, ⟨x, y, gO⟩, ga, gb⟩ := st
    exact ⟨k zz (by simp) _ gz, k ti (by simp) _ gi, ⟨x, y, k tO (by simp) _ gO⟩, ga.to fun o q => k ia (by simp) o q, gb.to fun o q => k ib (by simp) o q⟩
  item := by
    intro X hP hw hK hc i pins s σ H E I hf st hg
    subst hP hw hK
    obtain ⟨gz, gi, ⟨x0, y0, gO⟩, ga, gb⟩ := st
    obtain ⟨xs, ys, x, y, qx, qy, ex, ey⟩ := hg
    obtain ⟨its, rv, p⟩ := qx.inv I
    obtain ⟨its2, rv2, p2⟩ := qy.inv I
    obtain ⟨u, hu, ru⟩ := rv.get ex
    obtain ⟨u2, hu2, ru2⟩ := rv2.get ey
    have lz : zz < s.heap.objs.size := Heap.lt_size gz
    refine pyNextG_item D gz gi gO ga gb p p2 (x := u) (y := u2) (by simpa using hu) (by simpa using hu2) fun h' z' o' a' b' hT hsz hk => ?_
    refine ⟨_, rfl, wpAny_letOwnedTupleGo_zip (s := { s with heap := h' }) z' fun h'' z'' sb => ?_⟩
    have hT2 : h''.get? s.heap.objs.size = some { cls := .type "tuple", data := .seq #[u, u2] } := (sb.2 _ (Nat.ne_of_gt lz)).trans hT
    have new : ObjOk X.prog X.w (upd H s.heap.objs.size (.tup [x, y])) h'' s.heap.objs.size (.tup [x, y]) :=
      ⟨(by decide : 2 ≤ sizeLine), [u, u2], .cons ru (.cons ru2 .nil), ⟨_, hT2, rfl, _, rfl⟩⟩
    have I1 : Inv X pins σ (upd H s.heap.objs.size (.tup [x, y])) { s with heap := h'' } :=
      I.turnedNew (t' := s.toks) (ch := [zz, ti, tO, ia, ib]) (fun c o hb q => (sb.2 c (fun q' => hb (by simp [q']))).trans (hk c o (fun q' => hb (by simp [q'])) (fun q' => hb (by simp [q'])) (fun q' => hb (by simp [q'])) (fun q' => hb (by simp [q'])) q)) hf (Nat.le_refl _) new
    refine ⟨.ref s.heap.objs.size, _, I1, rfl, ⟨_, x, y, rfl, I.hok.fresh (Nat.le_refl _), rfl, fun l hl => by rw [SqG.inj hl qx I]; exact ex, fun l hl => by rw [SqG.inj hl qy I]; exact ey⟩, ⟨z'', ?_, ⟨u, u2, ?_⟩, ?_, ?_⟩, fun c hcm => ?_⟩
    · exact (sb.2 _ D.TIz).trans (hk _ _ D.TIz D.TITO D.TIi1 D.TIi2 gi)
    · exact (sb.2 _ D.TOz).trans o'
    · exact a'.to fun o q => (sb.2 _ D.i1z).trans q
    · exact b'.to fun o q => (sb.2 _ D.i2z).trans q
    · have lc : c < s.heap.objs.size := by
        have e' : c = zz ∨ c = ti ∨ c = tO ∨ c = ia ∨ c = ib := by simpa using hcm
        rcases e' with q | q | q | q | q
        · subst q; exact lz
        · subst q; exact Heap.lt_size gi
        · subst q; exact Heap.lt_size gO
        · subst q; exact ga.lt
        · subst q; exact gb.lt
      rw [upd_ne (Nat.ne_of_lt lc)]
      exact (hf c hcm).1
  done := by
    intro X hP hw hK hc i pins s σ H E I hf st hg
    subst hP hw hK
    obtain ⟨gz, gi, ⟨x0, y0, gO⟩, ga, gb⟩ := st
    obtain ⟨xs, ys, qx, qy, hend⟩ := hg
    obtain ⟨its, rv, p⟩ := qx.inv I
    obtain ⟨its2, rv2, p2⟩ := qy.inv I
    have l1 := rv.length
    have l2 := rv2.length
    have he : its.toArray[i]? = none ∨ its2.toArray[i]? = none := by
      rcases hend with q | q
      · left; simp; omega
      · right; simp; omega
    exact pyNextG_end (I.ok.hd hc) D gz gi gO ga gb p p2 he fun h' hk => ⟨rfl, I.turnedL (t' := s.toks) (ch := [zz, ti, tO, ia, ib]) (fun c o hb q =>
      hk c o (fun q' => hb (by simp [q'])) (fun q' => hb (by simp [q'])) (fun q' => hb (by simp [q'])) (fun q' => hb (by simp [q'])) q) hf⟩
  self := fun A i s Q E st h => wpAny_pyIter_zip st.1 h
def iZipG (K : PySem.W.Frag) (ta : TA) : TI := fun σ H R => ta σ H fun vs H1 => ∃ t1 t2 a b xs ys, vs = [.ref a, .ref b] ∧ SqG t1 K H1 a xs ∧ SqG t2 K H1 b ys ∧ R (ItG K t1 t2 a b) H1
theorem pi_zipG {X : Cx} {e e2 : Expr} {ta : TA} {p pos tpos : Pos} {elts : List Expr} {kk : Nat} (hg : Gl X "zip") (hm : X.mg "zip" = none) (ha : PA X [e, e2] ta)
    (hs : starEach [e, e2] X.env = (false, eval e X.env) :: starEach [e2] X.env := by rfl) (hpl : (backTo pos (starEach [e2] X.env)).any (fun z => z.1) = false := by rfl) :
    PI X (.Tuple elts kk tpos) (.Call (.Name "zip" p) [e, e2] [] pos) (iZipG X.K ta) := by
  refine ⟨fun pins s σ H R I h => ?_⟩
  refine Call_ (ld_blt I hg hm PyProof.Rows.boot_zip (PyProof.Rows.callWith_type1 (thn (ha.run pos pins s σ H _ I h) fun us s1 ⟨vs, H1, I1, r1, q1⟩ => ?_) hs hpl))
  obtain ⟨t1, t2, a, b, xs, ys, ez, qx, qy, q⟩ := q1
  subst ez
  cases r1 with
  | cons r rr =>
    cases rr with
    | cons r' rr =>
      cases rr
      cases r
      cases r'
      obtain ⟨its, rv, p1⟩ := qx.inv I1
      obtain ⟨its2, rv2, p2⟩ := qy.inv I1
      refine callG p1 p2 fun h' gz gi gO ga gb hsz hk => wpAny_pyIter_zip gz ?_
      have I2 : Inv X pins σ H1 { s1 with heap := h' } := I1.kept (t' := s1.toks) hk
      refine ⟨s1.heap.objs.size + 4, [s1.heap.objs.size + 4, s1.heap.objs.size + 2, s1.heap.objs.size + 3, s1.heap.objs.size, s1.heap.objs.size + 1], _, _, H1, rfl, I2, turnG (PySem.W.ktu_apart s1.heap.objs.size a b p1.lt p2.lt), ⟨gz, gi, ⟨_, _, gO⟩, ga, gb⟩, fun c hcm => ?_, q⟩
      have e' : c = s1.heap.objs.size + 4 ∨ c = s1.heap.objs.size + 2 ∨ c = s1.heap.objs.size + 3 ∨ c = s1.heap.objs.size ∨ c = s1.heap.objs.size + 1 := by simpa using hcm
      have le : s1.heap.objs.size ≤ c := by
        rcases e' with q | q | q | q | q <;> rw [q] <;> first | exact Nat.le_add_right _ _ | exact Nat.le_refl _
      exact I1.fpOk le (I1.hok.fresh le)
theorem walkG {K : PySem.W.Frag} {ta tb : Bool} {a b : Addr} {xs ys : List V} {n : Nat} (hn : n = min xs.length ys.length) : Walk (ItG K ta tb a b) n (fun H => SqG ta K H a xs ∧ SqG tb K H b ys) (YPair (fun i => xs[i]?) (fun i => ys[i]?)) := by
  subst hn
  refine ⟨fun i H hi q => ?_, fun H q => ⟨xs, ys, q.1, q.2, by omega⟩, fun i H v H' hi q y => ?_⟩
  · have g1 : i < xs.length := by omega
    have g2 : i < ys.length := by omega
    exact ⟨xs, ys, xs[i], ys[i], q.1, q.2, by simp [g1], by simp [g2]⟩
  · obtain ⟨T, x, z, e1, e2, e3, e4, e5⟩ := y
    exact ⟨T, x, z, e1, e2, e3, e4 xs q.1, e5 ys q.2⟩
end ZG

namespace ZG
open PySem PySem.Spec PyProof.Rows L2
theorem mul_one (l : Addr) (its : Array Value) (n : Nat) (dd : Option Addr) (sl : Array (Option Value)) (u : Tok) :
    Meets (Builtin.«tuple.__mul__» ⟨[.ref l, .int 1 u], []⟩) (fun _ R s => s.heap.get? l = some { cls := .type "tuple", dict := dd, data := .seq its n, slots := sl } ∧
      R (.ok (.ret (Value.ref l))) s) :=
  .of_wp fun prog w A R s h => by
    obtain ⟨hp, g, d, tk, os⟩ := s
    obtain ⟨hl, h⟩ := h
    have f1 := AutoSeq1.idx_int
    wp_walk using wpAny_loadPart' hl
    exact ⟨_, rfl, h⟩
theorem mul_none (l : Addr) (its : Array Value) (n : Nat) (dd : Option Addr) (sl : Array (Option Value)) (x : Int) (u : Tok) (c0 : (decide (x < -(2 ^ 63)) || decide (x ≥ 2 ^ 63)) = false) (c1 : (its.isEmpty || x == 1) = false) (c2 : (decide (x ≤ 0) || its.isEmpty) = true) :
    Meets (Builtin.«tuple.__mul__» ⟨[.ref l, .int x u], []⟩) (fun _ R s => s.heap.get? l = some { cls := .type "tuple", dict := dd, data := .seq its n, slots := sl } ∧
      R (.ok (.ret (Value.ref s.heap.objs.size))) { s with heap := s.heap.push { cls := Value.type "tuple", data := Data.seq #[] }, toks := s.toks }) :=
  .of_wp fun prog w A R s h => by
    obtain ⟨hp, g, d, tk, os⟩ := s
    obtain ⟨hl, h⟩ := h
    have f1 := AutoSeq1.idx_int
    wp_walk using wpAny_loadPart' hl
    repeat (first
      | (refine wpAny_ite_false (decide_eq_false (by rw [c0]; exact Bool.noConfusion)) ?_; wp_walk using wpAny_loadPart' hl)
      | (refine wpAny_ite_false (decide_eq_false (by rw [c1]; exact Bool.noConfusion)) ?_; wp_walk using wpAny_loadPart' hl)
      | (refine wpAny_ite_true (decide_eq_true c2) ?_; wp_walk using wpAny_loadPart' hl))
    exact ⟨_, rfl, h⟩
def rRepA (K : PySem.W.Frag) : R2 := fun x y H Q => ∃ l k xs, x = .ref l ∧ y = .int k ∧ SqT K H l xs ∧ xs ≠ [] ∧ -1000 ≤ k ∧ k ≤ 1000 ∧ xs.length ≤ 1000 ∧ (k = 1 → Q (.ref l) H) ∧ (k ≠ 1 → ∀ p, H p = none → Q (.ref p) (upd H p (.tup (List.replicate k.toNat xs).flatten)))
section
variable {X : Cx}
theorem op_repA : OpR X (binaryOp .Mult) (rRepA X.K) := by
  intro pins s σ H x y v u Q I rx ry h
  obtain ⟨l, k, xs, rfl, rfl, hT, hne, h0, h2, hz, q1, q2⟩ := h
  by_cases hk : 2 ≤ k
  · exact op_repT pins s σ H _ _ v u Q I rx ry ⟨l, k, xs, rfl, rfl, hT, hne, hk, h2, hz, q2 (by omega)⟩
  cases rx
  obtain ⟨t, rfl⟩ := ry
  obtain ⟨its, r, ⟨⟨cls, dd, data, sl⟩, ho, hc, n, hd⟩, hs⟩ := I.tuple hT
  simp only at hc hd
  subst hc hd
  have le : its.length = xs.length := r.length.symm
  have ne : its ≠ [] := fun e => hne (List.eq_nil_of_length_eq_zero (by rw [← le, e]; rfl))
  have ie : its.toArray.isEmpty = false := by
    cases its with
    | nil => exact absurd rfl ne
    | cons a b => rfl
  by_cases e1 : k = 1
  · subst e1
    exact wpAny_binaryOp_repeat_ref (T := "tuple") (U := "int") (by decide) ⟨_, ho, rfl⟩ (fun s' => typeIs_int s' 1 t) noFill_tuple_mul F.fills_int_mul F.slot_int_rmul repeat_tuple F.slot_int_index.lookup
      (call_meets F.slot_int_rmul (typeIs_int s 1 t) F.entry_int_rmul (F.args_int_rmul_2 _ _) (int_rmul_tuple 1 t l its.toArray n dd sl)
        ⟨ho, rfl, ⟨_, ho, rfl⟩, call_meets F.slot_tuple_mul ⟨_, ho, rfl⟩ F.entry_tuple_mul (F.args_tuple_mul_2 _ _) (mul_one l its.toArray n dd sl t) ⟨ho, ⟨.ref l, H, I, rfl, q1 rfl⟩⟩⟩)
  · have c0 : (decide (k < -(2 ^ 63)) || decide (k ≥ 2 ^ 63)) = false := by
      rw [decide_eq_false (by omega), decide_eq_false (by omega)]
      rfl
    have c1 : (its.toArray.isEmpty || k == 1) = false := by
      rw [ie, Bool.false_or]
      exact beq_eq_false_iff_ne.mpr e1
    have c2 : (decide (k ≤ 0) || its.toArray.isEmpty) = true := by
      rw [decide_eq_true (by omega)]
      rfl
    refine wpAny_binaryOp_repeat_ref (T := "tuple") (U := "int") (by decide) ⟨_, ho, rfl⟩ (fun s' => typeIs_int s' k t) noFill_tuple_mul F.fills_int_mul F.slot_int_rmul repeat_tuple F.slot_int_index.lookup
      (call_meets F.slot_int_rmul (typeIs_int s k t) F.entry_int_rmul (F.args_int_rmul_2 _ _) (int_rmul_tuple k t l its.toArray n dd sl)
        ⟨ho, rfl, ⟨_, ho, rfl⟩, call_meets F.slot_tuple_mul ⟨_, ho, rfl⟩ F.entry_tuple_mul (F.args_tuple_mul_2 _ _) (mul_none l its.toArray n dd sl k t c0 c1 c2) ⟨ho, ?_⟩⟩)
    have ek : (List.replicate k.toNat xs).flatten = [] := by
      rw [show k.toNat = 0 by omega]
      rfl
    have q3 := q2 e1
    rw [ek] at q3
    refine ⟨.ref s.heap.objs.size, _, I.laid (t' := s.toks) (o := .tup []) (fun b ob q => Heap.get?_push_of_some _ q) (Nat.le_refl _) ?_, rfl, q3 _ (I.hok.fresh (Nat.le_refl _))⟩
    exact ⟨(by decide : 0 ≤ sizeLine), [], .nil, IsTup.new _ _⟩
end
end ZG

namespace PF
open PySem PySem.Spec PyProof.Rows L2 ZG
def topS (i : Nat) : Stmt := PySem.Challenge.pw_paperrows_k04_whole_led_in_steps.main.body.getD i (.Pass ⟨0, 0, 0, 0⟩)
abbrev sWhole : Stmt := topS 4
abbrev sSeqn : Stmt := topS 5
abbrev sIsForm : Stmt := topS 6
theorem scWhole : FnScope ["thing"] ["thing"] (defScope sWhole) := ⟨rfl, rfl, rfl, by decide +kernel, rfl, by decide +kernel, by decide +kernel⟩
theorem scSeqn : FnScope ["thing"] ["thing"] (defScope sSeqn) := ⟨rfl, rfl, rfl, by decide +kernel, rfl, by decide +kernel, by decide +kernel⟩
theorem scIsForm : FnScope ["thing", "number"] ["thing"] (defScope sIsForm) := ⟨rfl, rfl, rfl, by decide +kernel, rfl, by decide +kernel, by decide +kernel⟩
/-- the built-ins' names are not taken -/
structure Txt (mg : Str → Option Value) : Prop where
  isi : mg "isinstance" = none
  int : mg "int" = none
  bool : mg "bool" = none
  tuple : mg "tuple" = none
  list : mg "list" = none
  len : mg "len" = none
  all : mg "all" = none
  zip : mg "zip" = none
  range : mg "range" = none
  sum : mg "sum" = none
  abs : mg "abs" = none
  max : mg "max" = none
  min : mg "min" = none
theorem same_new {H : Hp} {p : Addr} {o : HO} (h : H p = none) : Same H (upd H p o) := fun b x e => by
  rw [upd_ne (ne_of_none e h)]
  exact e
theorem Same.tup {K : PySem.W.Frag} {H H' : Hp} {a : Addr} {xs : List V} (e : Same H H') (h : SqT K H a xs) : SqT K H' a xs := by
  rcases h with (h | ⟨o, h⟩) | h
  · exact .inl (.inl (e _ _ h))
  · exact .inl (.inr ⟨o, e _ _ h⟩)
  · exact .inr h
theorem ty_tup {K : PySem.W.Frag} {H : Hp} {a : Addr} {xs : List V} (h : SqT K H a xs) : TyX K H (.ref a) (.type "tuple") := by
  rcases h with (h | ⟨o, h⟩) | ⟨o, its, n, hk, hc, _⟩
  · exact .base (.tup h)
  · exact .fTuple h
  · exact .kTuple hk hc
theorem ty_lst {K : PySem.W.Frag} {H : Hp} {a : Addr} {xs : List V} (h : SqL K H a xs) : TyX K H (.ref a) (.type "list") := by
  rcases h with (h | ⟨o, h⟩) | ⟨o, its, n, hk, hc, _⟩
  · exact .base (.lst h)
  · exact .base (.frz h)
  · exact .kList hk hc
section
variable {P : Program} {w : World} {K : PySem.W.Frag} {mg : Str → Option Value} {base : Heap}
/-- the kinds of things that are asked about -/
def kinds : List String := ["int", "bool", "NoneType", "str", "tuple", "list", "dict"]
def isInt (n : String) : Bool := n == "int"
def spWhole (K : PySem.W.Frag) : Sp := fun vs H Q _ => ∃ (x : V) (n : String), vs = [x] ∧ TyX K H x (.type n) ∧ n ∈ kinds ∧ Q (.bl (isInt n)) H
theorem ok_whole {f : Addr} {fd : FuncData} (F : Fun K "is_whole" "is_whole" sWhole f fd) (T : Txt mg) : FnOk P w K mg base CX0 1 f fd ["thing"] (spWhole K) := by
  refine F.ok scWhole (fun vs H Q E h => ?_) (fun cdv A outer s H vs Q E hr h => ?_)
  · obtain ⟨x, n, rfl, _⟩ := h
    rfl
  · obtain ⟨x, n, rfl, ty, hn, q⟩ := h
    refine ⟨_, pss_one (ps_ret (pe_and (pe_callB call_isi (by rfl) T.isi (by decide +kernel) (pa_cons (pv 0) (pa_cons (pe_bltn (v := .ty "int") (by rfl) T.int (by decide +kernel) rfl) pa_nil)))
      (pe_one (pe_not (pe_callB call_isi (by rfl) T.isi (by decide +kernel) (pa_cons (pv 0) (pa_cons (pe_bltn (v := .ty "bool") (by rfl) T.bool (by decide +kernel) rfl) pa_nil))))))), ?_⟩
    simp only [kinds, List.mem_cons, List.mem_nil_iff, or_false] at hn
    rcases hn with rfl | rfl | rfl | rfl | rfl | rfl | rfl
    · exact ⟨_, rfl, _, _, _, _, true, rfl, .ty "int", ty, kit_ty (by decide +kernel), true, rfl, iteT ⟨_, rfl, _, _, _, _, false, rfl, .ty "bool", ty, kit_ty (by decide +kernel), false, rfl, q⟩⟩
    · exact ⟨_, rfl, _, _, _, _, true, rfl, .ty "int", ty, kit_ty (by decide +kernel), true, rfl, iteT ⟨_, rfl, _, _, _, _, true, rfl, .ty "bool", ty, kit_ty (by decide +kernel), true, rfl, q⟩⟩
    all_goals exact ⟨_, rfl, _, _, _, _, false, rfl, .ty "int", ty, kit_ty (by decide +kernel), false, rfl, iteF q⟩
def isSeq (n : String) : Bool := n == "list" || n == "tuple"
def spSeqn (K : PySem.W.Frag) : Sp := fun vs H Q _ => ∃ (x : V) (n : String), vs = [x] ∧ TyX K H x (.type n) ∧ n ∈ kinds ∧ ∀ H', Same H H' → Q (.bl (isSeq n)) H'
theorem TyX.same {H H' : Hp} (e : Same H H') {x : V} {t : Value} (h : TyX K H x t) : TyX K H' x t := by
  cases h with
  | base b =>
    refine .base ?_
    cases b with
    | non => exact .non
    | bl y => exact .bl y
    | int i => exact .int i
    | str y => exact .str y
    | flt y => exact .flt y
    | lst q => exact .lst (e _ _ q)
    | frz q => exact .frz (e _ _ q)
    | tup q => exact .tup (e _ _ q)
    | dK q => exact .dK (e _ _ q)
    | dT q => exact .dT (e _ _ q)
    | ins q a b c d f => exact .ins (e _ _ q) a b c d f
  | byt b => exact .byt b
  | set q => exact .set (e _ _ q)
  | kList q c => exact .kList q c
  | kTuple q c => exact .kTuple q c
  | kDict q c => exact .kDict q c
  | fTuple q => exact .fTuple (e _ _ q)
  | fDict q => exact .fDict (e _ _ q)
theorem ok_seqn {f : Addr} {fd : FuncData} (F : Fun K "is_sequence" "is_sequence" sSeqn f fd) (T : Txt mg) : FnOk P w K mg base CX0 1 f fd ["thing"] (spSeqn K) := by
  refine F.ok scSeqn (fun vs H Q E h => ?_) (fun cdv A outer s H vs Q E hr h => ?_)
  · obtain ⟨x, n, rfl, _⟩ := h
    rfl
  · obtain ⟨x, n, rfl, ty, hn, q⟩ := h
    refine ⟨_, pss_one (ps_ret (pe_callB call_isiT (by rfl) T.isi (by decide +kernel) (pa_cons (pv 0) (pa_cons (pe_tup (pa_cons (pe_bltn (v := .ty "list") (by rfl) T.list (by decide +kernel) rfl) (pa_cons (pe_bltn (v := .ty "tuple") (by rfl) T.tuple (by decide +kernel) rfl) pa_nil))) pa_nil)))), ?_⟩
    refine ⟨_, rfl, (by decide : 2 ≤ sizeLine), fun p hp => ?_⟩
    have s1 := same_new (o := .tup [.ty "list", .ty "tuple"]) hp
    have ty' := TyX.same s1 ty
    have pr : Paired ClsV [.ty "list", .ty "tuple"] [.type "list", .type "tuple"] := .cons (.ty _) (.cons (.ty _) .nil)
    refine ⟨x, p, _, _, _, isSeq n, rfl, upd_same, pr, ty', ?_, q _ s1⟩
    simp only [kinds, List.mem_cons, List.mem_nil_iff, or_false] at hn
    rcases hn with rfl | rfl | rfl | rfl | rfl | rfl | rfl
    all_goals first
      | exact kitAny_cons (b := true) (kit_ty (by decide +kernel)) (fun z => nomatch z) (fun _ => rfl)
      | exact kitAny_cons (b := false) (kit_ty (by decide +kernel)) (fun _ => kitAny_cons (b := true) (kit_ty (by decide +kernel)) (fun z => nomatch z) (fun _ => rfl)) (fun z => nomatch z)
      | exact kitAny_cons (b := false) (kit_ty (by decide +kernel)) (fun _ => kitAny_cons (b := false) (kit_ty (by decide +kernel)) (fun _ => kitAny_nil) (fun z => nomatch z)) (fun z => nomatch z)
/-- what stands in a row, by its kinds -/
def Tys (K : PySem.W.Frag) (H : Hp) (xs : List V) (ns : List String) : Prop := xs.length = ns.length ∧ ∀ (i : Nat) (x : V) (n : String), xs[i]? = some x → ns[i]? = some n → TyX K H x (.type n) ∧ n ∈ kinds
theorem Tys.same {H H' : Hp} {xs : List V} {ns : List String} (e : Same H H') (h : Tys K H xs ns) : Tys K H' xs ns := ⟨h.1, fun i x n a b => ⟨TyX.same e (h.2 i x n a b).1, (h.2 i x n a b).2⟩⟩
/-- a thing that may be asked whether it is a form, and the answer -/
def Formy (K : PySem.W.Frag) (H : Hp) (x : V) (b : Bool) : Prop :=
  (∃ a xs ns, x = .ref a ∧ SqT K H a xs ∧ xs.length ≤ 1000 ∧ Tys K H xs ns ∧ b = (!xs.isEmpty && ns.all isInt)) ∨ (∃ n, TyX K H x (.type n) ∧ n ∈ kinds ∧ n ≠ "tuple" ∧ b = false)
def spIsForm (K : PySem.W.Frag) : Sp := fun vs H Q _ => ∃ (x : V) (b : Bool), vs = [x] ∧ Formy K H x b ∧ ∀ H', Same H H' → Q (.bl b) H'
theorem kit_tup {K : PySem.W.Frag} {n : String} (hn : n ∈ kinds) : PySem.W.kitOne K (.type n) (.type "tuple") = some (n == "tuple") := by
  simp only [kinds, List.mem_cons, List.mem_nil_iff, or_false] at hn
  rcases hn with rfl | rfl | rfl | rfl | rfl | rfl | rfl <;> exact kit_ty (by decide +kernel)
theorem ok_isForm {f f1 : Addr} {fd fd1 : FuncData} (F : Fun K "is_form" "is_form" sIsForm f fd) (F1 : Fun K "is_whole" "is_whole" sWhole f1 fd1) (b1 : Binds K fd1 ["thing"] []) (m1 : mg "is_whole" = some (.ref f1)) (T : Txt mg) :
    FnOk P w K mg base CX0 2 f fd ["thing"] (spIsForm K) := by
  have G1 : FnOk P w K mg base CX0 1 f1 fd1 ["thing"] (spWhole K) := ok_whole F1 T
  refine F.ok scIsForm (fun vs H Q E h => ?_) (fun cdv A outer s H vs Q E hr h => ?_)
  · obtain ⟨x, b, rfl, _⟩ := h
    rfl
  · obtain ⟨x, b, rfl, hf, q⟩ := h
    refine ⟨_, pss_one (ps_ret (pe_and (pe_callB call_isi (by rfl) T.isi (by decide +kernel) (pa_cons (pv 0) (pa_cons (pe_bltn (v := .ty "tuple") (by rfl) T.tuple (by decide +kernel) rfl) pa_nil)))
      (pe_and (pe_cmpR op_gt (pe_callB call_len_seq (by rfl) T.len PySem.boot_len (pa_cons (pv 0) pa_nil)) pe_int (nomark _))
      (pe_one (pe_callB (cr_all rfl) (by rfl) T.all (by decide +kernel) (pa_cons (pe_lc (own := [("number", 1)]) (g := gName 1) (tt := tYes) rfl scIsForm.nd (pi_tup (pv 0)) (blkOk_by (N := ["thing", "number"]) (sc := defScope sIsForm) (by decide +kernel))
        (fun _ _ _ _ _ => pg_name (i := 1) scIsForm.nd rfl (Or.inl rfl)) (fun _ _ _ _ _ => pts_nil)
        (fun _ _ _ _ _ => pe_call G1 hr (by rfl) m1 F1.kp b1 .nil pass0 (pa_cons (pv 1) pa_nil))) pa_nil)))))), ?_⟩
    rcases hf with ⟨a, xs, ns, rfl, hT, hl, ts, rfl⟩ | ⟨n, ty, hn, ne, rfl⟩
    · refine ⟨_, rfl, _, _, _, _, true, rfl, .ty "tuple", ty_tup hT, kit_tup (by decide), true, rfl, iteT ?_⟩
      refine ⟨_, rfl, a, xs, rfl, .inr hT, _, _, rfl, rfl, _, rfl, ?_⟩
      cases xs with
      | nil => exact iteF (q H (Same.refl H))
      | cons x0 r =>
        refine ite2 (fun _ => ?_) (fun z => absurd (decide_eq_true (by rw [List.length_cons]; omega)) z)
        refine ⟨_, rfl, a, rfl, ⟨_, hT⟩, fun D hD => ?_⟩
        refine lc_it (walk_tup (xs := x0 :: r)) (fun i H' => Same H H' ∧ H' D = some (.lst (((ns.map isInt).take i).map V.bl))) ⟨same_new hD, upd_same⟩ (fun i H' _ p => Same.tup p.1 hT) ?_ ?_
        · rintro i x H1 H2 hi ⟨s1, e1⟩ ⟨rfl, hx⟩
          have hi2 : i < ns.length := by rw [← ts.1]; exact hi
          have hn := List.getElem?_eq_getElem hi2
          have t := ts.2 i x _ hx hn
          refine ⟨rfl, ?_⟩
          refine ⟨x, rfl, x, _, rfl, TyX.same s1 t.1, t.2, _, e1, ?_, fun b o e => ?_, ?_⟩
          · rw [List.length_map, List.length_take]
            exact Nat.lt_of_le_of_lt (Nat.le_trans (Nat.min_le_left _ _) (by omega)) (small1000 hl)
          · rw [upd_ne (ne_of_none e hD)]
            exact s1 b o e
          · rw [upd_same, List.take_add_one, List.getElem?_map, hn, List.map_append]
            rfl
        · rintro H1 ⟨s1, e1⟩
          rw [show (x0 :: r).length = (ns.map isInt).length by rw [ts.1, List.length_map], List.take_length] at e1
          refine ⟨D, ns.map isInt, rfl, SqL.of e1, ?_⟩
          have := q H1 s1
          rw [List.all_map]
          exact this
    · refine ⟨_, rfl, _, _, _, _, (n == "tuple"), rfl, .ty "tuple", ty, kit_tup hn, _, rfl, ?_⟩
      rw [show (n == "tuple") = false from beq_eq_false_iff_ne.mpr ne]
      exact iteF (q H (Same.refl H))
end
end PF

namespace PF
open PySem PySem.Spec PyProof.Rows L2 ZG
/-! a walk over what may be a list or a tuple -/
def ItS : Bool → PySem.W.Frag → Addr → It
  | true, K, a => Itt K a
  | false, K, a => Itl K a
def iSeqV (K : PySem.W.Frag) (i : Nat) : TI := fun σ H R => ∃ t a xs, σ[i]? = some (some (.ref a)) ∧ SqG t K H a xs ∧ R (ItS t K a) H
theorem pi_seqV {X : Cx} {tg e : Expr} {i : Nat} (h : PE X e (tVar i)) : PI X tg e (iSeqV X.K i) := by
  refine ⟨fun pins s σ H R I q => ?_⟩
  obtain ⟨t, a, xs, e, g, r⟩ := q
  cases t
  · exact (pi_list h).run pins s σ H R I ⟨_, e, a, rfl, ⟨xs, g⟩, r⟩
  · exact (pi_tup h).run pins s σ H R I ⟨_, e, a, rfl, ⟨xs, g⟩, r⟩
theorem walkS {K : PySem.W.Frag} {t : Bool} {a : Addr} {xs : List V} : Walk (ItS t K a) xs.length (fun H => SqG t K H a xs) (YAt xs) := by
  cases t
  · exact walk_list
  · exact walk_tup
theorem Same.sq {K : PySem.W.Frag} {H H' : Hp} {t : Bool} {a : Addr} {xs : List V} (e : Same H H') (h : SqG t K H a xs) : SqG t K H' a xs := by
  cases t
  · exact Same.seq e h
  · exact Same.tup e h
theorem SqG.lt {K : PySem.W.Frag} {H : Hp} {t : Bool} {a : Addr} {xs : List V} (h : SqG t K H a xs) : SqL K H a xs ∨ SqT K H a xs := by
  cases t
  · exact .inl h
  · exact .inr h
theorem SqG.ty {K : PySem.W.Frag} {H : Hp} {t : Bool} {a : Addr} {xs : List V} (h : SqG t K H a xs) : ∃ n, TyX K H (.ref a) (.type n) ∧ n ∈ kinds ∧ isSeq n = true := by
  cases t
  · exact ⟨"list", ty_lst h, by decide, rfl⟩
  · exact ⟨"tuple", ty_tup h, by decide, rfl⟩
/-! forms -/
def FAt (K : PySem.W.Frag) (H : Hp) (a : Addr) (f : List Int) : Prop := SqT K H a (f.map V.int)
theorem Same.f {K : PySem.W.Frag} {H H' : Hp} {a : Addr} {f : List Int} (e : Same H H') (h : FAt K H a f) : FAt K H' a f := Same.tup e h
theorem FAt.new {K : PySem.W.Frag} {H : Hp} {a : Addr} {f : List Int} (h : H a = some (.tup (f.map V.int))) : FAt K H a f := .inl (.inl h)
theorem ints_tys {K : PySem.W.Frag} {H : Hp} (f : List Int) : Tys K H (f.map V.int) (f.map fun _ => "int") := by
  refine ⟨by simp, fun i x n hx hn => ?_⟩
  rw [List.getElem?_map] at hx hn
  cases e : f[i]? with
  | none =>
    rw [e] at hx
    cases hx
  | some v =>
    rw [e] at hx hn
    cases hx
    cases hn
    exact ⟨.base (.int v), (by decide : "int" ∈ kinds)⟩
theorem ints_all (f : List Int) : (f.map fun _ => "int").all isInt = true := by
  rw [List.all_map]
  exact List.all_eq_true.mpr fun _ _ => rfl
theorem FAt.formy {K : PySem.W.Frag} {H : Hp} {a : Addr} {f : List Int} (h : FAt K H a f) (hl : f.length ≤ 1000) (h0 : f ≠ []) : Formy K H (.ref a) true := by
  refine .inl ⟨a, f.map V.int, f.map fun _ => "int", rfl, h, by rw [List.length_map]; exact hl, ints_tys f, ?_⟩
  rw [ints_all]
  cases f with
  | nil => exact absurd rfl h0
  | cons x r => rfl
abbrev sAdded : Stmt := topS 8
abbrev sOften : Stmt := topS 9
abbrev sContrary : Stmt := topS 10
abbrev sLed : Stmt := topS 11
abbrev sLook : Stmt := topS 12
theorem scLook : FnScope ["form"] ["form"] (defScope sLook) := ⟨rfl, rfl, rfl, by decide +kernel, rfl, by decide +kernel, by decide +kernel⟩
theorem scAdded : FnScope ["one", "other", "number", "further"] ["one", "other"] (defScope sAdded) := ⟨rfl, rfl, rfl, by decide +kernel, rfl, by decide +kernel, by decide +kernel⟩
theorem scOften : FnScope ["form", "many", "number"] ["form", "many"] (defScope sOften) := ⟨rfl, rfl, rfl, by decide +kernel, rfl, by decide +kernel, by decide +kernel⟩
section
variable {P : Program} {w : World} {K : PySem.W.Frag} {mg : Str → Option Value} {base : Heap}
def spLook (K : PySem.W.Frag) : Sp := fun vs H Q _ => ∃ (x : V), vs = [x] ∧ Formy K H x true ∧ ∀ H', Same H H' → Q .non H'
theorem ok_look {f f1 : Addr} {fd fd1 : FuncData} (F : Fun K "_look_form" "_look_form" sLook f fd) (G1 : FnOk P w K mg base CX0 2 f1 fd1 ["thing"] (spIsForm K)) (k1 : PySem.W.keepIn K (.ref f1) = true) (b1 : Binds K fd1 ["thing"] []) (m1 : mg "is_form" = some (.ref f1)) :
    FnOk P w K mg base CX0 3 f fd ["form"] (spLook K) := by
  refine F.ok scLook (fun vs H Q E h => ?_) (fun cdv A outer s H vs Q E hr h => ?_)
  · obtain ⟨x, rfl, _⟩ := h
    rfl
  · obtain ⟨x, rfl, hf, q⟩ := h
    refine ⟨_, pss_one (ps_if (pt_not (pt_val (pe_call G1 hr (by rfl) m1 k1 b1 .nil pass0 (pa_cons (pv 0) pa_nil)))) (pss_one ps_never) pss_nil), ?_⟩
    exact ⟨x, rfl, x, true, rfl, hf, fun H' s1 => ⟨true, rfl, iteF (q H' s1)⟩⟩
/-- the sum, number by number -/
def addF (f g : List Int) : List Int := List.zipWith (fun x y => x + y) f g
theorem addF_len {f g : List Int} (h : f.length = g.length) : (addF f g).length = f.length := by
  unfold addF
  rw [List.length_zipWith]
  omega
theorem addF_get {f g : List Int} {i : Nat} {x y : Int} (hx : f[i]? = some x) (hy : g[i]? = some y) : (addF f g)[i]? = some (x + y) := by
  unfold addF
  rw [List.getElem?_zipWith, hx, hy]
def spAdded (K : PySem.W.Frag) : Sp := fun vs H Q _ => ∃ (a b : Addr) (f g : List Int), vs = [.ref a, .ref b] ∧ FAt K H a f ∧ FAt K H b g ∧ f ≠ [] ∧ f.length ≤ 1000 ∧ f.length = g.length ∧
  ∀ H' p, Same H H' → H p = none → H' p = some (.tup ((addF f g).map V.int)) → Q (.ref p) H'
theorem int_at {f : List Int} {i : Nat} {x : V} (h : (f.map V.int)[i]? = some x) : ∃ n, x = .int n ∧ f[i]? = some n := by
  rw [List.getElem?_map] at h
  cases e : f[i]? with
  | none =>
    rw [e] at h
    cases h
  | some v =>
    rw [e] at h
    exact ⟨v, (Option.some.inj h).symm, rfl⟩
theorem ok_added {f f1 : Addr} {fd fd1 : FuncData} (F : Fun K "added" "added" sAdded f fd) (G1 : FnOk P w K mg base CX0 3 f1 fd1 ["form"] (spLook K)) (k1 : PySem.W.keepIn K (.ref f1) = true) (b1 : Binds K fd1 ["form"] []) (m1 : mg "_look_form" = some (.ref f1)) (T : Txt mg) :
    FnOk P w K mg base CX0 4 f fd ["one", "other"] (spAdded K) := by
  refine F.ok scAdded (fun vs H Q E h => ?_) (fun cdv A outer s H vs Q E hr h => ?_)
  · obtain ⟨a, b, f, g, rfl, _⟩ := h
    rfl
  · obtain ⟨a, b, f, g, rfl, ha, hb, h0, hl, he, q⟩ := h
    have g0 : g ≠ [] := fun z => h0 (List.eq_nil_of_length_eq_zero (by rw [he, z]; rfl))
    refine ⟨_, pss_cons (ps_expr (pe_call G1 hr (by rfl) m1 k1 b1 .nil pass0 (pa_cons (pv 0) pa_nil)))
      (pss_cons (ps_expr (pe_call G1 hr (by rfl) m1 k1 b1 .nil pass0 (pa_cons (pv 1) pa_nil)))
      (pss_cons (ps_if (pt_cmpR op_ne (pe_callB call_len_seq (by rfl) T.len PySem.boot_len (pa_cons (pv 0) pa_nil)) (pe_callB call_len_seq (by rfl) T.len PySem.boot_len (pa_cons (pv 1) pa_nil)) (nomark _)) (pss_one ps_never) pss_nil)
      (pss_one (ps_ret (pe_callTy call_tuple_of (by rfl) T.tuple (by decide +kernel) (pa_cons (pe_lc (own := [("number", 2), ("further", 3)]) (g := gTup _ 2 (gCons (gName 2) (gCons (gName 3) gNil))) (tt := tYes) rfl scAdded.nd (pi_zipG (by rfl) T.zip (pa_cons (pv 0) (pa_cons (pv 1) pa_nil))) (blkOk_by (N := ["one", "other", "number", "further"]) (sc := defScope sAdded) (by decide +kernel))
        (fun _ _ _ _ _ => pg_tup rfl (pgs_cons (pg_name (i := 2) scAdded.nd rfl (Or.inl rfl)) (pgs_cons (pg_name (i := 3) scAdded.nd rfl (Or.inl rfl)) pgs_nil))) (fun _ _ _ _ _ => pts_nil)
        (fun _ _ _ _ _ => pe_op op_add (pv 2) (pv 3))) pa_nil)))))), ?_⟩
    refine ⟨_, rfl, _, rfl, ha.formy hl h0, fun H1 s1 => ?_⟩
    refine ⟨_, rfl, _, rfl, (Same.f s1 hb).formy (by omega) g0, fun H2 s2 => ?_⟩
    have s3 := s1.trans s2
    have hA : SqG true K H2 a (f.map V.int) := Same.f s3 ha
    have hB : SqG true K H2 b (g.map V.int) := Same.f s3 hb
    refine ⟨_, rfl, a, _, rfl, .inr hA, _, rfl, b, _, rfl, .inr hB, rfl, _, rfl, ?_⟩
    rw [List.length_map, List.length_map, he]
    refine iteNS rfl ?_
    refine ⟨_, rfl, _, rfl, true, true, a, b, _, _, rfl, hA, hB, fun D hD => ?_⟩
    refine lc_it (walkG (xs := f.map V.int) (ys := g.map V.int) (n := f.length) (by simp; omega)) (fun i H' => Same H2 H' ∧ H' D = some (.lst (((addF f g).take i).map V.int))) ⟨same_new hD, upd_same⟩ (fun i H' _ p => ⟨Same.sq p.1 hA, Same.sq p.1 hB⟩) ?_ ?_
    · rintro i v H3 H4 hi ⟨s4, e4⟩ ⟨U, x, y, rfl, hU, rfl, hx, hy⟩
      obtain ⟨n, rfl, hn⟩ := int_at hx
      obtain ⟨m, rfl, hm⟩ := int_at hy
      refine ⟨U, [.int n, .int m], rfl, .inl (.inl upd_same), rfl, .int n, [.int m], rfl, .int m, [], rfl, rfl, rfl, ?_⟩
      have ne : D ≠ U := ne_of_none e4 hU
      refine ⟨_, rfl, _, rfl, n, m, rfl, rfl, _, Eq.trans (upd_ne ne) e4, ?_, fun c o e => ?_, ?_⟩
      · rw [List.length_map, List.length_take]
        exact Nat.lt_of_le_of_lt (Nat.min_le_left _ _) (small1000 (by omega))
      · rw [upd_ne (ne_of_none e hD), upd_ne (ne_of_none (s4 c o e) hU)]
        exact s4 c o e
      · rw [upd_same, List.take_add_one, addF_get hn hm, List.map_append]
        rfl
    · rintro H3 ⟨s4, e4⟩
      rw [← addF_len he, List.take_length] at e4
      refine ⟨D, _, rfl, .inl ⟨SqL.of e4, fun l hl => ?_⟩⟩
      exact q _ l (s3.trans (s4.trans (same_new hl))) ((s3.trans s4).free hl) upd_same
end
end PF

namespace PF
open PySem PySem.Spec PyProof.Rows L2 ZG
theorem scContrary : FnScope ["form", "told"] ["form"] (defScope sContrary) := ⟨rfl, rfl, rfl, by decide +kernel, rfl, by decide +kernel, by decide +kernel⟩
theorem scLed : FnScope ["form", "others", "other", "told", "number"] ["form", "others"] (defScope sLed) := ⟨rfl, rfl, rfl, by decide +kernel, rfl, by decide +kernel, by decide +kernel⟩
/-- not too great -/
def Bnd (f : List Int) : Prop := ∀ x ∈ f, x.natAbs < 2 ^ 250
def oftF (f : List Int) (m : Int) : List Int := f.map fun x => x * m
theorem oftF_len (f : List Int) (m : Int) : (oftF f m).length = f.length := List.length_map ..
section
variable {P : Program} {w : World} {K : PySem.W.Frag} {mg : Str → Option Value} {base : Heap}
def spOften (K : PySem.W.Frag) : Sp := fun vs H Q _ => ∃ (a : Addr) (f : List Int) (m : Int), vs = [.ref a, .int m] ∧ FAt K H a f ∧ f ≠ [] ∧ f.length ≤ 1000 ∧ Bnd f ∧ m.natAbs < 2 ^ 250 ∧
  ∀ H' p, Same H H' → H p = none → H' p = some (.tup ((oftF f m).map V.int)) → Q (.ref p) H'
theorem ok_often {f f1 f2 : Addr} {fd fd1 fd2 : FuncData} (F : Fun K "often" "often" sOften f fd) (G1 : FnOk P w K mg base CX0 3 f1 fd1 ["form"] (spLook K)) (k1 : PySem.W.keepIn K (.ref f1) = true) (b1 : Binds K fd1 ["form"] []) (m1 : mg "_look_form" = some (.ref f1))
    (G2 : FnOk P w K mg base CX0 1 f2 fd2 ["thing"] (spWhole K)) (k2 : PySem.W.keepIn K (.ref f2) = true) (b2 : Binds K fd2 ["thing"] []) (m2 : mg "is_whole" = some (.ref f2)) (T : Txt mg) :
    FnOk P w K mg base CX0 4 f fd ["form", "many"] (spOften K) := by
  refine F.ok scOften (fun vs H Q E h => ?_) (fun cdv A outer s H vs Q E hr h => ?_)
  · obtain ⟨a, f, m, rfl, _⟩ := h
    rfl
  · obtain ⟨a, f, m, rfl, ha, h0, hl, hb, hm, q⟩ := h
    refine ⟨_, pss_cons (ps_expr (pe_call G1 hr (by rfl) m1 k1 b1 .nil pass0 (pa_cons (pv 0) pa_nil)))
      (pss_cons (ps_if (pt_not (pt_val (pe_call G2 (hr.mono (by decide)) (by rfl) m2 k2 b2 .nil pass0 (pa_cons (pv 1) pa_nil)))) (pss_one ps_never) pss_nil)
      (pss_one (ps_ret (pe_callTy call_tuple_of (by rfl) T.tuple (by decide +kernel) (pa_cons (pe_lc (own := [("number", 2)]) (g := gName 2) (tt := tYes) rfl scOften.nd (pi_tup (pv 0)) (blkOk_by (N := ["form", "many", "number"]) (sc := defScope sOften) (by decide +kernel))
        (fun _ _ _ _ _ => pg_name (i := 2) scOften.nd rfl (Or.inl rfl)) (fun _ _ _ _ _ => pts_nil)
        (fun _ _ _ _ _ => pe_op op_mulW (pv 2) (pv 1))) pa_nil))))), ?_⟩
    refine ⟨_, rfl, _, rfl, ha.formy hl h0, fun H1 s1 => ?_⟩
    refine ⟨_, rfl, _, "int", rfl, .base (.int m), by decide, true, rfl, iteF ?_⟩
    have hA : SqT K H1 a (f.map V.int) := Same.f s1 ha
    refine ⟨_, rfl, a, rfl, ⟨_, hA⟩, fun D hD => ?_⟩
    refine lc_it (walk_tup (xs := f.map V.int)) (fun i H' => Same H1 H' ∧ H' D = some (.lst (((oftF f m).take i).map V.int))) ⟨same_new hD, upd_same⟩ (fun i H' _ p => Same.tup p.1 hA) ?_ ?_
    · rintro i v H3 H4 hi ⟨s4, e4⟩ ⟨rfl, hx⟩
      obtain ⟨n, rfl, hn⟩ := int_at hx
      refine ⟨rfl, ?_⟩
      have em : (oftF f m)[i]? = some (n * m) := by
        unfold oftF
        rw [List.getElem?_map, hn]
        rfl
      refine ⟨_, rfl, _, rfl, n, m, rfl, rfl, wide_mul (hb n (List.mem_of_getElem? hn)) hm (by decide) (by decide) (by decide), _, e4, ?_, fun c o e => ?_, ?_⟩
      · rw [List.length_map, List.length_take, oftF_len]
        exact Nat.lt_of_le_of_lt (Nat.min_le_right _ _) (small1000 (by omega))
      · rw [upd_ne (ne_of_none e hD)]
        exact s4 c o e
      · rw [upd_same, List.take_add_one, em, List.map_append]
        rfl
    · rintro H3 ⟨s4, e4⟩
      rw [List.length_map, ← oftF_len f m, List.take_length] at e4
      refine ⟨D, _, rfl, .inl ⟨SqL.of e4, fun l hl => ?_⟩⟩
      exact q _ l (s1.trans (s4.trans (same_new hl))) ((s1.trans s4).free hl) upd_same
/-- what doesn't hold where the other one does -/
def conF : List Int → List Int
  | [] => []
  | x :: r => (x * -1 - 1) :: oftF r (-1)
def spContrary (K : PySem.W.Frag) : Sp := fun vs H Q _ => ∃ (a : Addr) (f : List Int), vs = [.ref a] ∧ FAt K H a f ∧ f ≠ [] ∧ f.length ≤ 1000 ∧ Bnd f ∧
  ∀ H' p, Same H H' → H p = none → H' p = some (.tup ((conF f).map V.int)) → Q (.ref p) H'
theorem cut_one (xs : List V) : cutV xs (some 1) none = xs.drop 1 := by
  unfold cutV
  rw [show HT.sIx xs.length 0 (some 1) = min 1 xs.length from HT.sIx_nat xs.length 0 1, HT.sIx_none]
  cases xs with
  | nil => rfl
  | cons x r =>
    rw [show min 1 (x :: r).length = 1 by rw [List.length_cons]; omega]
    show List.take ((x :: r).length - 1) r = r
    exact List.take_of_length_le (by rw [List.length_cons]; omega)
theorem not_whole {x : V} {r : List V} : ¬ (HT.sIx (x :: r).length 0 (some 1) = 0 ∧ HT.sIx (x :: r).length (x :: r).length none = (x :: r).length) := fun z => by
  have e := z.1
  rw [show HT.sIx (x :: r).length 0 (some 1) = min 1 (x :: r).length from HT.sIx_nat _ 0 1, List.length_cons] at e
  omega
theorem ok_contrary {f f1 : Addr} {fd fd1 : FuncData} (F : Fun K "contrary" "contrary" sContrary f fd) (G1 : FnOk P w K mg base CX0 4 f1 fd1 ["form", "many"] (spOften K)) (k1 : PySem.W.keepIn K (.ref f1) = true) (b1 : Binds K fd1 ["form", "many"] []) (m1 : mg "often" = some (.ref f1)) :
    FnOk P w K mg base CX0 5 f fd ["form"] (spContrary K) := by
  refine F.ok scContrary (fun vs H Q E h => ?_) (fun cdv A outer s H vs Q E hr h => ?_)
  · obtain ⟨a, f, rfl, _⟩ := h
    rfl
  · obtain ⟨a, f, rfl, ha, h0, hl, hb, q⟩ := h
    refine ⟨_, pss_cons (ps_set (i := 1) scContrary.nd rfl (.inl rfl) (pe_call G1 hr (by rfl) m1 k1 b1 .nil pass0 (pa_cons (pv 0) (pa_cons (pe_un un_neg pe_int) pa_nil))))
      (pss_one (ps_ret (pe_op op_catA (pe_tup (pa_cons (pe_op op_sub (pe_ix ix_tup (pv 1) pe_int (fun _ _ => rfl)) pe_int) pa_nil)) (pe_slice sl_tupA (pv 1) (po_some pe_int) po_none)))), ?_⟩
    refine ⟨_, rfl, 1, rfl, a, f, -1, rfl, ha, h0, hl, hb, by decide, fun H1 p s1 n1 e1 => ?_⟩
    obtain ⟨x, r, rfl⟩ : ∃ x r, f = x :: r := by
      cases f with
      | nil => exact absurd rfl h0
      | cons x r => exact ⟨x, r, rfl⟩
    have hT : SqT K H1 p ((oftF (x :: r) (-1)).map V.int) := .inl (.inl e1)
    refine ⟨_, rfl, p, _, 0, .int (x * -1), rfl, rfl, hT, atI_nat (j := 0) rfl, _, 1, rfl, rfl, (by decide : 1 ≤ sizeLine), fun t ht => ?_⟩
    have s2 : Same H1 (upd H1 t (.tup [.int (x * -1 - 1)])) := same_new ht
    have hT2 := Same.tup s2 hT
    refine ⟨_, rfl, 1, rfl, p, _, rfl, hT2, fun z => absurd z not_whole, fun _ u hu => ?_⟩
    have s3 : Same (upd H1 t (.tup [.int (x * -1 - 1)])) _ := same_new (o := .tup (cutV ((oftF (x :: r) (-1)).map V.int) (some 1) none)) hu
    have et : (upd (upd H1 t (.tup [.int (x * -1 - 1)])) u (.tup (cutV ((oftF (x :: r) (-1)).map V.int) (some 1) none))) t = some (.tup [.int (x * -1 - 1)]) := s3 _ _ upd_same
    have ec : cutV ((oftF (x :: r) (-1)).map V.int) (some 1) none = (oftF r (-1)).map V.int := cut_one _
    have es : (conF (x :: r)).map V.int = V.int (x * -1 - 1) :: (oftF r (-1)).map V.int := rfl
    refine ⟨t, u, _, _, rfl, rfl, .inl (.inl et), .inl (.inl upd_same), ?_, fun z => (nomatch z), fun _ z => ?_, fun _ _ v hv => ?_⟩
    · rw [ec, List.length_map, oftF_len, List.length_singleton]
      rw [List.length_cons] at hl
      exact Nat.le_of_lt (small1000 (by omega))
    · refine q _ t (s1.trans (s2.trans s3)) (s1.free ht) ?_
      rw [et, es, ← ec, z]
    · refine q _ v (s1.trans (s2.trans (s3.trans (same_new hv)))) ((s1.trans (s2.trans s3)).free hv) ?_
      rw [upd_same, es, ec]
      rfl
end
end PF

namespace PF
open PySem PySem.Spec PyProof.Rows L2 ZG
/-- forms in a row -/
def FsAt (K : PySem.W.Frag) (H : Hp) (xs : List V) (gs : List (List Int)) : Prop := xs.length = gs.length ∧ ∀ (i : Nat) (x : V), xs[i]? = some x → ∃ a g, x = .ref a ∧ gs[i]? = some g ∧ FAt K H a g
theorem FsAt.same {K : PySem.W.Frag} {H H' : Hp} {xs : List V} {gs : List (List Int)} (e : Same H H') (h : FsAt K H xs gs) : FsAt K H' xs gs :=
  ⟨h.1, fun i x hx => by
    obtain ⟨a, g, h1, h2, h3⟩ := h.2 i x hx
    exact ⟨a, g, h1, h2, Same.f e h3⟩⟩
def ledGo : List Int → List Int → List (List Int) → List Int
  | t, n :: ns, g :: gs => ledGo (addF t (oftF g n)) ns gs
  | t, [], _ => t
  | t, _ :: _, [] => t
theorem ledGo_snoc : ∀ (ns : List Int) (gs : List (List Int)) (t : List Int) (i : Nat) (n : Int) (g : List Int), ns[i]? = some n → gs[i]? = some g →
    ledGo t (ns.take (i + 1)) (gs.take (i + 1)) = addF (ledGo t (ns.take i) (gs.take i)) (oftF g n)
  | [], _, _, _, _, _, h, _ => by simp at h
  | _ :: _, [], _, _, _, _, _, h => by simp at h
  | a :: r, b :: q, t, 0, n, g, h1, h2 => by
    have e1 : a = n := Option.some.inj h1
    have e2 : b = g := Option.some.inj h2
    subst e1 e2
    show ledGo (addF t (oftF b a)) (r.take 0) (q.take 0) = _
    rw [List.take_zero, List.take_zero]
    rfl
  | a :: r, b :: q, t, i + 1, n, g, h1, h2 => ledGo_snoc r q (addF t (oftF b a)) i n g h1 h2
theorem ledGo_len : ∀ (ns : List Int) (gs : List (List Int)) (t : List Int), (∀ g ∈ gs, g.length = t.length) → (ledGo t ns gs).length = t.length
  | [], _, _, _ => by unfold ledGo; rfl
  | _ :: _, [], _, _ => rfl
  | n :: ns, g :: gs, t, h => by
    have e : t.length = (oftF g n).length := by rw [oftF_len]; exact (h g (List.mem_cons_self ..)).symm
    show (ledGo (addF t (oftF g n)) ns gs).length = t.length
    rw [ledGo_len ns gs _ fun g' h' => by rw [addF_len e]; exact h g' (List.mem_cons_of_mem _ h'), addF_len e]
def ledF : List Int → List (List Int) → List Int
  | x :: ns, g :: gs => ledGo (x :: List.replicate (g.length - 1) 0) ns (g :: gs)
  | f, [] => f
  | [], _ :: _ => []
theorem flat_zero (n : Nat) : (List.replicate n [V.int 0]).flatten = (List.replicate n (0 : Int)).map V.int := by
  induction n with
  | zero => rfl
  | succ n ih =>
    rw [List.replicate_succ, List.flatten_cons, ih, List.replicate_succ, List.map_cons]
    rfl
theorem rep_of {K : PySem.W.Frag} {H : Hp} {l : Addr} {k : Int} {xs : List V} {Q : VK} (h : SqT K H l xs) (ne : xs ≠ []) (h0 : -1000 ≤ k) (h1 : k ≤ 1000) (h2 : xs.length ≤ 1000)
    (q : ∀ H' u, Same H H' → SqT K H' u (List.replicate k.toNat xs).flatten → Q (.ref u) H') : rRepA K (.ref l) (.int k) H Q :=
  ⟨l, k, xs, rfl, rfl, h, ne, h0, h1, h2, fun e => q H l (Same.refl H) (by subst e; simpa using h), fun _ p np => q _ p (same_new np) (.inl (.inl upd_same))⟩
theorem cat_of {K : PySem.W.Frag} {H : Hp} {a b : Addr} {xs ys : List V} {Q : VK} (ha : SqT K H a xs) (hb : SqT K H b ys) (ne : xs ≠ []) (hl : xs.length + ys.length ≤ sizeLine)
    (q : ∀ H' u, Same H H' → SqT K H' u (xs ++ ys) → (u = a ∨ H u = none) → Q (.ref u) H') : rCatA K (.ref a) (.ref b) H Q :=
  ⟨a, b, xs, ys, rfl, rfl, ha, hb, hl, fun z => absurd z ne, fun _ z => q H a (Same.refl H) (by subst z; rw [List.append_nil]; exact ha) (.inl rfl), fun _ _ p np => q _ p (same_new np) (.inl (.inl upd_same)) (.inr np)⟩
section
variable {P : Program} {w : World} {K : PySem.W.Frag} {mg : Str → Option Value} {base : Heap}
def spLed (K : PySem.W.Frag) : Sp := fun vs H Q _ => ∃ (a b : Addr) (t : Bool) (f : List Int) (xs : List V) (gs : List (List Int)) (m : Nat), vs = [.ref a, .ref b] ∧ FAt K H a f ∧ SqG t K H b xs ∧ FsAt K H xs gs ∧ f.length = gs.length + 1 ∧ f.length ≤ 1000 ∧ Bnd f ∧
  (∀ g ∈ gs, g.length = m ∧ Bnd g) ∧ 1 ≤ m ∧ m ≤ 1000 ∧ ∀ H' p, Same H H' → FAt K H' p (ledF f gs) → (gs ≠ [] → H p = none) → Q (.ref p) H'
theorem ok_led {f fL fS fA fO : Addr} {fd dL dS dA dO : FuncData} (F : Fun K "led" "led" sLed f fd)
    (GL : FnOk P w K mg base CX0 3 fL dL ["form"] (spLook K)) (kL : PySem.W.keepIn K (.ref fL) = true) (bL : Binds K dL ["form"] []) (mL : mg "_look_form" = some (.ref fL))
    (GS : FnOk P w K mg base CX0 1 fS dS ["thing"] (spSeqn K)) (kS : PySem.W.keepIn K (.ref fS) = true) (bS : Binds K dS ["thing"] []) (mS : mg "is_sequence" = some (.ref fS))
    (GA : FnOk P w K mg base CX0 4 fA dA ["one", "other"] (spAdded K)) (kA : PySem.W.keepIn K (.ref fA) = true) (bA : Binds K dA ["one", "other"] []) (mA : mg "added" = some (.ref fA))
    (GO : FnOk P w K mg base CX0 4 fO dO ["form", "many"] (spOften K)) (kO : PySem.W.keepIn K (.ref fO) = true) (bO : Binds K dO ["form", "many"] []) (mO : mg "often" = some (.ref fO)) (T : Txt mg) :
    FnOk P w K mg base CX0 5 f fd ["form", "others"] (spLed K) := by
  refine F.ok scLed (fun vs H Q E h => ?_) (fun cdv A outer s H vs Q E hr h => ?_)
  · obtain ⟨a, b, t, f, xs, gs, m, rfl, _⟩ := h
    rfl
  · obtain ⟨a, b, t, f, xs, gs, m, rfl, ha, hb, hx, hlen, hl, hf, hg, m1, m2, q⟩ := h
    have hr3 : Room 3 _ := hr.mono (by decide)
    refine ⟨_, pss_cons (ps_expr (pe_call GL hr3 (by rfl) mL kL bL .nil pass0 (pa_cons (pv 0) pa_nil)))
      (pss_cons (ps_if (PW.pt (pw_or (pt_not (pt_val (pe_call GS (hr.mono (by decide)) (by rfl) mS kS bS .nil pass0 (pa_cons (pv 1) pa_nil))))
        (pw_or1 (pt_cmpR op_ne (pe_callB call_len_seq (by rfl) T.len PySem.boot_len (pa_cons (pv 1) pa_nil)) (pe_op op_sub (pe_callB call_len_seq (by rfl) T.len PySem.boot_len (pa_cons (pv 0) pa_nil)) pe_int) (nomark _))))) (pss_one ps_never) pss_nil)
      (pss_cons (ps_for PassesOwn.never rfl (pi_seqV (pv 1)) (pg_name (i := 2) scLed.nd rfl (.inl rfl)) (pss_one (ps_expr (pe_call GL hr3 (by rfl) mL kL bL .nil pass0 (pa_cons (pv 2) pa_nil)))))
      (pss_cons (ps_if (pt_cmpR op_eq (pe_callB call_len_seq (by rfl) T.len PySem.boot_len (pa_cons (pv 1) pa_nil)) pe_int (nomark _)) (pss_one (ps_ret (pv 0))) pss_nil)
      (pss_cons (ps_set (i := 3) scLed.nd rfl (.inl rfl) (pe_op op_catA (pe_tup (pa_cons (pe_ix ix_tup (pv 0) pe_int (fun _ _ => rfl)) pa_nil))
        (pe_op op_repA (pe_tup (pa_cons pe_int pa_nil)) (pe_op op_sub (pe_callB call_len_seq (by rfl) T.len PySem.boot_len (pa_cons (pe_ix ix_seq (pv 1) pe_int (fun _ _ => rfl)) pa_nil)) pe_int))))
      (pss_cons (ps_for PassesOwn.never rfl (pi_zipG (by rfl) T.zip (pa_cons (pe_slice sl_tupA (pv 0) (po_some pe_int) po_none) (pa_cons (pv 1) pa_nil))) (pg_tup rfl (pgs_cons (pg_name (i := 4) scLed.nd rfl (.inl rfl)) (pgs_cons (pg_name (i := 2) scLed.nd rfl (.inl rfl)) pgs_nil)))
        (pss_one (ps_set (i := 3) scLed.nd rfl (.inl rfl) (pe_call GA hr (by rfl) mA kA bA .nil pass0 (pa_cons (pv 3) (pa_cons (pe_call GO hr (by rfl) mO kO bO .nil pass0 (pa_cons (pv 2) (pa_cons (pv 4) pa_nil))) pa_nil))))))
      (pss_one (ps_ret (pv 3)))))))), ?_⟩
    obtain ⟨x0, ns, rfl⟩ : ∃ x0 ns, f = x0 :: ns := by
      cases f with
      | nil => simp at hlen
      | cons x r => exact ⟨x, r, rfl⟩
    have hns : ns.length = gs.length := by
      rw [List.length_cons] at hlen
      omega
    -- _look_form(form)
    refine ⟨_, rfl, _, rfl, ha.formy hl (by simp), fun H1 s1 => ?_⟩
    obtain ⟨n, ty, hn, hq⟩ := SqG.ty (Same.sq s1 hb)
    -- the test
    refine ⟨_, rfl, _, n, rfl, ty, hn, fun H2 s2 => ⟨_, rfl, ?_⟩⟩
    rw [hq]
    have s02 := s1.trans s2
    refine iteF ?_
    refine ⟨_, rfl, b, xs, rfl, SqG.lt (Same.sq s02 hb), _, rfl, a, _, rfl, .inr (Same.f s02 ha), _, _, rfl, rfl, rfl, _, rfl, ?_⟩
    have el : (xs.length : Int) = (((x0 :: ns).map V.int).length : Int) - 1 := by
      rw [List.length_map, List.length_cons, hx.1, ← hns]
      omega
    rw [el]
    refine iteNS rfl ?_
    -- for other in others
    refine ⟨t, b, xs, rfl, Same.sq s02 hb, ?_⟩
    refine for_it walkS (fun i σ H' => ∃ y2, σ = [some (.ref a), some (.ref b), y2, none, none] ∧ Same H H') ⟨none, rfl, s02⟩ (fun i σ H' _ ⟨_, _, p⟩ => Same.sq p hb) ?_ ?_
    · rintro i x σ H3 H4 hi ⟨y2, rfl, s3⟩ ⟨rfl, hxi⟩
      obtain ⟨ag, g, rfl, gi, hgi⟩ := hx.2 i x hxi
      have gm := hg g (List.mem_of_getElem? gi)
      refine ⟨_, rfl, _, rfl, (Same.f s3 hgi).formy (by omega) (fun z => by rw [z] at gm; simp at gm; omega), fun H5 s5 => ⟨_, rfl, s3.trans s5⟩⟩
    rintro σ H3 ⟨y2, rfl, s3⟩
    -- if len(others) == 0
    refine ⟨_, rfl, b, xs, rfl, SqG.lt (Same.sq s3 hb), rfl, _, rfl, ite2 (fun z => ?_) (fun z => ?_)⟩
    · have e0 : (xs.length : Int) = 0 := V.int.inj (of_decide_eq_true z)
      have eg : gs = [] := List.eq_nil_of_length_eq_zero (by rw [← hx.1]; omega)
      subst eg
      exact ⟨_, rfl, q _ a s3 (Same.f s3 ha) (fun z => absurd rfl z)⟩
    obtain ⟨g0, gr, rfl⟩ : ∃ g0 gr, gs = g0 :: gr := by
      cases gs with
      | nil =>
        refine absurd (decide_eq_true ?_) z
        rw [show xs.length = 0 from hx.1]
        rfl
      | cons x r => exact ⟨x, r, rfl⟩
    have hm0 := hg g0 (List.mem_cons_self ..)
    -- told
    have hA3 := Same.f s3 ha
    refine ⟨_, rfl, a, _, 0, .int x0, rfl, rfl, hA3, atI_nat (j := 0) rfl, (by decide : 1 ≤ sizeLine), fun t1 n1 => ?_⟩
    have s4 := s3.trans (same_new (o := .tup [.int x0]) n1)
    refine ⟨(by decide : 1 ≤ sizeLine), fun t2 n2 => ?_⟩
    have s24 : Same (upd H3 t1 (.tup [.int x0])) _ := same_new (o := .tup [.int 0]) n2
    have s5 := s4.trans s24
    have hx0 : 0 < xs.length := by rw [hx.1, List.length_cons]; omega
    obtain ⟨ag, g, e1, e2, e3⟩ := hx.2 0 _ (List.getElem?_eq_getElem hx0)
    have e2' : g0 = g := Option.some.inj e2
    subst e2'
    have at0 : atI xs 0 = some (.ref ag) := atI_nat (j := 0) ((List.getElem?_eq_getElem hx0).trans (congrArg some e1))
    have hix : ∀ (K' : PySem.W.Frag) (H' : Hp) (Q' : VK), SqG t K' H' b xs → Q' (.ref ag) H' → rIx K' (.ref b) (.int 0) H' Q' := fun K' H' Q' h1 h2 => by
      rcases SqG.lt h1 with h1 | h1
      · exact .inl ⟨b, xs, 0, _, rfl, rfl, h1, at0, h2⟩
      · exact .inr (.inl ⟨b, xs, 0, _, rfl, rfl, h1, at0, h2⟩)
    refine ⟨_, rfl, hix _ _ _ (Same.sq s5 hb) ?_⟩
    refine ⟨ag, _, rfl, .inr (Same.f s5 e3), _, _, rfl, rfl, ?_⟩
    rw [List.length_map]
    refine rep_of (xs := [.int 0]) (.inl (.inl upd_same)) (by simp) (by omega) (by omega) (by decide) fun H6 u s6 h6 => ?_
    have ez : (List.replicate ((g0.length : Int) - 1).toNat [V.int 0]).flatten = (List.replicate (g0.length - 1) (0 : Int)).map V.int := by
      rw [flat_zero, show ((g0.length : Int) - 1).toNat = g0.length - 1 by omega]
    rw [ez] at h6
    have s56 := s5.trans s6
    have nt1 : H t1 = none := s3.free n1
    refine cat_of (xs := [.int x0]) (.inl (.inl (s6 _ _ (s24 _ _ upd_same)))) h6 (by simp) (by
      rw [List.length_map, List.length_replicate, List.length_singleton]
      exact Nat.le_of_lt (small1000 (by omega))) fun H7 v s7 h7 w7 => ?_
    have s57 := s56.trans s7
    have nv : H v = none := by
      rcases w7 with rfl | z
      · exact nt1
      · exact s56.free z
    have h7' : FAt K H7 v (x0 :: List.replicate (g0.length - 1) 0) := h7
    -- for number, other in zip(form[1:], others)
    refine ⟨_, rfl, 1, rfl, a, _, rfl, Same.f s57 ha, fun z => absurd z not_whole, fun _ u2 hu2 => ?_⟩
    have s8 := s57.trans (same_new (o := .tup (cutV ((x0 :: ns).map V.int) (some 1) none)) hu2)
    have hU : SqT K (upd H7 u2 (.tup (cutV ((x0 :: ns).map V.int) (some 1) none))) u2 (ns.map V.int) := .inl (.inl (upd_same.trans (by rw [cut_one]; rfl)))
    have hB8 := Same.sq s8 hb
    refine ⟨_, rfl, true, t, u2, b, ns.map V.int, xs, rfl, hU, hB8, ?_⟩
    have ht0 : ∀ g' ∈ g0 :: gr, g'.length = (x0 :: List.replicate (g0.length - 1) 0).length := fun g' h' => by
      rw [List.length_cons, List.length_replicate, (hg g' h').1, hm0.1]
      omega
    have hgl : ∀ i, (ledGo (x0 :: List.replicate (g0.length - 1) 0) (ns.take i) ((g0 :: gr).take i)).length = m := fun i => by
      rw [ledGo_len _ _ _ fun g' h' => ht0 g' (List.mem_of_mem_take h'), List.length_cons, List.length_replicate, hm0.1]
      omega
    refine for_it (walkG (xs := ns.map V.int) (ys := xs) (n := ns.length) (by rw [List.length_map, hx.1, hns]; omega))
      (fun i σ H' => ∃ y2 y4 p, σ = [some (.ref a), some (.ref b), y2, some (.ref p), y4] ∧ Same (upd H7 u2 (.tup (cutV ((x0 :: ns).map V.int) (some 1) none))) H' ∧ H p = none ∧ FAt K H' p (ledGo (x0 :: List.replicate (g0.length - 1) 0) (ns.take i) ((g0 :: gr).take i)))
      ⟨_, _, v, rfl, Same.refl _, nv, Same.f (same_new hu2) h7'⟩ (fun i σ H' _ ⟨_, _, _, _, p, _⟩ => ⟨Same.tup p hU, Same.sq p hB8⟩) ?_ ?_
    · rintro i z σ H9 H10 hi ⟨y2, y4, p, rfl, s9, np, hp⟩ ⟨U, x, y, rfl, hU9, rfl, hxi, hyi⟩
      obtain ⟨nn, rfl, hnn⟩ := int_at hxi
      obtain ⟨ai, gi, rfl, hgi, fai⟩ := hx.2 i y hyi
      have gb := hg gi (List.mem_of_getElem? hgi)
      have s10 := (s8.trans s9).trans (same_new (o := .tup [.int nn, .ref ai]) hU9)
      have gne : gi ≠ [] := fun z => by rw [z] at gb; simp at gb; omega
      refine ⟨U, [.int nn, .ref ai], rfl, .inl (.inl upd_same), rfl, _, _, rfl, _, _, rfl, rfl, ?_⟩
      refine ⟨_, rfl, _, rfl, _, rfl, ai, gi, nn, rfl, Same.f s10 fai, gne, by omega, gb.2, hf nn (List.mem_cons_of_mem _ (List.mem_of_getElem? hnn)), fun H11 po s11 npo epo => ?_⟩
      have hpl := hgl i
      refine ⟨p, po, _, _, rfl, Same.f ((same_new hU9).trans s11) hp, .new epo, fun z => by rw [z] at hpl; simp at hpl; omega, by omega, by rw [hpl, oftF_len, gb.1], fun H12 pa s12 npa epa => ?_⟩
      refine ⟨_, _, pa, rfl, (s9.trans (same_new hU9)).trans (s11.trans s12), (s10.trans s11).free npa, .new ?_⟩
      rw [epa, ledGo_snoc ns (g0 :: gr) _ i nn gi hnn hgi]
    · rintro σ H9 ⟨y2, y4, p, rfl, s9, np, hp⟩
      rw [List.take_length, show ns.length = (g0 :: gr).length from hns, List.take_length] at hp
      exact ⟨_, rfl, q H9 p (s8.trans s9) hp fun _ => np⟩
end
end PF

namespace PF
open PySem PySem.Spec PyProof.Rows L2 ZG
abbrev sPurse : Stmt := topS 14
abbrev sTake : Stmt := topS 15
abbrev sForm : Stmt := topS 16
theorem scPurse : FnScope ["script", "at", "cell", "far"] ["script", "at"] (defScope sPurse) := ⟨rfl, rfl, rfl, by decide +kernel, rfl, by decide +kernel, by decide +kernel⟩
theorem scTake : FnScope ["purse", "many", "digit", "turn", "one", "other"] ["purse", "many"] (defScope sTake) := ⟨rfl, rfl, rfl, by decide +kernel, rfl, by decide +kernel, by decide +kernel⟩
theorem scForm : FnScope ["purse", "many", "most", "numbers", "nth"] ["purse", "many", "most"] (defScope sForm) := ⟨rfl, rfl, rfl, by decide +kernel, rfl, by decide +kernel, by decide +kernel⟩
/-- a purse of which at most n draws were mixed -/
def PAt (H : Hp) (p : Addr) (n : Nat) : Prop := ∃ x y z : Int, H p = some (.lst [.int x, .int y, .int z]) ∧ 0 ≤ x ∧ 0 ≤ y ∧ y < 2147483647 ∧ 0 ≤ z ∧ z ≤ (n : Int)
/-- all but p is as it was -/
def Sb (p : Addr) (H H' : Hp) : Prop := ∀ b o, b ≠ p → H b = some o → H' b = some o
theorem Sb.refl (p : Addr) (H : Hp) : Sb p H H := fun _ _ _ h => h
theorem Sb.trans {p : Addr} {H H1 H2 : Hp} (a : Sb p H H1) (b : Sb p H1 H2) : Sb p H H2 := fun c o n h => b c o n (a c o n h)
theorem Sb.of {p : Addr} {H H' : Hp} (e : Same H H') : Sb p H H' := fun b o _ h => e b o h
theorem Sb.upd {p : Addr} {H : Hp} {o : HO} : Sb p H (upd H p o) := fun b o n h => by rw [upd_ne n]; exact h
theorem Sb.free {p q : Addr} {H H' : Hp} (e : Sb p H H') (n : q ≠ p) (h : H' q = none) : H q = none := by
  cases z : H q with
  | none => rfl
  | some o =>
    rw [e q o n z] at h
    cases h
theorem PAt.mono {H : Hp} {p : Addr} {n m : Nat} (h : PAt H p n) (e : n ≤ m) : PAt H p m := by
  obtain ⟨x, y, z, h1, h2, h3, h4, h5, h6⟩ := h
  exact ⟨x, y, z, h1, h2, h3, h4, h5, by omega⟩
theorem PAt.same {H H' : Hp} {p : Addr} {n : Nat} (h : PAt H p n) (e : Same H H') : PAt H' p n := by
  obtain ⟨x, y, z, h1, h2, h3, h4, h5, h6⟩ := h
  exact ⟨x, y, z, e _ _ h1, h2, h3, h4, h5, h6⟩
theorem PAt.ne {H : Hp} {p q : Addr} {n : Nat} (h : PAt H p n) (e : H q = none) : q ≠ p := by
  obtain ⟨x, y, z, h1, _⟩ := h
  exact fun w => by rw [w, h1] at e; cases e
theorem b01 (b : Bool) : 0 ≤ (if b = true then (1 : Int) else 0) ∧ (if b = true then (1 : Int) else 0) ≤ 1 := by
  cases b <;> decide
section
variable {P : Program} {w : World} {K : PySem.W.Frag} {mg : Str → Option Value} {base : Heap}
def spPurse (K : PySem.W.Frag) : Sp := fun vs H Q _ => ∃ (a : Addr) (ns : List Int) (k : Int), vs = [.ref a, .int k] ∧ SqL K H a (ns.map V.int) ∧ 0 ≤ k ∧ k ≤ 1000 ∧
  ∀ H' p, Same H H' → H p = none → PAt H' p 0 → Q (.ref p) H'
theorem ok_purse {f : Addr} {fd : FuncData} (F : Fun K "_law_purse" "_law_purse" sPurse f fd) (T : Txt mg) : FnOk P w K mg base CX0 1 f fd ["script", "at"] (spPurse K) := by
  refine F.ok scPurse (fun vs H Q E h => ?_) (fun cdv A outer s H vs Q E hr h => ?_)
  · obtain ⟨a, ns, k, rfl, _⟩ := h
    rfl
  · obtain ⟨a, ns, k, rfl, hS, k0, k1, q⟩ := h
    refine ⟨_, pss_cons (ps_set (i := 2) scPurse.nd rfl (.inl rfl) pe_int)
      (C8.pss_cut (ps_if (pt_cmpR op_lt (pv 1) (pe_callB call_len_seq (by rfl) T.len PySem.boot_len (pa_cons (pv 0) pa_nil)) (nomark _)) (pss_one (ps_set (i := 2) scPurse.nd rfl (.inl rfl) (pe_ix ix_list (pv 0) (pv 1) (fun _ _ => rfl)))) pss_nil)
      (pss_cons (ps_set (i := 3) scPurse.nd rfl (.inl rfl) (pe_callB call_abs (by rfl) T.abs (by decide +kernel) (pa_cons (pv 2) pa_nil)))
      (pss_one (ps_ret (pe_lst (pa_cons (pe_op op_mul (pv 3) (pe_callTy call_int1 (by rfl) T.int (by decide +kernel) (pa_cons (pe_cmpR op_ge (pv 3) (pe_op op_pow pe_int pe_int) (nomark _)) pa_nil)))
        (pa_cons (pe_op op_mod (pe_op op_add (pe_op op_add (pe_op op_mod (pv 2) pe_int) (pe_op op_mul pe_int (pv 1))) pe_int) pe_int) (pa_cons pe_int pa_nil)))))))), ?_⟩
    refine ⟨fun σ' H' => ∃ c : Int, σ' = [some (.ref a), some (.int k), some (.int c), none] ∧ H' = H, ?_, ?_⟩
    · refine ⟨_, rfl, _, rfl, a, _, rfl, .inl hS, k, _, rfl, rfl, _, rfl, ite2 (fun z => ?_) (fun z => ⟨0, rfl, rfl⟩)⟩
      have lt : k < ((ns.map V.int).length : Int) := of_decide_eq_true z
      rw [List.length_map] at lt
      have hk : k.toNat < ns.length := by omega
      have e : (ns.map V.int)[k.toNat]? = some (.int ns[k.toNat]) := by rw [List.getElem?_map, List.getElem?_eq_getElem hk]; rfl
      have e2 : atI (ns.map V.int) k = some (.int ns[k.toNat]) := by
        have := atI_nat e
        rwa [Int.toNat_of_nonneg k0] at this
      exact ⟨_, rfl, _, rfl, a, _, k, _, rfl, rfl, hS, e2, _, rfl, rfl⟩
    · rintro σ' H' ⟨c, rfl, rfl⟩
      refine ⟨_, rfl, c, rfl, ?_⟩
      have habs : 0 ≤ (if c < 0 then -c else c) := by split <;> omega
      refine ⟨_, rfl, _, rfl, 10, 18, rfl, rfl, ⟨by decide, by decide, by decide⟩, _, _, rfl, rfl, .inr ⟨_, rfl, ?_⟩⟩
      refine ⟨_, _, rfl, rfl, .inr ?_, ?_⟩
      · exact ⟨Int.lt_of_lt_of_le (by decide) (b01 _).1, Int.lt_of_le_of_lt (b01 _).2 (by decide)⟩
      refine ⟨_, rfl, c, 2147483647, rfl, rfl, (by show (0 : Int) < 2147483647; decide), _, rfl, 7919, k, rfl, rfl, .inl ⟨by decide, by decide⟩, _, _, rfl, rfl, _, 17, rfl, rfl, _, 2147483647, rfl, rfl, (by show (0 : Int) < 2147483647; decide), ?_⟩
      refine ⟨(by decide : 3 ≤ sizeLine), fun p hp => q _ p (same_new hp) hp ⟨_, _, 0, upd_same, ?_, Int.emod_nonneg _ (by decide), Int.emod_lt_of_pos _ (by decide), by decide, by decide⟩⟩
      exact Int.mul_nonneg habs (b01 _).1
def spTake : Sp := fun vs H Q _ => ∃ (p : Addr) (m : Int) (n : Nat), vs = [.ref p, .int m] ∧ PAt H p n ∧ n ≤ 10000 ∧ 1 ≤ m ∧ m ≤ 1000 ∧ ∀ H' v, Sb p H H' → PAt H' p (n + 1) → 0 ≤ v → v < m → Q (.int v) H'
theorem sq_bound {t : Int} (h0 : 0 ≤ t) (h1 : t ≤ 10001) : 0 ≤ 48271 * t * t ∧ 48271 * t * t ≤ 4900000000000 := by
  have h2 : 0 ≤ 48271 * t := by omega
  have h3 : 48271 * t ≤ 482758271 := by omega
  refine ⟨Int.mul_nonneg h2 h0, ?_⟩
  have h4 : 48271 * t * t ≤ 482758271 * 10001 := Int.mul_le_mul h3 h1 h0 (by decide)
  omega
theorem pr_bound {o t : Int} (h0 : 0 ≤ t) (h1 : t ≤ 10001) (o0 : 0 ≤ o) (o1 : o < 2147483647) : 0 ≤ o * (2 * t + 30011) ∧ o * (2 * t + 30011) ≤ 120000000000000 := by
  refine ⟨Int.mul_nonneg o0 (by omega), ?_⟩
  have h4 : o * (2 * t + 30011) ≤ 2147483647 * 50013 := Int.mul_le_mul (by omega) (by omega) (by omega) (by decide)
  omega
theorem ok_take {f : Addr} {fd : FuncData} (F : Fun K "_law_take" "_law_take" sTake f fd) : FnOk P w K mg base CX0 1 f fd ["purse", "many"] spTake := by
  refine F.ok scTake (fun vs H Q E h => ?_) (fun cdv A outer s H vs Q E hr h => ?_)
  · obtain ⟨p, m, n, rfl, _⟩ := h
    rfl
  · obtain ⟨p, m, n, rfl, ⟨x, y, z, hp, x0, y0, y1, z0, z1⟩, hn, m0, m1, q⟩ := h
    refine ⟨_, pss_cons (ps_if (pt_cmpR op_gt (pe_ix ix_list (pv 0) pe_int (fun _ _ => rfl)) pe_int (nomark _))
        (pss_cons (ps_set (i := 2) scTake.nd rfl (.inl rfl) (pe_op op_mod (pe_ix ix_list (pv 0) pe_int (fun _ _ => rfl)) (pv 1)))
        (pss_cons (ps_asg (pe_op op_fdiv (pe_ix ix_list (pv 0) pe_int (fun _ _ => rfl)) (pv 1)) (pg_sub (pv 0) pe_int set_list))
        (pss_one (ps_ret (pv 2))))) pss_nil)
      (pss_cons (ps_asg (pe_op op_add (pe_ix ix_list (pv 0) pe_int (fun _ _ => rfl)) pe_int) (pg_sub (pv 0) pe_int set_list))
      (pss_cons (ps_set (i := 3) scTake.nd rfl (.inl rfl) (pe_ix ix_list (pv 0) pe_int (fun _ _ => rfl)))
      (pss_cons (ps_set (i := 4) scTake.nd rfl (.inl rfl) (pe_op op_mod (pe_op op_pow (pe_op op_add (pe_op op_add (pe_ix ix_list (pv 0) pe_int (fun _ _ => rfl)) (pe_op op_mul (pe_op op_mul pe_int (pv 3)) (pv 3))) pe_int) pe_int) pe_int))
      (pss_cons (ps_set (i := 5) scTake.nd rfl (.inl rfl) (pe_op op_mod (pe_op op_pow (pe_op op_add (pe_op op_mul (pv 4) (pe_op op_add (pe_op op_mul pe_int (pv 3)) pe_int)) (pv 3)) pe_int) pe_int))
      (pss_one (ps_ret (pe_op op_mod (pe_op op_fdiv (pe_op op_add (pe_op op_mul (pv 4) pe_int) (pv 5)) pe_int) (pv 1)))))))), ?_⟩
    have hL : SqL K H p [.int x, .int y, .int z] := SqL.of hp
    refine ⟨_, rfl, p, _, 0, .int x, rfl, rfl, hL, atI_nat (j := 0) rfl, x, 0, rfl, rfl, _, rfl, ite2 (fun c => ?_) (fun c => ?_)⟩
    · refine ⟨_, rfl, p, _, 0, .int x, rfl, rfl, hL, atI_nat (j := 0) rfl, _, rfl, x, m, rfl, rfl, (by omega : (0 : Int) < m), ?_⟩
      refine ⟨_, rfl, p, _, 0, .int x, rfl, rfl, hL, atI_nat (j := 0) rfl, _, rfl, x, m, rfl, rfl, ⟨by omega, by omega⟩, ?_⟩
      refine ⟨_, rfl, p, _, 0, 0, rfl, rfl, hp, rfl, ?_⟩
      exact ⟨_, rfl, q _ (x % m) Sb.upd ⟨x / m, y, z, upd_same, Int.ediv_nonneg x0 (by omega), y0, y1, z0, by omega⟩ (Int.emod_nonneg _ (by omega)) (Int.emod_lt_of_pos _ (by omega))⟩
    · refine ⟨_, rfl, p, _, 2, .int z, rfl, rfl, hL, atI_nat (j := 2) rfl, z, 1, rfl, rfl, ?_⟩
      refine ⟨_, rfl, p, _, 2, 2, rfl, rfl, hp, rfl, ?_⟩
      have h1 : (upd H p (.lst (([.int x, .int y, .int z] : List V).set 2 (.int (z + 1))))) p = some (.lst [.int x, .int y, .int (z + 1)]) := upd_same
      have hL1 := SqL.of (K := K) h1
      refine ⟨_, rfl, p, _, 2, .int (z + 1), rfl, rfl, hL1, atI_nat (j := 2) rfl, ?_⟩
      obtain ⟨t, rfl⟩ : ∃ t, t = z + 1 := ⟨_, rfl⟩
      have b1 := sq_bound (t := z + 1) (by omega) (by omega)
      refine ⟨_, rfl, p, _, 1, .int y, rfl, rfl, hL1, atI_nat (j := 1) rfl, _, rfl, 48271, z + 1, rfl, rfl, .inl ⟨by decide, by decide⟩, _, rfl, _, z + 1, rfl, rfl, .inr ⟨by omega, by omega⟩, y, _, rfl, rfl, _, 1, rfl, rfl, _, 5, rfl, rfl, ⟨by decide, by decide, by omega⟩, _, 2147483647, rfl, rfl, (by show (0 : Int) < 2147483647; decide), ?_⟩
      have o0 : 0 ≤ (y + 48271 * (z + 1) * (z + 1) + 1) ^ (5 : Int).toNat % 2147483647 := Int.emod_nonneg _ (by decide)
      have o1 : (y + 48271 * (z + 1) * (z + 1) + 1) ^ (5 : Int).toNat % 2147483647 < 2147483647 := Int.emod_lt_of_pos _ (by decide)
      have b2 := pr_bound (t := z + 1) (by omega) (by omega) o0 o1
      refine ⟨_, rfl, _, rfl, 2, z + 1, rfl, rfl, .inl ⟨by decide, by decide⟩, _, 30011, rfl, rfl, _, _, rfl, rfl, .inl ⟨by omega, by omega⟩, _, rfl, _, z + 1, rfl, rfl, _, 3, rfl, rfl, ⟨by decide, by decide, by omega⟩, _, 998244353, rfl, rfl, (by show (0 : Int) < 998244353; decide), ?_⟩
      refine ⟨_, rfl, _, 998244353, rfl, rfl, .inl ⟨by omega, by omega⟩, _, rfl, _, _, rfl, rfl, _, 1009, rfl, rfl, ⟨by decide, by decide⟩, _, rfl, _, m, rfl, rfl, (by omega : (0 : Int) < m), ?_⟩
      exact q _ _ Sb.upd ⟨x, y, z + 1, h1, x0, y0, y1, by omega, by omega⟩ (Int.emod_nonneg _ (by omega)) (Int.emod_lt_of_pos _ (by omega))
end
end PF

namespace PF
open PySem PySem.Spec PyProof.Rows L2 ZG
section
variable {P : Program} {w : World} {K : PySem.W.Frag} {mg : Str → Option Value} {base : Heap}
/-- small numbers -/
def Sml (m : Int) (f : List Int) : Prop := ∀ x ∈ f, -m ≤ x ∧ x ≤ m
def spForm : Sp := fun vs H Q _ => ∃ (p : Addr) (c : Nat) (m : Int) (n : Nat), vs = [.ref p, .int c, .int m] ∧ PAt H p n ∧ n ≤ 9000 ∧ 1 ≤ c ∧ c ≤ 20 ∧ 1 ≤ m ∧ m ≤ 100 ∧
  ∀ H' q f, Sb p H H' → PAt H' p (n + 3 * c) → H q = none → H' q = some (.tup (f.map V.int)) → f.length = c → Sml m f → Q (.ref q) H'
theorem pick3 {m a b j : Int} (hm : 1 ≤ m) (a0 : 0 ≤ a) (a1 : a < 3) (b0 : 0 ≤ b) (b1 : b < 2 * m + 1) (j0 : 0 ≤ j) (j1 : j < 3) :
    ∃ v, atI [V.int 0, V.int (a - 1), V.int (b - m)] j = some (.int v) ∧ -m ≤ v ∧ v ≤ m := by
  rcases (show j = 0 ∨ j = 1 ∨ j = 2 by omega) with rfl | rfl | rfl
  · exact ⟨0, rfl, by omega, by omega⟩
  · exact ⟨a - 1, rfl, by omega, by omega⟩
  · exact ⟨b - m, rfl, by omega, by omega⟩
theorem ok_form {f fT : Addr} {fd dT : FuncData} (F : Fun K "_law_form" "_law_form" sForm f fd) (GT : FnOk P w K mg base CX0 1 fT dT ["purse", "many"] spTake) (kT : PySem.W.keepIn K (.ref fT) = true) (bT : Binds K dT ["purse", "many"] []) (mT : mg "_law_take" = some (.ref fT)) (T : Txt mg) :
    FnOk P w K mg base CX0 2 f fd ["purse", "many", "most"] spForm := by
  refine F.ok scForm (fun vs H Q E h => ?_) (fun cdv A outer s H vs Q E hr h => ?_)
  · obtain ⟨p, c, m, n, rfl, _⟩ := h
    rfl
  · obtain ⟨p, c, m, n, rfl, hp, hn, c0, c1, m0, m1, q⟩ := h
    refine ⟨_, pss_cons (ps_set (i := 3) scForm.nd rfl (.inl rfl) (pe_lst pa_nil))
      (pss_cons (ps_for PassesOwn.never rfl (pi_range1 rfl T.range (pa_cons (pv 1) pa_nil)) (pg_name (i := 4) scForm.nd rfl (.inl rfl)) (pss_one (ps_expr (pe_bm PySem.F.plainAttrs_list PySem.F.slot_list_append PySem.F.type_list_append mt_append (pv 3)
        (pa_cons (pe_ix ix_list (pe_lst (pa_cons pe_int (pa_cons (pe_op op_sub (pe_call GT hr (by rfl) mT kT bT .nil pass0 (pa_cons (pv 0) (pa_cons pe_int pa_nil))) pe_int)
          (pa_cons (pe_op op_sub (pe_call GT hr (by rfl) mT kT bT .nil pass0 (pa_cons (pv 0) (pa_cons (pe_op op_add (pe_op op_mul pe_int (pv 2)) pe_int) pa_nil))) (pv 2)) pa_nil))))
          (pe_call GT hr (by rfl) mT kT bT .nil pass0 (pa_cons (pv 0) (pa_cons pe_int pa_nil))) (fun _ _ => rfl)) pa_nil)))))
      (pss_one (ps_ret (pe_callTy call_tuple_of (by rfl) T.tuple (by decide +kernel) (pa_cons (pv 3) pa_nil))))), ?_⟩
    refine ⟨Nat.zero_le _, fun l hl => ?_⟩
    refine ⟨_, rfl, (c : Int), rfl, by omega, by omega, ?_⟩
    have npl : l ≠ p := hp.ne hl
    refine for_it (walk_range (lo := 0) (n := c)) (fun i σ H' => ∃ y4 f, σ = [some (.ref p), some (.int c), some (.int m), some (.ref l), y4] ∧ Sb p H H' ∧ PAt H' p (n + 3 * i) ∧ H' l = some (.lst (f.map V.int)) ∧ f.length = i ∧ Sml m f)
      ⟨none, [], rfl, Sb.of (same_new hl), hp.same (same_new hl), upd_same, rfl, fun x hx => (nomatch hx)⟩ (fun _ _ _ _ _ => trivial) ?_ ?_
    · rintro i x σ H1 H2 hi ⟨y4, f, rfl, sb, pp, el, lf, sf⟩ ⟨rfl, rfl⟩
      refine ⟨_, rfl, .inl ⟨rfl, _, SqL.of el⟩, _, rfl, p, 3, n + 3 * i, rfl, pp, by omega, by decide, by decide, fun H3 a sb3 pp3 a0 a1 => ⟨a, 1, rfl, rfl, ?_⟩⟩
      refine ⟨_, rfl, _, rfl, 2, m, rfl, rfl, .inl ⟨by decide, by decide⟩, _, 1, rfl, rfl, p, 2 * m + 1, _, rfl, pp3, by omega, by omega, by omega, fun H4 b sb4 pp4 b0 b1 => ⟨_, rfl, b, m, rfl, rfl, ?_⟩⟩
      refine ⟨(by decide : 3 ≤ sizeLine), fun L hL => ?_⟩
      have sL := same_new (o := .lst [.int 0, .int (a - 1), .int (b - m)]) hL
      refine ⟨_, rfl, p, 3, _, rfl, pp4.same sL, by omega, by decide, by decide, fun H5 j sb5 pp5 j0 j1 => ?_⟩
      obtain ⟨v, hv, v0, v1⟩ := pick3 m0 a0 a1 b0 b1 j0 j1
      have nLp : L ≠ p := pp4.ne hL
      have eL : H5 L = some (.lst [.int 0, .int (a - 1), .int (b - m)]) := sb5 _ _ nLp upd_same
      refine ⟨L, _, j, .int v, rfl, rfl, SqL.of eL, hv, ?_⟩
      have el5 : H5 l = some (.lst (f.map V.int)) := sb5 _ _ npl (sL _ _ (sb4 _ _ npl (sb3 _ _ npl el)))
      have s5 : Sb p H2 H5 := ((sb3.trans sb4).trans (Sb.of sL)).trans sb5
      refine ⟨l, _, _, rfl, rfl, el5, ?_, ?_⟩
      · rw [List.length_map]
        exact small1000 (by omega)
      · refine ⟨_, f ++ [v], rfl, ?_, ?_, ?_, by simp [lf], ?_⟩
        · intro b' o nb e
          have nl : b' ≠ l := ne_of_none e hl
          rw [upd_ne nl]
          exact (sb.trans s5) b' o nb e
        · obtain ⟨x', y', z', e1, r⟩ := pp5
          refine ⟨x', y', z', ?_, r.1, r.2.1, r.2.2.1, r.2.2.2.1, by omega⟩
          rw [upd_ne npl.symm]
          exact e1
        · rw [upd_same, List.map_append]
          rfl
        · intro x hx
          rcases List.mem_append.mp hx with hx | hx
          · exact sf x hx
          · rw [List.mem_singleton] at hx
            subst hx
            exact ⟨v0, v1⟩
    · rintro σ H1 ⟨y4, f, rfl, sb, pp, el, lf, sf⟩
      refine ⟨_, rfl, l, _, rfl, .inl ⟨SqL.of el, fun t ht => ?_⟩⟩
      exact q _ t f (sb.trans (Sb.of (same_new ht))) (pp.same (same_new ht)) (sb.free (pp.ne ht) ht) upd_same lf sf
end
end PF

namespace PF
/-! ### the mathematics of leading forms -/
def at0 (f : List Int) (j : Nat) : Int := (f[j]?).getD 0
theorem ext0 {f g : List Int} (hl : f.length = g.length) (h : ∀ j, at0 f j = at0 g j) : f = g := by
  refine List.ext_getElem? fun j => ?_
  have e := h j
  unfold at0 at e
  by_cases hj : j < f.length
  · have hg : j < g.length := by omega
    rw [List.getElem?_eq_getElem hj, List.getElem?_eq_getElem hg] at e ⊢
    exact congrArg some e
  · rw [List.getElem?_eq_none (by omega), List.getElem?_eq_none (by omega)]
theorem at0_add {f g : List Int} (hl : f.length = g.length) (j : Nat) : at0 (addF f g) j = at0 f j + at0 g j := by
  unfold at0 addF
  rw [List.getElem?_zipWith]
  by_cases hj : j < f.length
  · have hg : j < g.length := by omega
    rw [List.getElem?_eq_getElem hj, List.getElem?_eq_getElem hg]
    rfl
  · rw [List.getElem?_eq_none (show f.length ≤ j by omega), List.getElem?_eq_none (show g.length ≤ j by omega)]
    rfl
theorem at0_oft (f : List Int) (m : Int) (j : Nat) : at0 (oftF f m) j = at0 f j * m := by
  unfold at0 oftF
  rw [List.getElem?_map]
  cases f[j]? with
  | none => exact (Int.zero_mul m).symm
  | some x => rfl
def dot : List Int → List Int → Int
  | n :: ns, v :: vs => v * n + dot ns vs
  | _, _ => 0
theorem dot_add : ∀ (ns ms vs : List Int), ns.length = ms.length → dot (addF ns ms) vs = dot ns vs + dot ms vs
  | [], [], vs, _ => by cases vs <;> rfl
  | [], _ :: _, _, h => by simp at h
  | _ :: _, [], _, h => by simp at h
  | n :: ns, m :: ms, [], _ => rfl
  | n :: ns, m :: ms, v :: vs, h => by
    have ih := dot_add ns ms vs (by simpa using h)
    show v * (n + m) + dot (addF ns ms) vs = v * n + dot ns vs + (v * m + dot ms vs)
    rw [ih, Int.mul_add]
    omega
theorem dot_oft : ∀ (ns vs : List Int) (k : Int), dot (oftF ns k) vs = dot ns vs * k
  | [], vs, k => by cases vs <;> exact (Int.zero_mul k).symm
  | n :: ns, [], k => (Int.zero_mul k).symm
  | n :: ns, v :: vs, k => by
    have ih := dot_oft ns vs k
    show v * (n * k) + dot (oftF ns k) vs = (v * n + dot ns vs) * k
    rw [ih, Int.add_mul, Int.mul_assoc]
theorem dot_zero : ∀ (n : Nat) (vs : List Int), dot (List.replicate n 0) vs = 0
  | 0, vs => by cases vs <;> rfl
  | n + 1, [] => rfl
  | n + 1, v :: vs => by
    show v * 0 + dot (List.replicate n 0) vs = 0
    rw [dot_zero n vs, Int.mul_zero]
    rfl
theorem dot_natAbs (A B : Nat) : ∀ (ns vs : List Int), (∀ x ∈ ns, x.natAbs ≤ A) → (∀ x ∈ vs, x.natAbs ≤ B) → (dot ns vs).natAbs ≤ ns.length * (B * A)
  | [], _, _, _ => by unfold dot; simp
  | n :: ns, [], _, _ => by unfold dot; simp
  | n :: ns, v :: vs, h1, h2 => by
    have ih := dot_natAbs A B ns vs (fun x h => h1 x (List.mem_cons_of_mem _ h)) (fun x h => h2 x (List.mem_cons_of_mem _ h))
    have a1 : (v * n).natAbs ≤ B * A := by
      rw [Int.natAbs_mul]
      exact Nat.mul_le_mul (h2 v (List.mem_cons_self ..)) (h1 n (List.mem_cons_self ..))
    show (v * n + dot ns vs).natAbs ≤ (ns.length + 1) * (B * A)
    rw [Nat.add_mul, Nat.one_mul]
    have := Int.natAbs_add_le (v * n) (dot ns vs)
    omega
def e0 (j : Nat) : Int := if j = 0 then 1 else 0
/-- what a led form has at the place j -/
def lin (f : List Int) (gs : List (List Int)) (j : Nat) : Int := at0 f 0 * e0 j + dot f.tail (gs.map fun g => at0 g j)
theorem tail_add (f g : List Int) (hl : f.length = g.length) : (addF f g).tail = addF f.tail g.tail := by
  cases f with
  | nil =>
    cases g with
    | nil => rfl
    | cons x r => simp at hl
  | cons x r =>
    cases g with
    | nil => simp at hl
    | cons y q => rfl
theorem tail_oft (f : List Int) (k : Int) : (oftF f k).tail = oftF f.tail k := by
  cases f <;> rfl
theorem lin_add {f g : List Int} (hl : f.length = g.length) (gs : List (List Int)) (j : Nat) : lin (addF f g) gs j = lin f gs j + lin g gs j := by
  unfold lin
  rw [at0_add hl, tail_add f g hl, dot_add _ _ _ (by rw [List.length_tail, List.length_tail, hl]), Int.add_mul]
  omega
theorem lin_oft (f : List Int) (k : Int) (gs : List (List Int)) (j : Nat) : lin (oftF f k) gs j = lin f gs j * k := by
  unfold lin
  rw [at0_oft, tail_oft, dot_oft, Int.add_mul, Int.mul_assoc, Int.mul_assoc, Int.mul_comm k]
theorem ledGo_at (L : List Int → Int) (m : Nat) (la : ∀ f g : List Int, f.length = m → g.length = m → L (addF f g) = L f + L g) (lo : ∀ (f : List Int) (k : Int), L (oftF f k) = L f * k) :
    ∀ (ns : List Int) (gs : List (List Int)) (t : List Int), t.length = m → (∀ g ∈ gs, g.length = m) → L (ledGo t ns gs) = L t + dot ns (gs.map L)
  | [], gs, t, _, _ => by
    have e : ledGo t [] gs = t := by unfold ledGo; rfl
    rw [e]
    cases gs <;> exact (Int.add_zero _).symm
  | n :: ns, [], t, _, _ => (Int.add_zero _).symm
  | n :: ns, g :: gs, t, ht, hg => by
    have hgm := hg g (List.mem_cons_self ..)
    have hom : (oftF g n).length = m := (oftF_len g n).trans hgm
    show L (ledGo (addF t (oftF g n)) ns gs) = L t + (L g * n + dot ns (gs.map L))
    rw [ledGo_at L m la lo ns gs _ ((addF_len (ht.trans hom.symm)).trans ht) fun g' h => hg g' (List.mem_cons_of_mem _ h), la _ _ ht hom, lo]
    omega
theorem at0_first (x : Int) (n j : Nat) : at0 (x :: List.replicate n 0) j = x * e0 j := by
  cases j with
  | zero => exact (Int.mul_one x).symm
  | succ j =>
    unfold at0 e0
    rw [List.getElem?_cons_succ, if_neg (by omega), Int.mul_zero]
    by_cases h : j < n
    · rw [List.getElem?_replicate, if_pos h]
      rfl
    · rw [List.getElem?_replicate, if_neg h]
      rfl
theorem ledF_at {f : List Int} {gs : List (List Int)} {m : Nat} (hm : 1 ≤ m) (hf : f ≠ []) (hg0 : gs ≠ []) (hg : ∀ g ∈ gs, g.length = m) : (ledF f gs).length = m ∧ ∀ j, at0 (ledF f gs) j = lin f gs j := by
  cases f with
  | nil => exact absurd rfl hf
  | cons x ns =>
    cases gs with
    | nil => exact absurd rfl hg0
    | cons g r =>
      have e := hg g (List.mem_cons_self ..)
      have tl : (x :: List.replicate (g.length - 1) (0 : Int)).length = m := by
        rw [List.length_cons, List.length_replicate]
        omega
      refine ⟨?_, fun j => ?_⟩
      · show (ledGo _ ns (g :: r)).length = m
        rw [ledGo_len ns (g :: r) _ fun g' h => (hg g' h).trans tl.symm, tl]
      · show at0 (ledGo _ ns (g :: r)) j = _
        rw [ledGo_at (fun f => at0 f j) m (fun f g a b => at0_add (a.trans b.symm) j) (fun f k => at0_oft f k j) ns (g :: r) _ tl hg, at0_first]
        rfl
/-- forms that may be led: the one, what stands in the place of its unknowns, all of one length -/
structure Fit (f : List Int) (gs : List (List Int)) (m : Nat) : Prop where
  one : 1 ≤ m
  ne : f ≠ []
  nes : gs ≠ []
  len : ∀ g ∈ gs, g.length = m
theorem led_add {f g : List Int} {gs : List (List Int)} {m : Nat} (hl : f.length = g.length) (a : Fit f gs m) (b : Fit g gs m) (c : Fit (addF f g) gs m) : ledF (addF f g) gs = addF (ledF f gs) (ledF g gs) := by
  have h1 := ledF_at a.one a.ne a.nes a.len
  have h2 := ledF_at b.one b.ne b.nes b.len
  have h3 := ledF_at c.one c.ne c.nes c.len
  have hl2 := h1.1.trans h2.1.symm
  refine ext0 (by rw [h3.1, addF_len hl2, h1.1]) fun j => ?_
  rw [h3.2, at0_add hl2, h1.2, h2.2, lin_add hl]
theorem led_oft {f : List Int} {k : Int} {gs : List (List Int)} {m : Nat} (a : Fit f gs m) (c : Fit (oftF f k) gs m) : ledF (oftF f k) gs = oftF (ledF f gs) k := by
  have h1 := ledF_at a.one a.ne a.nes a.len
  have h3 := ledF_at c.one c.ne c.nes c.len
  refine ext0 (by rw [h3.1, oftF_len, h1.1]) fun j => ?_
  rw [h3.2, at0_oft, h1.2, lin_oft]
theorem at0_con {f : List Int} (h : f ≠ []) (j : Nat) : at0 (conF f) j = at0 f j * -1 - e0 j := by
  cases f with
  | nil => exact absurd rfl h
  | cons x r =>
    cases j with
    | zero => rfl
    | succ j =>
      show at0 (oftF r (-1)) j = at0 r j * -1 - 0
      rw [at0_oft]
      omega
theorem conF_len {f : List Int} : (conF f).length = f.length := by
  cases f with
  | nil => rfl
  | cons x r =>
    show (oftF r (-1)).length + 1 = r.length + 1
    rw [oftF_len]
theorem led_con {f : List Int} {gs : List (List Int)} {m : Nat} (a : Fit f gs m) (c : Fit (conF f) gs m) : ledF (conF f) gs = conF (ledF f gs) := by
  have h1 := ledF_at a.one a.ne a.nes a.len
  have h3 := ledF_at c.one c.ne c.nes c.len
  have n1 : ledF f gs ≠ [] := fun z => by
    have := h1.1
    have := a.one
    rw [z] at h1
    simp at h1
    omega
  refine ext0 (by rw [h3.1, conF_len, h1.1]) fun j => ?_
  rw [h3.2, at0_con n1, h1.2]
  cases f with
  | nil => exact absurd rfl a.ne
  | cons x r =>
    unfold lin
    show (x * -1 - 1) * e0 j + dot (oftF r (-1)) _ = (x * e0 j + dot r _) * -1 - e0 j
    rw [dot_oft, Int.sub_mul, Int.add_mul, Int.one_mul, Int.mul_assoc, Int.mul_assoc, Int.mul_comm (-1) (e0 j)]
    omega
theorem led_led {f : List Int} {gs hs : List (List Int)} {m n : Nat} (a : Fit f gs m) (h0 : hs ≠ []) (hn : 1 ≤ n) (hh : ∀ g ∈ hs, g.length = n) : ledF (ledF f gs) hs = ledF f (gs.map fun g => ledF g hs) := by
  have h1 := ledF_at a.one a.ne a.nes a.len
  have n1 : ledF f gs ≠ [] := fun z => by
    have := a.one
    rw [z] at h1
    simp at h1
    omega
  have h2 := ledF_at hn n1 h0 hh
  have gne : ∀ g ∈ gs, g ≠ [] := fun g hg z => by
    have := a.len g hg
    have := a.one
    subst z
    simp at this
    omega
  have h3 := ledF_at (f := f) (gs := gs.map fun g => ledF g hs) hn a.ne (by simpa using a.nes) (fun g hg => by
    obtain ⟨g', hg', rfl⟩ := List.mem_map.mp hg
    exact (ledF_at hn (gne g' hg') h0 hh).1)
  refine ext0 (by rw [h2.1, h3.1]) fun j => ?_
  rw [h2.2, h3.2]
  have em : ((gs.map fun g => ledF g hs).map fun g => at0 g j) = gs.map fun g => lin g hs j := by
    rw [List.map_map]
    exact List.map_congr_left fun g hg => (ledF_at hn (gne g hg) h0 hh).2 j
  have key := ledGo_at (fun f => lin f hs j) m (fun f g x y => lin_add (x.trans y.symm) hs j) (fun f k => lin_oft f k hs j)
  cases f with
  | nil => exact absurd rfl a.ne
  | cons x ns =>
    cases hgs : gs with
    | nil => exact absurd hgs a.nes
    | cons g r =>
      subst hgs
      have e := a.len g (List.mem_cons_self ..)
      have one := a.one
      have tl : (x :: List.replicate (g.length - 1) (0 : Int)).length = m := by
        rw [List.length_cons, List.length_replicate]
        omega
      show lin (ledGo (x :: List.replicate (g.length - 1) 0) ns (g :: r)) hs j = _
      rw [key ns (g :: r) _ tl a.len]
      show at0 (x :: List.replicate (g.length - 1) (0 : Int)) 0 * e0 j + dot (List.replicate (g.length - 1) 0) _ + _ = x * e0 j + dot ns _
      rw [dot_zero, em]
      show x * e0 j + 0 + _ = _
      omega
/-- how great a led form's numbers may be -/
theorem led_abs {f : List Int} {gs : List (List Int)} {m A B C : Nat} (a : Fit f gs m) (hA : ∀ x ∈ f, x.natAbs ≤ A) (hB : ∀ g ∈ gs, ∀ x ∈ g, x.natAbs ≤ B) (hC : A + f.length * (B * A) ≤ C) : ∀ x ∈ ledF f gs, x.natAbs ≤ C := by
  intro x hx
  obtain ⟨j, hj, rfl⟩ := List.getElem_of_mem hx
  have e := (ledF_at a.one a.ne a.nes a.len).2 j
  unfold at0 at e
  rw [List.getElem?_eq_getElem hj] at e
  have e' : (ledF f gs)[j] = lin f gs j := e
  rw [e']
  unfold lin
  cases f with
  | nil => exact absurd rfl a.ne
  | cons y ns =>
    have h1 : (dot ns (gs.map fun g => at0 g j)).natAbs ≤ ns.length * (B * A) := dot_natAbs A B ns _ (fun x h => hA x (List.mem_cons_of_mem _ h)) fun v hv => by
      obtain ⟨g, hg, rfl⟩ := List.mem_map.mp hv
      unfold at0
      cases e : g[j]? with
      | none => exact Nat.zero_le _
      | some u => exact hB g hg u (List.mem_of_getElem? e)
    have h2 : (y * e0 j).natAbs ≤ A := by
      have := hA y (List.mem_cons_self ..)
      unfold e0
      split
      · rw [Int.mul_one]; exact this
      · rw [Int.mul_zero]; exact Nat.zero_le _
    have h3 := Int.natAbs_add_le (y * e0 j) (dot ns (gs.map fun g => at0 g j))
    have h4 : (y :: ns).length * (B * A) = ns.length * (B * A) + B * A := by rw [List.length_cons, Nat.add_mul, Nat.one_mul]
    show (y * e0 j + dot ns _).natAbs ≤ C
    omega
end PF

namespace PF
open PySem PySem.Spec PyProof.Rows L2 ZG
abbrev sLaw : Stmt := topS 20
abbrev NL : List Str := ["script", "cell", "purse", "length", "more", "last", "one", "other", "through", "further", "at_once", "times", "nth", "form"]
theorem scLaw : FnScope NL ["script"] (defScope sLaw) := ⟨rfl, rfl, rfl, by decide +kernel, rfl, by decide +kernel, by decide +kernel⟩
theorem dp_ints {K : PySem.W.Frag} {H : Hp} : ∀ f : List Int, DpAll K H (f.map V.int) (f.map PyData.int)
  | [] => .nil
  | x :: r => .cons (.int x) (dp_ints r)
theorem dp_f {K : PySem.W.Frag} {H : Hp} {a : Addr} {f : List Int} (h : FAt K H a f) : Dp K H (.ref a) (.tuple (f.map PyData.int)) := .tup h (dp_ints f)
theorem lay_ints : ∀ f : List Int, PyData.canLayAll0 (f.map PyData.int) = true ∧ PyData.depthAll (f.map PyData.int) = 0
  | [] => ⟨rfl, rfl⟩
  | x :: r => by
    obtain ⟨h1, h2⟩ := lay_ints r
    refine ⟨?_, ?_⟩
    · show (true && PyData.canLayAll0 (r.map PyData.int)) = true
      rw [h1]
      rfl
    · show max 0 (PyData.depthAll (r.map PyData.int)) = 0
      rw [h2]
      rfl
theorem lay_f (f : List Int) : PyData.canLay0 (.tuple (f.map PyData.int)) = true := (lay_ints f).1
theorem sh_f (f : List Int) : SeqAt.shaped (.tuple (f.map PyData.int)) = true := by
  unfold SeqAt.shaped
  rw [lay_f f, Bool.true_and]
  refine decide_eq_true ?_
  show PyData.depthAll (f.map PyData.int) + 1 ≤ 64
  rw [(lay_ints f).2]
  decide
theorem ne_same {K : PySem.W.Frag} {H : Hp} {a b : Addr} {f g : List Int} {Q : VK} (ha : FAt K H a f) (hb : FAt K H b g) (e : f = g) (q : Q (.bl false) H) : rNeD K (.ref a) (.ref b) H Q := by
  subst e
  refine ⟨_, _, dp_f ha, dp_f hb, sh_f f, sh_f f, ?_⟩
  rw [SeqAt.eqv_refl _ (lay_f f)]
  exact q
theorem FAt.sb {K : PySem.W.Frag} {H H' : Hp} {p a : Addr} {n : Nat} {f : List Int} (h : FAt K H a f) (pp : PAt H p n) (e : Sb p H H') : FAt K H' a f := by
  obtain ⟨x, y, z, h1, _⟩ := pp
  rcases h with (h | ⟨o, h⟩) | h
  · exact .inl (.inl (e _ _ (fun w => by rw [w, h1] at h; cases h) h))
  · exact .inl (.inr ⟨o, e _ _ (fun w => by rw [w, h1] at h; cases h) h⟩)
  · exact .inr h
theorem FsAt.sb {K : PySem.W.Frag} {H H' : Hp} {p : Addr} {n : Nat} {xs : List V} {gs : List (List Int)} (h : FsAt K H xs gs) (pp : PAt H p n) (e : Sb p H H') : FsAt K H' xs gs :=
  ⟨h.1, fun i x hx => by
    obtain ⟨a, g, h1, h2, h3⟩ := h.2 i x hx
    exact ⟨a, g, h1, h2, h3.sb pp e⟩⟩
theorem FsAt.nil {K : PySem.W.Frag} {H : Hp} : FsAt K H [] [] := ⟨rfl, fun i x h => by simp at h⟩
theorem FsAt.snoc {K : PySem.W.Frag} {H : Hp} {xs : List V} {gs : List (List Int)} {q : Addr} {g : List Int} (h : FsAt K H xs gs) (hq : FAt K H q g) : FsAt K H (xs ++ [.ref q]) (gs ++ [g]) := by
  refine ⟨by rw [List.length_append, List.length_append, h.1]; rfl, fun i x hx => ?_⟩
  by_cases hi : i < xs.length
  · rw [List.getElem?_append_left hi] at hx
    obtain ⟨a, g', h1, h2, h3⟩ := h.2 i x hx
    refine ⟨a, g', h1, ?_, h3⟩
    rw [List.getElem?_append_left (by rw [← h.1]; exact hi)]
    exact h2
  · rw [List.getElem?_append_right (by omega)] at hx
    have e : i - xs.length = 0 := by
      have := (List.getElem?_eq_some_iff.mp hx).1
      simp at this
      omega
    rw [e] at hx
    have ex : V.ref q = x := Option.some.inj hx
    subst ex
    refine ⟨q, g, rfl, ?_, hq⟩
    rw [List.getElem?_append_right (by rw [← h.1]; omega), ← h.1, e]
    rfl
/-- no number above c in size -/
def Abs (c : Nat) (f : List Int) : Prop := ∀ x ∈ f, x.natAbs ≤ c
theorem Abs.bnd {c : Nat} {f : List Int} (h : Abs c f) (hc : c ≤ 1000000) : Bnd f := fun x hx => Nat.lt_of_le_of_lt (Nat.le_trans (h x hx) hc) (by decide)
theorem Sml.abs {m : Int} {c : Nat} {f : List Int} (h : Sml m f) (e : m = c) : Abs c f := fun x hx => by
  have := h x hx
  omega
theorem Abs.mono {c d : Nat} {f : List Int} (h : Abs c f) (e : c ≤ d) : Abs d f := fun x hx => Nat.le_trans (h x hx) e
theorem abs_add {c d : Nat} : ∀ {f g : List Int}, Abs c f → Abs d g → Abs (c + d) (addF f g)
  | [], g, _, _ => fun x hx => by cases g <;> exact (nomatch hx)
  | _ :: _, [], _, _ => fun x hx => (nomatch hx)
  | a :: f, b :: g, h1, h2 => fun x hx => by
    rcases List.mem_cons.mp (show x ∈ (a + b) :: addF f g from hx) with e | e
    · subst e
      have := h1 a (List.mem_cons_self ..)
      have := h2 b (List.mem_cons_self ..)
      have := Int.natAbs_add_le a b
      omega
    · exact abs_add (fun y hy => h1 y (List.mem_cons_of_mem _ hy)) (fun y hy => h2 y (List.mem_cons_of_mem _ hy)) x e
theorem abs_oft {c d : Nat} {f : List Int} {k : Int} (h : Abs c f) (hk : k.natAbs ≤ d) : Abs (c * d) (oftF f k) := fun x hx => by
  obtain ⟨y, hy, rfl⟩ := List.mem_map.mp hx
  rw [Int.natAbs_mul]
  exact Nat.mul_le_mul (h y hy) hk
theorem abs_con {c : Nat} {f : List Int} (h : Abs c f) : Abs (c + 1) (conF f) := fun x hx => by
  cases f with
  | nil => exact (nomatch hx)
  | cons a r =>
    rcases List.mem_cons.mp (show x ∈ (a * -1 - 1) :: oftF r (-1) from hx) with e | e
    · subst e
      have := h a (List.mem_cons_self ..)
      omega
    · have := abs_oft (d := 1) (fun y hy => h y (List.mem_cons_of_mem _ hy)) (by decide) x e
      omega
theorem led_ne {f : List Int} {gs : List (List Int)} {m : Nat} (t : Fit f gs m) : ledF f gs ≠ [] := fun z => by
  have h := (ledF_at t.one t.ne t.nes t.len).1
  have := t.one
  rw [z] at h
  simp at h
  omega
section
variable {P : Program} {w : World} {K : PySem.W.Frag} {mg : Str → Option Value} {base : Heap}
theorem led_rd {H : Hp} {Q : VK} {E : XK} {a b : Addr} {xs : List V} {f : List Int} {gs : List (List Int)} {m : Nat} (ha : FAt K H a f) (hb : SqL K H b xs) (hx : FsAt K H xs gs) (t : Fit f gs m) (hl : f.length = gs.length + 1) (h9 : gs.length ≤ 900) (hm : m ≤ 1000)
    (hA : Abs 1000000 f) (hB : ∀ g ∈ gs, Abs 1000000 g) (q : ∀ H' p, Same H H' → FAt K H' p (ledF f gs) → Q (.ref p) H') : spLed K [.ref a, .ref b] H Q E :=
  ⟨a, b, false, f, xs, gs, m, rfl, ha, hb, hx, hl, by omega, hA.bnd (Nat.le_refl _), fun g hg => ⟨t.len g hg, (hB g hg).bnd (Nat.le_refl _)⟩, t.one, hm, fun H' p s h _ => q H' p s h⟩
theorem Same.of_sb {H H' : Hp} {p : Addr} (e : Sb p H H') (h : H p = none) : Same H H' := fun b o hb => e b o (ne_of_none hb h) hb
theorem viaNil {σ : L2.St} {H : Hp} {Q : List V → Hp → Prop} (h : Q [] H) : tNil σ H Q := h
theorem FAt.updL {H : Hp} {D a : Addr} {xs : List V} {o : HO} {f : List Int} (e : H D = some (.lst xs)) (h : FAt K H a f) : FAt K (upd H D o) a f := by
  rcases h with (h | ⟨u, h⟩) | h
  · exact .inl (.inl (Eq.trans (upd_ne (fun w => by rw [w, e] at h; cases h)) h))
  · exact .inl (.inr ⟨u, Eq.trans (upd_ne (fun w => by rw [w, e] at h; cases h)) h⟩)
  · exact .inr h
theorem FsAt.updL {H : Hp} {D : Addr} {xs ys : List V} {o : HO} {gs : List (List Int)} (e : H D = some (.lst ys)) (h : FsAt K H xs gs) : FsAt K (upd H D o) xs gs :=
  ⟨h.1, fun i x hx => by
    obtain ⟨a, g, h1, h2, h3⟩ := h.2 i x hx
    exact ⟨a, g, h1, h2, h3.updL e⟩⟩
theorem forms_step {H8 H9 H10 : Hp} {p D q : Addr} {xs : List V} {gs : List (List Int)} {g : List Int} {n n' : Nat} (hD : H8 D = none) (nDp : D ≠ p) (sb : Sb p H8 H9) (eD : H9 D = some (.lst xs)) (fs : FsAt K H9 xs gs) (pp : PAt H9 p n) (sb' : Sb p H9 H10) (pp' : PAt H10 p n') (eq : FAt K H10 q g) :
    H10 D = some (.lst xs) ∧ Sb p H8 (upd H10 D (.lst (xs ++ [.ref q]))) ∧ PAt (upd H10 D (.lst (xs ++ [.ref q]))) p n' ∧ FsAt K (upd H10 D (.lst (xs ++ [.ref q]))) (xs ++ [.ref q]) (gs ++ [g]) := by
  have e1 := sb' _ _ nDp eD
  refine ⟨e1, fun b o nb e => ?_, ?_, ?_⟩
  · rw [upd_ne (ne_of_none e hD)]
    exact sb' b o nb (sb b o nb e)
  · obtain ⟨x, y, z, h1, r⟩ := pp'
    exact ⟨x, y, z, (upd_ne nDp.symm).trans h1, r⟩
  · exact ((fs.sb pp sb').snoc eq).updL e1
theorem PAt.upd {H : Hp} {p D : Addr} {n : Nat} {o : HO} (h : PAt H p n) (ne : D ≠ p) : PAt (upd H D o) p n := by
  obtain ⟨x, y, z, h1, r⟩ := h
  exact ⟨x, y, z, (upd_ne ne.symm).trans h1, r⟩
def spLaw (K : PySem.W.Frag) : Sp := fun vs H Q _ => ∃ (a : Addr) (ns : List Int), vs = [.ref a] ∧ SqL K H a (ns.map V.int) ∧ ns.length ≤ 63 ∧ ∀ H', Q (.bl true) H'
theorem ok_law {f fP fT fF fL fA fO fC : Addr} {fd dP dT dF dL dA dO dC : FuncData} (F : Fun K "law" "law" sLaw f fd)
    (GP : FnOk P w K mg base CX0 1 fP dP ["script", "at"] (spPurse K)) (kP : PySem.W.keepIn K (.ref fP) = true) (bP : Binds K dP ["script", "at"] []) (mP : mg "_law_purse" = some (.ref fP))
    (GT : FnOk P w K mg base CX0 1 fT dT ["purse", "many"] spTake) (kT : PySem.W.keepIn K (.ref fT) = true) (bT : Binds K dT ["purse", "many"] []) (mT : mg "_law_take" = some (.ref fT))
    (GF : FnOk P w K mg base CX0 2 fF dF ["purse", "many", "most"] spForm) (kF : PySem.W.keepIn K (.ref fF) = true) (bF : Binds K dF ["purse", "many", "most"] []) (mF : mg "_law_form" = some (.ref fF))
    (GL : FnOk P w K mg base CX0 5 fL dL ["form", "others"] (spLed K)) (kL : PySem.W.keepIn K (.ref fL) = true) (bL : Binds K dL ["form", "others"] []) (mL : mg "led" = some (.ref fL))
    (GA : FnOk P w K mg base CX0 4 fA dA ["one", "other"] (spAdded K)) (kA : PySem.W.keepIn K (.ref fA) = true) (bA : Binds K dA ["one", "other"] []) (mA : mg "added" = some (.ref fA))
    (GO : FnOk P w K mg base CX0 4 fO dO ["form", "many"] (spOften K)) (kO : PySem.W.keepIn K (.ref fO) = true) (bO : Binds K dO ["form", "many"] []) (mO : mg "often" = some (.ref fO))
    (GC : FnOk P w K mg base CX0 5 fC dC ["form"] (spContrary K)) (kC : PySem.W.keepIn K (.ref fC) = true) (bC : Binds K dC ["form"] []) (mC : mg "contrary" = some (.ref fC)) (T : Txt mg) :
    FnOk P w K mg base CX0 6 f fd ["script"] (spLaw K) := by
  refine F.ok scLaw (fun vs H Q E h => ?_) (fun cdv A outer s H vs Q E hr h => ?_)
  · obtain ⟨a, ns, rfl, _⟩ := h
    rfl
  · obtain ⟨a, ns, rfl, hS, hlen, q⟩ := h
    have hr1 : Room 1 _ := hr.mono (by decide)
    have hr2 : Room 2 _ := hr.mono (by decide)
    have hr4 : Room 4 _ := hr.mono (by decide)
    refine ⟨_, pss_cons (ps_for PassesOwn.never rfl (pi_range1 (by rfl) T.range (pa_cons (pe_callB (call_max2 rfl) (by rfl) T.max (by decide +kernel) (pa_cons pe_int (pa_cons (pe_callB (call_min2 rfl) (by rfl) T.min (by decide +kernel) (pa_cons (pe_callB call_len_seq (by rfl) T.len PySem.boot_len (pa_cons (pv 0) pa_nil)) (pa_cons pe_int pa_nil))) pa_nil))) pa_nil)) (pg_name (i := 1) scLaw.nd rfl (.inl rfl))
        (pss_cons (ps_set (i := 2) scLaw.nd rfl (.inr rfl) (pe_call GP hr1 (by rfl) mP kP bP .nil pass0 (pa_cons (pv 0) (pa_cons (pv 1) pa_nil))))
        (pss_cons (ps_asg (pe_tup (pa_cons (pe_op op_add pe_int (pe_call GT hr1 (by rfl) mT kT bT .nil pass0 (pa_cons (pv 2) (pa_cons pe_int pa_nil)))) (pa_cons (pe_op op_add pe_int (pe_call GT hr1 (by rfl) mT kT bT .nil pass0 (pa_cons (pv 2) (pa_cons pe_int pa_nil)))) (pa_cons (pe_op op_add pe_int (pe_call GT hr1 (by rfl) mT kT bT .nil pass0 (pa_cons (pv 2) (pa_cons pe_int pa_nil)))) pa_nil)))) (pg_tup rfl (pgs_cons (pg_name (i := 3) scLaw.nd rfl (.inl rfl)) (pgs_cons (pg_name (i := 4) scLaw.nd rfl (.inr rfl)) (pgs_cons (pg_name (i := 5) scLaw.nd rfl (.inr rfl)) pgs_nil)))))
        (pss_cons (ps_par (i := 6) (j := 7) rfl scLaw.nd rfl rfl (by decide) rfl rfl (pa_cons (pe_call GF hr2 (by rfl) mF kF bF .nil pass0 (pa_cons (pv 2) (pa_cons (pv 3) (pa_cons pe_int pa_nil)))) (pa_cons (pe_call GF hr2 (by rfl) mF kF bF .nil pass0 (pa_cons (pv 2) (pa_cons (pv 3) (pa_cons pe_int pa_nil)))) pa_nil)) (by rfl))
        (pss_cons (ps_setLc (i := 8) (own := [("nth", 12)]) (g := gName 12) (tt := tYes) rfl scLaw.nd rfl rfl (sw_true rfl rfl rfl (by decide +kernel)) (pi_range1 (by rfl) T.range (pa_cons (pe_op op_sub (pv 3) pe_int) pa_nil)) (blkOk_by (N := NL) (sc := defScope sLaw) (by decide +kernel)) (fun _ _ _ _ _ => pg_name (i := 12) scLaw.nd rfl (Or.inl rfl)) (fun _ _ _ _ _ => pts_nil) (fun _ _ _ _ _ => pe_call GF hr2 (by rfl) mF kF bF .nil pass0 (pa_cons (pv 2) (pa_cons (pv 4) (pa_cons pe_int pa_nil)))))
        (pss_cons (ps_set (i := 9) scLaw.nd rfl (.inr rfl) (pe_lc (own := [("nth", 12)]) (g := gName 12) (tt := tYes) rfl scLaw.nd  (pi_range1 (by rfl) T.range (pa_cons (pe_op op_sub (pv 4) pe_int) pa_nil)) (blkOk_by (N := NL) (sc := defScope sLaw) (by decide +kernel)) (fun _ _ _ _ _ => pg_name (i := 12) scLaw.nd rfl (Or.inl rfl)) (fun _ _ _ _ _ => pts_nil) (fun _ _ _ _ _ => pe_call GF hr2 (by rfl) mF kF bF .nil pass0 (pa_cons (pv 2) (pa_cons (pv 5) (pa_cons pe_int pa_nil))))))
        (pss_cons (ps_setLc (i := 10) (own := [("form", 13)]) (g := gName 13) (tt := tYes) rfl scLaw.nd rfl rfl (sw_true rfl rfl rfl (by decide +kernel)) (pi_list (pv 8)) (blkOk_by (N := NL) (sc := defScope sLaw) (by decide +kernel)) (fun _ _ _ _ _ => pg_name (i := 13) scLaw.nd rfl (Or.inl rfl)) (fun _ _ _ _ _ => pts_nil) (fun _ _ _ _ _ => pe_call GL hr (by rfl) mL kL bL .nil pass0 (pa_cons (pv 13) (pa_cons (pv 9) pa_nil))))
        (pss_cons (ps_if (pt_cmpR (op_neD hr.units) (pe_call GL hr (by rfl) mL kL bL .nil pass0 (pa_cons (pe_call GL hr (by rfl) mL kL bL .nil pass0 (pa_cons (pv 6) (pa_cons (pv 8) pa_nil))) (pa_cons (pv 9) pa_nil))) (pe_call GL hr (by rfl) mL kL bL .nil pass0 (pa_cons (pv 6) (pa_cons (pv 10) pa_nil))) (nomark _)) (pss_one ps_never) pss_nil)
        (pss_cons (ps_if (pt_cmpR (op_neD hr.units) (pe_call GL hr (by rfl) mL kL bL .nil pass0 (pa_cons (pe_call GA hr4 (by rfl) mA kA bA .nil pass0 (pa_cons (pv 6) (pa_cons (pv 7) pa_nil))) (pa_cons (pv 8) pa_nil))) (pe_call GA hr4 (by rfl) mA kA bA .nil pass0 (pa_cons (pe_call GL hr (by rfl) mL kL bL .nil pass0 (pa_cons (pv 6) (pa_cons (pv 8) pa_nil))) (pa_cons (pe_call GL hr (by rfl) mL kL bL .nil pass0 (pa_cons (pv 7) (pa_cons (pv 8) pa_nil))) pa_nil))) (nomark _)) (pss_one ps_never) pss_nil)
        (pss_cons (ps_set (i := 11) scLaw.nd rfl (.inl rfl) (pe_op op_sub (pe_call GT hr1 (by rfl) mT kT bT .nil pass0 (pa_cons (pv 2) (pa_cons pe_int pa_nil))) pe_int))
        (pss_cons (ps_if (pt_cmpR (op_neD hr.units) (pe_call GL hr (by rfl) mL kL bL .nil pass0 (pa_cons (pe_call GO hr4 (by rfl) mO kO bO .nil pass0 (pa_cons (pv 6) (pa_cons (pv 11) pa_nil))) (pa_cons (pv 8) pa_nil))) (pe_call GO hr4 (by rfl) mO kO bO .nil pass0 (pa_cons (pe_call GL hr (by rfl) mL kL bL .nil pass0 (pa_cons (pv 6) (pa_cons (pv 8) pa_nil))) (pa_cons (pv 11) pa_nil))) (nomark _)) (pss_one ps_never) pss_nil)
        (pss_cons (ps_if (pt_cmpR (op_neD hr.units) (pe_call GL hr (by rfl) mL kL bL .nil pass0 (pa_cons (pe_call GC hr (by rfl) mC kC bC .nil pass0 (pa_cons (pv 6) pa_nil)) (pa_cons (pv 8) pa_nil))) (pe_call GC hr (by rfl) mC kC bC .nil pass0 (pa_cons (pe_call GL hr (by rfl) mL kL bL .nil pass0 (pa_cons (pv 6) (pa_cons (pv 8) pa_nil))) pa_nil)) (nomark _)) (pss_one ps_never) pss_nil)
        pss_nil))))))))))))
      (pss_one (ps_ret pe_bl)), ?_⟩
    refine ⟨_, rfl, a, _, rfl, .inl hS, _, _, rfl, _, _, rfl, _, rfl, ?_, ?_, ?_⟩
    · split <;> split <;> omega
    · split <;> split <;> omega
    refine for_it (walk_range (lo := 0) (n := _)) (fun i σ H' => ∃ y1 y2 y3 y4 y5 y6 y7 y8 y9 y10 y11 y12 y13, σ = [some (.ref a), y1, y2, y3, y4, y5, y6, y7, y8, y9, y10, y11, y12, y13] ∧ Same H H')
      ⟨_, _, _, _, _, _, _, _, _, _, _, _, _, rfl, Same.refl H⟩ (fun _ _ _ _ _ => trivial) ?_ (fun σ H' _ => q H')
    rintro i x σ H1 H1' hi ⟨y1, y2, y3, y4, y5, y6, y7, y8, y9, y10, y11, y12, y13, rfl, s1⟩ ⟨rfl, rfl⟩
    have hi6 : (i : Int) ≤ 1000 := by
      have : i < 7 := by
        refine Nat.lt_of_lt_of_le hi ?_
        split <;> split <;> omega
      omega
    -- purse
    refine ⟨_, rfl, _, rfl, a, ns, _, rfl, Same.seq s1 hS, by omega, by omega, fun H2 p s2 np pp => ?_⟩
    -- length, more, last
    refine ⟨_, rfl, p, 4, 0, rfl, pp, by omega, by decide, by decide, fun H3 c1 b3 p3 c10 c11 => ⟨2, c1, rfl, rfl, ?_⟩⟩
    refine ⟨_, rfl, p, 4, _, rfl, p3, by omega, by decide, by decide, fun H4 c2 b4 p4 c20 c21 => ⟨2, c2, rfl, rfl, ?_⟩⟩
    refine ⟨_, rfl, p, 5, _, rfl, p4, by omega, by decide, by decide, fun H5 c3 b5 p5 c30 c31 => ⟨1, c3, rfl, rfl, ?_⟩⟩
    obtain ⟨l1, rfl⟩ := Int.eq_ofNat_of_zero_le c10
    obtain ⟨l2, rfl⟩ := Int.eq_ofNat_of_zero_le c20
    obtain ⟨l3, rfl⟩ := Int.eq_ofNat_of_zero_le c30
    refine ⟨(by decide : 3 ≤ sizeLine), fun t ht => ?_⟩
    refine ⟨t, [.int (2 + (l1 : Int)), .int (2 + (l2 : Int)), .int (1 + (l3 : Int))], rfl, .inl (.inl upd_same), rfl, _, _, rfl, _, _, rfl, _, [], rfl, rfl, ?_⟩
    have b25 : Sb p H2 _ := ((b3.trans b4).trans b5).trans (Sb.of (same_new (o := .tup [.int (2 + (l1 : Int)), .int (2 + (l2 : Int)), .int (1 + (l3 : Int))]) ht))
    have p6 := p5.same (same_new (o := .tup [.int (2 + (l1 : Int)), .int (2 + (l2 : Int)), .int (1 + (l3 : Int))]) ht)
    -- one, other
    refine ⟨_, rfl, _, rfl, p, 2 + l1, 5, 3, rfl, p6, by omega, by omega, by omega, by decide, by decide, fun H7 a1 one b7 p7 na1 e1 le1 sm1 => ?_⟩
    refine ⟨_, rfl, _, rfl, p, 2 + l1, 5, _, rfl, p7, by omega, by omega, by omega, by decide, by decide, fun H8 a2 oth b8 p8 na2 e2 le2 sm2 => ⟨_, _, rfl, ?_⟩⟩
    have f1 : FAt K H8 a1 one := (FAt.new e1).sb p7 b8
    have f2 : FAt K H8 a2 oth := .new e2
    have b28 := (b25.trans b7).trans b8
    -- through
    refine ⟨_, rfl, _, 1, rfl, rfl, _, rfl, by omega, by omega, fun D hD => ?_⟩
    have nD8 := p8.ne hD
    refine lc_it (walk_range (lo := 0) (n := _)) (fun i H' => Sb p H8 H' ∧ PAt H' p (100 + 15 * i) ∧ ∃ xs gs, H' D = some (.lst xs) ∧ FsAt K H' xs gs ∧ gs.length = i ∧ ∀ g ∈ gs, g.length = 2 + l2 ∧ Sml 5 g)
      ⟨Sb.of (same_new hD), (p8.mono (by omega)).upd nD8, [], [], upd_same, FsAt.nil, rfl, fun g h => (nomatch h)⟩ (fun _ _ _ _ => trivial) ?_ ?_
    · rintro i x H9 H9' hi9 ⟨sb, pp9, xs, gs, eD, fs, lg, hg⟩ ⟨rfl, rfl⟩
      refine ⟨rfl, ?_⟩
      refine ⟨_, rfl, _, rfl, p, 2 + l2, 5, _, rfl, pp9, by omega, by omega, by omega, by decide, by decide, fun H10 u g sb10 pp10 nu eu lu su => ?_⟩
      obtain ⟨z1, z2, z3, z4⟩ := forms_step (K := K) hD nD8 sb eD fs pp9 sb10 pp10 (.new eu)
      refine ⟨xs, z1, small1000 (by rw [fs.1]; omega), z2, z3.mono (by omega), _, _, upd_same, z4, by simp [lg], fun g' h' => ?_⟩
      rcases List.mem_append.mp h' with h' | h'
      · exact hg g' h'
      · rw [List.mem_singleton] at h'
        subst h'
        exact ⟨lu, su⟩
    rintro H9 ⟨sb9, p9, xs, th, eD9, fs9, lth, hth⟩
    have f19 := f1.sb p8 sb9
    have f29 := f2.sb p8 sb9
    -- further
    refine ⟨_, rfl, _, 1, rfl, rfl, _, rfl, by omega, by omega, fun U hU => ?_⟩
    have nU9 := p9.ne hU
    refine lc_it (walk_range (lo := 0) (n := _)) (fun i H' => Sb p H9 H' ∧ PAt H' p (300 + 15 * i) ∧ ∃ ys gs, H' U = some (.lst ys) ∧ FsAt K H' ys gs ∧ gs.length = i ∧ ∀ g ∈ gs, g.length = 1 + l3 ∧ Sml 5 g)
      ⟨Sb.of (same_new hU), (p9.mono (by omega)).upd nU9, [], [], upd_same, FsAt.nil, rfl, fun g h => (nomatch h)⟩ (fun _ _ _ _ => trivial) ?_ ?_
    · rintro i x H10 H10' hi9 ⟨sb, pp9, ys, gs, eD, fs, lg, hg⟩ ⟨rfl, rfl⟩
      refine ⟨rfl, ?_⟩
      refine ⟨_, rfl, _, rfl, p, 1 + l3, 5, _, rfl, pp9, by omega, by omega, by omega, by decide, by decide, fun H11 u g sb10 pp10 nu eu lu su => ?_⟩
      obtain ⟨z1, z2, z3, z4⟩ := forms_step (K := K) hU nU9 sb eD fs pp9 sb10 pp10 (.new eu)
      refine ⟨ys, z1, small1000 (by rw [fs.1]; omega), z2, z3.mono (by omega), _, _, upd_same, z4, by simp [lg], fun g' h' => ?_⟩
      rcases List.mem_append.mp h' with h' | h'
      · exact hg g' h'
      · rw [List.mem_singleton] at h'
        subst h'
        exact ⟨lu, su⟩
    rintro H10 ⟨sb10, p10, ys, fu, eU10, fs10, lfu, hfu⟩
    have f110 := f19.sb p9 sb10
    have f210 := f29.sb p9 sb10
    have fx10 := fs9.sb p9 sb10
    have eD10 := sb10 _ _ nD8 eD9
    have lth' : th.length = 1 + l1 := by omega
    have lfu' : fu.length = 1 + l2 := by omega
    -- at_once
    refine ⟨_, rfl, D, rfl, ⟨_, SqL.of eD10⟩, fun W hW => ?_⟩
    have fitG : ∀ g ∈ th, Fit g fu (1 + l3) := fun g hg => ⟨by omega, fun z => by have := (hth g hg).1; rw [z] at this; simp at this; omega, fun z => by rw [z] at lfu'; simp at lfu'; omega, fun g h => (hfu g h).1⟩
    refine lc_it (walk_list (xs := xs)) (fun i H' => Same H10 H' ∧ ∃ zs, H' W = some (.lst zs) ∧ FsAt K H' zs ((th.map fun g => ledF g fu).take i))
      ⟨same_new hW, [], upd_same, FsAt.nil⟩ (fun i H' _ p => Same.seq p.1 (SqL.of eD10)) ?_ ?_
    · rintro i x H11 H11' hi9 ⟨s11, zs, eW, fs⟩ ⟨rfl, hx⟩
      refine ⟨rfl, ?_⟩
      obtain ⟨ag, g, rfl, gi, hgi⟩ := fx10.2 i x hx
      have mg := List.mem_of_getElem? gi
      refine ⟨_, rfl, _, rfl, viaNil (led_rd (Same.f s11 hgi) (Same.seq s11 (SqL.of eU10)) (fs10.same s11) (fitG g mg) (by have := (hth g mg).1; omega) (by omega) (by omega) ((hth g mg).2.abs (c := 5) rfl |>.mono (by decide)) (fun g' h' => (hfu g' h').2.abs (c := 5) rfl |>.mono (by decide)) fun H12 r s12 fr => ?_)⟩
      have eW12 := s12 _ _ eW
      refine ⟨zs, eW12, small1000 (by rw [fs.1, List.length_take, List.length_map]; omega), (fun b o e => ?_), zs ++ [.ref r], upd_same, ?_⟩
      · rw [upd_ne (ne_of_none e hW)]
        exact s12 b o (s11 b o e)
      · rw [List.take_add_one, List.getElem?_map, gi]
        exact ((fs.same s12).snoc fr).updL eW12
    rintro H11 ⟨s11, zs, eW, fz⟩
    rw [show xs.length = (th.map fun g => ledF g fu).length by rw [fx10.1, List.length_map], List.take_length] at fz
    have A1 : Abs 5 one := sm1.abs rfl
    have A2 : Abs 5 oth := sm2.abs rfl
    have AT : ∀ g ∈ th, Abs 5 g := fun g hg => (hth g hg).2.abs rfl
    have AU : ∀ g ∈ fu, Abs 5 g := fun g hg => (hfu g hg).2.abs rfl
    have nth0 : th ≠ [] := fun z => by rw [z] at lth'; simp at lth'; omega
    have nfu0 : fu ≠ [] := fun z => by rw [z] at lfu'; simp at lfu'; omega
    have fit : ∀ f : List Int, f.length = 2 + l1 → Fit f th (2 + l2) := fun f hf => ⟨by omega, fun z => by rw [z] at hf; simp at hf; omega, nth0, fun g h => (hth g h).1⟩
    have led2 : ∀ f : List Int, f.length = 2 + l1 → (ledF f th).length = 2 + l2 := fun f hf => (ledF_at (fit f hf).one (fit f hf).ne (fit f hf).nes (fit f hf).len).1
    have absL : ∀ f : List Int, f.length = 2 + l1 → Abs 50 f → Abs 1300 (ledF f th) := fun f hf ha => led_abs (fit f hf) ha AT (by rw [hf]; omega)
    have f111 := Same.f s11 f110
    have f211 := Same.f s11 f210
    have eD11 := Same.seq (K := K) s11 (SqL.of eD10)
    have eU11 := Same.seq (K := K) s11 (SqL.of eU10)
    have fx11 := fx10.same s11
    have fy11 := fs10.same s11
    -- a led one: in any later heap
    have ledT : ∀ (Hx : Hp) (f : List Int) (b : Addr) (Q' : VK) (E' : XK), Same H11 Hx → f.length = 2 + l1 → Abs 50 f → FAt K Hx b f → (∀ H' u, Same Hx H' → FAt K H' u (ledF f th) → Q' (.ref u) H') → spLed K [.ref b, .ref D] Hx Q' E' := fun Hx f b Q' E' sx hf ha hb k =>
      led_rd hb (Same.seq sx eD11) (fx11.same sx) (fit f hf) (by omega) (by omega) (by omega) (ha.mono (by decide)) (fun g h => (AT g h).mono (by decide)) k
    have fitF : Fit (ledF one th) fu (1 + l3) := ⟨by omega, led_ne (fit one le1), nfu0, fun g h => (hfu g h).1⟩
    -- the first test
    refine ⟨_, rfl, _, rfl, viaNil (ledT H11 one _ _ _ (Same.refl _) le1 (A1.mono (by decide)) f111 fun H12 u1 s12 g1 => ?_)⟩
    refine ⟨_, rfl, viaNil (led_rd g1 (Same.seq s12 eU11) (fy11.same s12) fitF (by rw [led2 one le1]; omega) (by omega) (by omega) ((absL one le1 (A1.mono (by decide))).mono (by decide)) (fun g h => (AU g h).mono (by decide)) fun H13 u2 s13 g2 => ?_)⟩
    have s113 := s12.trans s13
    have fitZ : Fit one (th.map fun g => ledF g fu) (1 + l3) := ⟨by omega, (fit one le1).ne, by simpa using nth0, fun g h => by
      obtain ⟨g', h', rfl⟩ := List.mem_map.mp h
      exact (ledF_at (fitG g' h').one (fitG g' h').ne (fitG g' h').nes (fitG g' h').len).1⟩
    refine ⟨_, rfl, _, rfl, viaNil (led_rd (Same.f s113 f111) (Same.seq s113 (SqL.of eW)) (fz.same s113) fitZ (by rw [List.length_map]; omega) (by rw [List.length_map]; omega) (by omega) (A1.mono (by decide)) (fun g h => by
      obtain ⟨g', h', rfl⟩ := List.mem_map.mp h
      exact Abs.mono (c := 1300) (led_abs (C := 1300) (fitG g' h') (AT g' h') AU (by rw [(hth g' h').1]; omega)) (by decide)) fun H14 u3 s14 g3 => ?_)⟩
    refine ne_same (Same.f s14 g2) g3 (led_led (fit one le1) nfu0 (by omega) fun g h => (hfu g h).1) ⟨_, rfl, iteF ?_⟩
    have s114 := s113.trans s14
    -- the second test
    have ladd : (addF one oth).length = 2 + l1 := (addF_len (by omega)).trans le1
    refine ⟨_, rfl, _, rfl, _, _, one, oth, rfl, Same.f s114 f111, Same.f s114 f211, (fit one le1).ne, by omega, by omega, fun H15 u4 s15 n4 e4 => ?_⟩
    have s115 := s114.trans s15
    refine ⟨_, rfl, viaNil (ledT H15 _ _ _ _ s115 ladd ((abs_add A1 A2).mono (by decide)) (.new e4) fun H16 u5 s16 g5 => ?_)⟩
    have s116 := s115.trans s16
    refine ⟨_, rfl, _, rfl, viaNil (ledT H16 one _ _ _ s116 le1 (A1.mono (by decide)) (Same.f s116 f111) fun H17 u6 s17 g6 => ?_)⟩
    have s117 := s116.trans s17
    refine ⟨_, rfl, _, rfl, viaNil (ledT H17 oth _ _ _ s117 le2 (A2.mono (by decide)) (Same.f s117 f211) fun H18 u7 s18 g7 => ?_)⟩
    have s118 := s117.trans s18
    refine ⟨u6, u7, _, _, rfl, Same.f s18 g6, g7, led_ne (fit one le1), by rw [led2 one le1]; omega, by rw [led2 one le1, led2 oth le2], fun H19 u8 s19 n8 e8 => ?_⟩
    have s119 := s118.trans s19
    refine ne_same (Same.f (((s17.trans s18).trans s19)) g5) (.new e8) (led_add (by omega) (fit one le1) (fit oth le2) (fit _ ladd)) ⟨_, rfl, iteF ?_⟩
    -- times
    have p19 := p10.same (s11.trans s119)
    refine ⟨_, rfl, p, 19, _, rfl, p19, by omega, by decide, by decide, fun H20 v b20 p20 v0 v1 => ⟨v, 9, rfl, rfl, ?_⟩⟩
    have f120 := (Same.f s119 f111).sb p19 b20
    have eD20 : SqL K H20 D xs := SqL.of (b20 _ _ nD8 (s119 _ _ (s11 _ _ eD10)))
    have fx20 := (fx11.same s119).sb p19 b20
    have ledU : ∀ (Hx : Hp) (f : List Int) (b : Addr) (Q' : VK) (E' : XK), Same H20 Hx → f.length = 2 + l1 → Abs 50 f → FAt K Hx b f → (∀ H' u, Same Hx H' → FAt K H' u (ledF f th) → Q' (.ref u) H') → spLed K [.ref b, .ref D] Hx Q' E' := fun Hx f b Q' E' sx hf ha hb k =>
      led_rd hb (Same.seq sx eD20) (fx20.same sx) (fit f hf) (by omega) (by omega) (by omega) (ha.mono (by decide)) (fun g h => (AT g h).mono (by decide)) k
    have hv : (v - 9).natAbs ≤ 9 := by omega
    have hv2 : (v - 9).natAbs < 2 ^ 250 := Nat.lt_of_le_of_lt hv (by decide)
    have loft : (oftF one (v - 9)).length = 2 + l1 := (oftF_len _ _).trans le1
    -- the third test
    refine ⟨_, rfl, _, rfl, _, one, v - 9, rfl, f120, (fit one le1).ne, by omega, A1.bnd (by decide), hv2, fun H21 u9 s21 n9 e9 => ?_⟩
    refine ⟨_, rfl, viaNil (ledU H21 _ _ _ _ s21 loft ((abs_oft A1 hv).mono (by decide)) (.new e9) fun H22 u10 s22 g10 => ?_)⟩
    have s222 := s21.trans s22
    refine ⟨_, rfl, _, rfl, viaNil (ledU H22 one _ _ _ s222 le1 (A1.mono (by decide)) (Same.f s222 f120) fun H23 u11 s23 g11 => ?_)⟩
    refine ⟨_, rfl, u11, _, v - 9, rfl, g11, led_ne (fit one le1), by rw [led2 one le1]; omega, (absL one le1 (A1.mono (by decide))).bnd (by decide), hv2, fun H24 u12 s24 n12 e12 => ?_⟩
    refine ne_same (Same.f (s23.trans s24) g10) (.new e12) (led_oft (fit one le1) (fit _ loft)) ⟨_, rfl, iteF ?_⟩
    have s224 := (s222.trans s23).trans s24
    -- the fourth test
    have lcon : (conF one).length = 2 + l1 := conF_len.trans le1
    refine ⟨_, rfl, _, one, rfl, Same.f s224 f120, (fit one le1).ne, by omega, A1.bnd (by decide), fun H25 u13 s25 n13 e13 => ?_⟩
    have s225 := s224.trans s25
    refine ⟨_, rfl, viaNil (ledU H25 _ _ _ _ s225 lcon ((abs_con A1).mono (by decide)) (.new e13) fun H26 u14 s26 g14 => ?_)⟩
    have s226 := s225.trans s26
    refine ⟨_, rfl, _, rfl, viaNil (ledU H26 one _ _ _ s226 le1 (A1.mono (by decide)) (Same.f s226 f120) fun H27 u15 s27 g15 => ?_)⟩
    refine ⟨u15, _, rfl, g15, led_ne (fit one le1), by rw [led2 one le1]; omega, (absL one le1 (A1.mono (by decide))).bnd (by decide), fun H28 u16 s28 n16 e16 => ?_⟩
    refine ne_same (Same.f (s27.trans s28) g14) (.new e16) (led_con (fit one le1) (fit _ lcon)) ⟨_, rfl, iteF ?_⟩
    refine ⟨_, _, _, _, _, _, _, _, _, _, _, _, _, rfl, s1.trans (Same.of_sb (p := p) ?_ np)⟩
    exact (Sb.of s2).trans (b28.trans (sb9.trans (sb10.trans ((Sb.of (s11.trans s119)).trans (b20.trans (Sb.of ((s226.trans s27).trans s28)))))))
end
end PF

namespace PF
open PySem PySem.Spec PyProof.Rows L2 ZG
theorem all_mk {l : PySem.W.OpenLaw} {w : World} {K : PySem.W.Frag} {h : Heap} {mg : Str → Option Value} {fa f0 f1 f2 f3 f4 f5 f6 f7 f8 f9 f10 f11 : Addr} (X : K.In h) (G : h.Ns mainGlobals mg) (hfa : mg "law" = some (.ref fa))
    {od0 an0 od1 an1 od2 an2 od3 an3 od4 an4 od5 an5 od6 an6 od7 an7 od8 an8 od9 an9 od10 an10 od11 an11 : Option Addr} {sl0 sl1 sl2 sl3 sl4 sl5 sl6 sl7 sl8 sl9 sl10 sl11 : Array (Option Value)} {oc0 kV0 dc0 pm0 cd0 ct0 oc1 kV1 dc1 pm1 cd1 ct1 oc2 kV2 dc2 pm2 cd2 ct2 oc3 kV3 dc3 pm3 cd3 ct3 oc4 kV4 dc4 pm4 cd4 ct4 oc5 kV5 dc5 pm5 cd5 ct5 oc6 kV6 dc6 pm6 cd6 ct6 oc7 kV7 dc7 pm7 cd7 ct7 oc8 kV8 dc8 pm8 cd8 ct8 oc9 kV9 dc9 pm9 cd9 ct9 oc10 kV10 dc10 pm10 cd10 ct10 oc11 kV11 dc11 pm11 cd11 ct11 : Value}
    (a0 : PySem.W.nsIn K mainGlobals "is_whole" = some (some (.ref f0))) (l0 : K.lookup f0 = some ⟨oc0, od0, .func (PySem.W.fnOf "is_whole" "is_whole" (defArgs sWhole) (defBody sWhole) (defScope sWhole) .none kV0 dc0 pm0 an0 cd0 ct0), sl0⟩) (c0 : PySem.W.codeIn K cd0 "is_whole" = true) (k0 : PySem.W.keepIn K (.ref f0) = true)
    (a1 : PySem.W.nsIn K mainGlobals "is_sequence" = some (some (.ref f1))) (l1 : K.lookup f1 = some ⟨oc1, od1, .func (PySem.W.fnOf "is_sequence" "is_sequence" (defArgs sSeqn) (defBody sSeqn) (defScope sSeqn) .none kV1 dc1 pm1 an1 cd1 ct1), sl1⟩) (c1 : PySem.W.codeIn K cd1 "is_sequence" = true) (k1 : PySem.W.keepIn K (.ref f1) = true)
    (a2 : PySem.W.nsIn K mainGlobals "is_form" = some (some (.ref f2))) (l2 : K.lookup f2 = some ⟨oc2, od2, .func (PySem.W.fnOf "is_form" "is_form" (defArgs sIsForm) (defBody sIsForm) (defScope sIsForm) .none kV2 dc2 pm2 an2 cd2 ct2), sl2⟩) (c2 : PySem.W.codeIn K cd2 "is_form" = true) (k2 : PySem.W.keepIn K (.ref f2) = true)
    (a3 : PySem.W.nsIn K mainGlobals "added" = some (some (.ref f3))) (l3 : K.lookup f3 = some ⟨oc3, od3, .func (PySem.W.fnOf "added" "added" (defArgs sAdded) (defBody sAdded) (defScope sAdded) .none kV3 dc3 pm3 an3 cd3 ct3), sl3⟩) (c3 : PySem.W.codeIn K cd3 "added" = true) (k3 : PySem.W.keepIn K (.ref f3) = true)
    (a4 : PySem.W.nsIn K mainGlobals "often" = some (some (.ref f4))) (l4 : K.lookup f4 = some ⟨oc4, od4, .func (PySem.W.fnOf "often" "often" (defArgs sOften) (defBody sOften) (defScope sOften) .none kV4 dc4 pm4 an4 cd4 ct4), sl4⟩) (c4 : PySem.W.codeIn K cd4 "often" = true) (k4 : PySem.W.keepIn K (.ref f4) = true)
    (a5 : PySem.W.nsIn K mainGlobals "contrary" = some (some (.ref f5))) (l5 : K.lookup f5 = some ⟨oc5, od5, .func (PySem.W.fnOf "contrary" "contrary" (defArgs sContrary) (defBody sContrary) (defScope sContrary) .none kV5 dc5 pm5 an5 cd5 ct5), sl5⟩) (c5 : PySem.W.codeIn K cd5 "contrary" = true) (k5 : PySem.W.keepIn K (.ref f5) = true)
    (a6 : PySem.W.nsIn K mainGlobals "led" = some (some (.ref f6))) (l6 : K.lookup f6 = some ⟨oc6, od6, .func (PySem.W.fnOf "led" "led" (defArgs sLed) (defBody sLed) (defScope sLed) .none kV6 dc6 pm6 an6 cd6 ct6), sl6⟩) (c6 : PySem.W.codeIn K cd6 "led" = true) (k6 : PySem.W.keepIn K (.ref f6) = true)
    (a7 : PySem.W.nsIn K mainGlobals "_look_form" = some (some (.ref f7))) (l7 : K.lookup f7 = some ⟨oc7, od7, .func (PySem.W.fnOf "_look_form" "_look_form" (defArgs sLook) (defBody sLook) (defScope sLook) .none kV7 dc7 pm7 an7 cd7 ct7), sl7⟩) (c7 : PySem.W.codeIn K cd7 "_look_form" = true) (k7 : PySem.W.keepIn K (.ref f7) = true)
    (a8 : PySem.W.nsIn K mainGlobals "_law_purse" = some (some (.ref f8))) (l8 : K.lookup f8 = some ⟨oc8, od8, .func (PySem.W.fnOf "_law_purse" "_law_purse" (defArgs sPurse) (defBody sPurse) (defScope sPurse) .none kV8 dc8 pm8 an8 cd8 ct8), sl8⟩) (c8 : PySem.W.codeIn K cd8 "_law_purse" = true) (k8 : PySem.W.keepIn K (.ref f8) = true)
    (a9 : PySem.W.nsIn K mainGlobals "_law_take" = some (some (.ref f9))) (l9 : K.lookup f9 = some ⟨oc9, od9, .func (PySem.W.fnOf "_law_take" "_law_take" (defArgs sTake) (defBody sTake) (defScope sTake) .none kV9 dc9 pm9 an9 cd9 ct9), sl9⟩) (c9 : PySem.W.codeIn K cd9 "_law_take" = true) (k9 : PySem.W.keepIn K (.ref f9) = true)
    (a10 : PySem.W.nsIn K mainGlobals "_law_form" = some (some (.ref f10))) (l10 : K.lookup f10 = some ⟨oc10, od10, .func (PySem.W.fnOf "_law_form" "_law_form" (defArgs sForm) (defBody sForm) (defScope sForm) .none kV10 dc10 pm10 an10 cd10 ct10), sl10⟩) (c10 : PySem.W.codeIn K cd10 "_law_form" = true) (k10 : PySem.W.keepIn K (.ref f10) = true)
    (a11 : PySem.W.nsIn K mainGlobals "law" = some (some (.ref f11))) (l11 : K.lookup f11 = some ⟨oc11, od11, .func (PySem.W.fnOf "law" "law" (defArgs sLaw) (defBody sLaw) (defScope sLaw) .none kV11 dc11 pm11 an11 cd11 ct11), sl11⟩) (c11 : PySem.W.codeIn K cd11 "law" = true) (k11 : PySem.W.keepIn K (.ref f11) = true)
    (z0 : PySem.W.nsIn K mainGlobals "isinstance" = some none)
    (z1 : PySem.W.nsIn K mainGlobals "int" = some none)
    (z2 : PySem.W.nsIn K mainGlobals "bool" = some none)
    (z3 : PySem.W.nsIn K mainGlobals "tuple" = some none)
    (z4 : PySem.W.nsIn K mainGlobals "list" = some none)
    (z5 : PySem.W.nsIn K mainGlobals "len" = some none)
    (z6 : PySem.W.nsIn K mainGlobals "all" = some none)
    (z7 : PySem.W.nsIn K mainGlobals "zip" = some none)
    (z8 : PySem.W.nsIn K mainGlobals "range" = some none)
    (z9 : PySem.W.nsIn K mainGlobals "sum" = some none)
    (z10 : PySem.W.nsIn K mainGlobals "abs" = some none)
    (z11 : PySem.W.nsIn K mainGlobals "max" = some none)
    (z12 : PySem.W.nsIn K mainGlobals "min" = some none)
    : ∃ fd : FuncData, (∀ (s : Shared) (v : Value), BindsTo s fd ⟨[v], []⟩ [("script", v)]) ∧ ∀ base : Heap, K.In base → base.Ns mainGlobals mg → FnOk l.prog w K mg base CX0 6 fa fd ["script"] (spLaw K) := by
  have e := hfa.symm.trans (PySem.W.mg_of X G a11)
  cases e
  have T : Txt mg := ⟨PySem.W.mg_none_of X G z0, PySem.W.mg_none_of X G z1, PySem.W.mg_none_of X G z2, PySem.W.mg_none_of X G z3, PySem.W.mg_none_of X G z4, PySem.W.mg_none_of X G z5, PySem.W.mg_none_of X G z6, PySem.W.mg_none_of X G z7, PySem.W.mg_none_of X G z8, PySem.W.mg_none_of X G z9, PySem.W.mg_none_of X G z10, PySem.W.mg_none_of X G z11, PySem.W.mg_none_of X G z12⟩
  have F0 := fun_mk (st := sWhole) l0 c0 k0
  have b0 := F0.binds (ps := ["thing"]) fun _ _ _ _ _ _ us hl => match us, hl with | [_], _ => rfl
  have m0 := PySem.W.mg_of X G a0
  have F1 := fun_mk (st := sSeqn) l1 c1 k1
  have b1 := F1.binds (ps := ["thing"]) fun _ _ _ _ _ _ us hl => match us, hl with | [_], _ => rfl
  have m1 := PySem.W.mg_of X G a1
  have F2 := fun_mk (st := sIsForm) l2 c2 k2
  have b2 := F2.binds (ps := ["thing"]) fun _ _ _ _ _ _ us hl => match us, hl with | [_], _ => rfl
  have m2 := PySem.W.mg_of X G a2
  have F3 := fun_mk (st := sAdded) l3 c3 k3
  have b3 := F3.binds (ps := ["one", "other"]) fun _ _ _ _ _ _ us hl => match us, hl with | [_, _], _ => rfl
  have m3 := PySem.W.mg_of X G a3
  have F4 := fun_mk (st := sOften) l4 c4 k4
  have b4 := F4.binds (ps := ["form", "many"]) fun _ _ _ _ _ _ us hl => match us, hl with | [_, _], _ => rfl
  have m4 := PySem.W.mg_of X G a4
  have F5 := fun_mk (st := sContrary) l5 c5 k5
  have b5 := F5.binds (ps := ["form"]) fun _ _ _ _ _ _ us hl => match us, hl with | [_], _ => rfl
  have m5 := PySem.W.mg_of X G a5
  have F6 := fun_mk (st := sLed) l6 c6 k6
  have b6 := F6.binds (ps := ["form", "others"]) fun _ _ _ _ _ _ us hl => match us, hl with | [_, _], _ => rfl
  have m6 := PySem.W.mg_of X G a6
  have F7 := fun_mk (st := sLook) l7 c7 k7
  have b7 := F7.binds (ps := ["form"]) fun _ _ _ _ _ _ us hl => match us, hl with | [_], _ => rfl
  have m7 := PySem.W.mg_of X G a7
  have F8 := fun_mk (st := sPurse) l8 c8 k8
  have b8 := F8.binds (ps := ["script", "at"]) fun _ _ _ _ _ _ us hl => match us, hl with | [_, _], _ => rfl
  have m8 := PySem.W.mg_of X G a8
  have F9 := fun_mk (st := sTake) l9 c9 k9
  have b9 := F9.binds (ps := ["purse", "many"]) fun _ _ _ _ _ _ us hl => match us, hl with | [_, _], _ => rfl
  have m9 := PySem.W.mg_of X G a9
  have F10 := fun_mk (st := sForm) l10 c10 k10
  have b10 := F10.binds (ps := ["purse", "many", "most"]) fun _ _ _ _ _ _ us hl => match us, hl with | [_, _, _], _ => rfl
  have m10 := PySem.W.mg_of X G a10
  have F11 := fun_mk (st := sLaw) l11 c11 k11
  refine ⟨PySem.W.fnOf "law" "law" (defArgs sLaw) (defBody sLaw) (defScope sLaw) .none kV11 dc11 pm11 an11 cd11 ct11, fun s v => .of_eq rfl, fun base _ _ => ?_⟩
  have G0 := ok_whole (P := l.prog) (w := w) (mg := mg) (base := base) F0 T
  have G1 := ok_seqn (P := l.prog) (w := w) (mg := mg) (base := base) F1 T
  have G2 := ok_isForm (P := l.prog) (w := w) (mg := mg) (base := base) F2 F0 b0 m0 T
  have G7 := ok_look F7 G2 k2 b2 m2
  have G3 := ok_added F3 G7 k7 b7 m7 T
  have G4 := ok_often F4 G7 k7 b7 m7 G0 k0 b0 m0 T
  have G5 := ok_contrary F5 G4 k4 b4 m4
  have G6 := ok_led F6 G7 k7 b7 m7 G1 k1 b1 m1 G3 k3 b3 m3 G4 k4 b4 m4 T
  have G8 := ok_purse (P := l.prog) (w := w) (mg := mg) (base := base) F8 T
  have G9 := ok_take (P := l.prog) (w := w) (mg := mg) (base := base) F9
  have G10 := ok_form F10 G9 k9 b9 m9 T
  exact ok_law F11 G8 k8 b8 m8 G9 k9 b9 m9 G10 k10 b10 m10 G6 k6 b6 m6 G3 k3 b3 m3 G4 k4 b4 m4 G5 k5 b5 m5 T
end PF
open PySem PySem.W PyProof.Rows
set_option maxHeartbeats 0 in
theorem PySem.Challenge.cw_paperrows_k04_whole_led_in_steps_holds : PySem.Challenge.rw_paperrows_k04_whole_led_in_steps.Holds := by
  w_on; o_law; k_head; (case hw => w_witness2)
  k_fill
  refine L2.walk_of (l := PySem.Challenge.rw_paperrows_k04_whole_led_in_steps) (n := 63) (k := 6) (x := "script") (CX := fun _ => L2.CX0) (sp := fun w => PF.spLaw _) rfl (by decide) rfl ⟨rfl, by decide, by decide⟩ (fun w h Y => PySem.W.kIn_of Y) ?F (fun _ _ a ns hl _ hS => ⟨a, ns, rfl, hS, hl, fun _ => rfl⟩) (fun _ _ _ _ _ h => h)
  case F =>
    intro w mg fa h KX G hmg
    refine' PF.all_mk KX G hmg ?a0 ?l0 ?c0 ?k0 ?a1 ?l1 ?c1 ?k1 ?a2 ?l2 ?c2 ?k2 ?a3 ?l3 ?c3 ?k3 ?a4 ?l4 ?c4 ?k4 ?a5 ?l5 ?c5 ?k5 ?a6 ?l6 ?c6 ?k6 ?a7 ?l7 ?c7 ?k7 ?a8 ?l8 ?c8 ?k8 ?a9 ?l9 ?c9 ?k9 ?a10 ?l10 ?c10 ?k10 ?a11 ?l11 ?c11 ?k11 ?z0 ?z1 ?z2 ?z3 ?z4 ?z5 ?z6 ?z7 ?z8 ?z9 ?z10 ?z11 ?z12
    (case a0 => k_is)
    (case l0 => k_is)
    (case c0 => k_is)
    (case k0 => k_is)
    (case a1 => k_is)
    (case l1 => k_is)
    (case c1 => k_is)
    (case k1 => k_is)
    (case a2 => k_is)
    (case l2 => k_is)
    (case c2 => k_is)
    (case k2 => k_is)
    (case a3 => k_is)
    (case l3 => k_is)
    (case c3 => k_is)
    (case k3 => k_is)
    (case a4 => k_is)
    (case l4 => k_is)
    (case c4 => k_is)
    (case k4 => k_is)
    (case a5 => k_is)
    (case l5 => k_is)
    (case c5 => k_is)
    (case k5 => k_is)
    (case a6 => k_is)
    (case l6 => k_is)
    (case c6 => k_is)
    (case k6 => k_is)
    (case a7 => k_is)
    (case l7 => k_is)
    (case c7 => k_is)
    (case k7 => k_is)
    (case a8 => k_is)
    (case l8 => k_is)
    (case c8 => k_is)
    (case k8 => k_is)
    (case a9 => k_is)
    (case l9 => k_is)
    (case c9 => k_is)
    (case k9 => k_is)
    (case a10 => k_is)
    (case l10 => k_is)
    (case c10 => k_is)
    (case k10 => k_is)
    (case a11 => k_is)
    (case l11 => k_is)
    (case c11 => k_is)
    (case k11 => k_is)
    (case z0 => k_is)
    (case z1 => k_is)
    (case z2 => k_is)
    (case z3 => k_is)
    (case z4 => k_is)
    (case z5 => k_is)
    (case z6 => k_is)
    (case z7 => k_is)
    (case z8 => k_is)
    (case z9 => k_is)
    (case z10 => k_is)
    (case z11 => k_is)
    (case z12 => k_is)
#print axioms PySem.Challenge.cw_paperrows_k04_whole_led_in_steps_holds
