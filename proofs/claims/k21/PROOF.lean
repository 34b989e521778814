import PyProof.Rows.All
import Wide.All
import OpenK.AllK
import Wide.FinOn
import HandS.ForMost
import HandS.Zip0
import HandS.Zip
import HandS.Walk
import HandS.TupMul
import HandS.IsInst
import HandS.Wide
import HandS.WideMore
import HandS.TupLe
import HandS.TupAny
import HandS.ForExc
import HandS.Codes
import HandS.HotCalls
import HandS.ExcIs
import HandS.Lambda
import HandS.EndOwn
import HandS.CallSlots
import HandS.WordsExc
import KE.KTryMore
import PyProof.StrOps2
import HandS.Deep
import HandS.SortInts
import HandS.Style
import HandS.Flow
import HandS.Text
import HandS.Dict
import HandS.More
import HandS.Star
import PySem.Challenge.RW_paperrows_k21_sums_and_nevers
set_option Elab.async false
set_option linter.all false
set_option maxRecDepth 100000
set_option maxHeartbeats 8000000
/-! zip of a list or tuple with a list or tuple -/
namespace ZG
open PySem PySem.Spec PyProof.Rows L2
/-- a tuple (true) or a list (false) stands at l -/
def SeqH : Bool → Heap → Addr → Array Value → Prop
  | true, h, l, xs => h.IsTuple l xs
  | false, h, l, xs => h.IsList l xs
def IterH : Bool → Heap → Addr → Addr → Nat → Prop
  | true, h, it, l, k => h.IsTupleIter it l k
  | false, h, it, l, k => h.IsListIter it l k
def itName : Bool → String
  | true => "tuple_iterator"
  | false => "list_iterator"
def itObj (t : Bool) (l : Addr) : Obj := { cls := .type (itName t), data := .fields #[.ref l, .int 0 0] }
section
variable {prog : Program} {w : World} {A : Around} {E : Value → Shared → Prop} {st : Shared}
theorem SeqH.eb {t : Bool} {h g : Heap} {b l : Addr} {xs : Array Value} (q : SeqH t h l xs) (e : Heap.ExtBut b h g) (n : l ≠ b) : SeqH t g l xs := by
  cases t
  · exact Heap.IsList.extBut q e n
  · exact Heap.IsTuple.extBut q e n
theorem IterH.eb {t : Bool} {h g : Heap} {b it l : Addr} {k : Nat} (q : IterH t h it l k) (e : Heap.ExtBut b h g) (n : it ≠ b) : IterH t g it l k := by
  cases t
  · exact Heap.IsListIter.extBut q e n
  · exact Heap.IsTupleIter.extBut q e n
theorem IterH.to {t : Bool} {h g : Heap} {it l : Addr} {k : Nat} (q : IterH t h it l k) (e : ∀ o, h.get? it = some o → g.get? it = some o) : IterH t g it l k := by
  cases t
  · exact Heap.IsListIter.at q e
  · exact Heap.IsTupleIter.at q e
theorem IterH.lt {t : Bool} {h : Heap} {it l : Addr} {k : Nat} (q : IterH t h it l k) : it < h.objs.size := by
  cases t
  · obtain ⟨_, e, _⟩ := q
    exact Heap.lt_size e
  · obtain ⟨_, e, _⟩ := q
    exact Heap.lt_size e
theorem IterH.plain {t : Bool} {h : Heap} {it l : Addr} {k : Nat} (q : IterH t h it l k) : ∃ o, h.get? it = some o ∧ ∀ v, o.data ≠ .cell v := by
  cases t
  · obtain ⟨o, e, _, d⟩ := q
    exact ⟨o, e, fun v z => by rw [d] at z; cases z⟩
  · obtain ⟨o, e, _, d⟩ := q
    exact ⟨o, e, fun v z => by rw [d] at z; cases z⟩
theorem SeqH.psh {t : Bool} {h : Heap} {l : Addr} {xs : Array Value} (q : SeqH t h l xs) (o : Obj) : SeqH t (h.push o) l xs := by
  cases t
  · exact Heap.IsList.push q o
  · exact Heap.IsTuple.push q o
theorem nextG {t : Bool} {it l : Addr} {i : Nat} {its : Array Value} {x : Value} {Q : Value → Shared → Prop} (q1 : IterH t st.heap it l i)
    (q2 : SeqH t st.heap l its) (q3 : its[i]? = some x) (q4 : ∀ h', IterH t h' it l (i + 1) → Heap.SameBut it st.heap h' → Q x { st with heap := h' }) :
    wpAny (model prog w) A (Builtin.SmallTypes.nextOf (.ref it)) Q E st := by
  cases t
  · exact wpAny_nextOf_list_item q1 q2 q3 q4
  · exact RZ.nextOf_tuple_item q1 q2 q3 q4
theorem stopG {t : Bool} {it l : Addr} {i : Nat} {its : Array Value} {Q : Value → Shared → Prop} (q0 : A.handled = none) (q1 : IterH t st.heap it l i)
    (q2 : SeqH t st.heap l its) (q3 : its[i]? = none) (q4 : ∀ h' e, Heap.ExtBut it st.heap h' → (∃ o, h'.get? e = some o ∧ o.cls = .type "StopIteration") → E (.ref e) { st with heap := h' }) :
    wpAny (model prog w) A (Builtin.SmallTypes.nextOf (.ref it)) Q E st := by
  cases t
  · exact wpAny_nextOf_list_end q0 q1 q2 q3 q4
  · exact RZ.nextOf_tuple_end q0 q1 q2 q3 q4
theorem iterG {t : Bool} {l : Addr} {its : Array Value} {Q : Value → Shared → Prop} (q : SeqH t st.heap l its) (r : Q (.ref st.heap.objs.size) { st with heap := st.heap.push (itObj t l) }) :
    wpAny (model prog w) A (pyIter (.ref l)) Q E st := by
  cases t
  · exact wpAny_pyIter_list q r
  · exact wpAny_pyIter_tuple q r
theorem IterH.fresh (t : Bool) {h : Heap} {it l : Addr} (q : h.get? it = some (itObj t l)) : IterH t h it l 0 := by
  cases t
  · exact ⟨_, q, rfl, rfl⟩
  · exact ⟨_, q, rfl, rfl⟩
end
end ZG

namespace ZG
open PySem PySem.Spec PyProof.Rows L2
section
variable {prog : Program} {w : World} {A : Around} {E : Value → Shared → Prop} {st : Shared}
theorem zipG_item {ta tb : Bool} {zz ti tO ia ib la lb : Addr} {ka kb : Nat} {va vb : Array Value} {x y a b : Value} {Q : Value → Shared → Prop} (D : ZipApart zz ti tO ia ib la lb)
    (gz : IsZip st.heap zz ti tO .none) (gi : IsPair st.heap ti (.ref ia) (.ref ib)) (gO : IsPair st.heap tO a b)
    (ga : IterH ta st.heap ia la ka) (gb : IterH tb st.heap ib lb kb) (sa : SeqH ta st.heap la va) (sb : SeqH tb st.heap lb vb) (ex : va[ka]? = some x) (ey : vb[kb]? = some y)
    (gQ : ∀ h', IsZip h' zz ti tO (rawInt st.heap.objs.size) → IsPair h' tO x y → IterH ta h' ia la (ka + 1) → IterH tb h' ib lb (kb + 1) → IsPair h' st.heap.objs.size x y → h'.objs.size = st.heap.objs.size + 1 →
      (∀ c o, c ≠ zz → c ≠ tO → c ≠ ia → c ≠ ib → st.heap.get? c = some o → h'.get? c = some o) → Q (.ref st.heap.objs.size) { st with heap := h' }) :
    wpAny (model prog w) A (Builtin.«zip.__next__» ⟨[.ref zz], []⟩) (fun fin s' => ∃ v, fin = .done (.ret v) ∧ Q v s') E st := by
  show wpAny _ _ (field (.ref zz) 2 >>= _) _ _ _
  refine wpAny_bind (wpAny_field gz rfl (x := .bool false) rfl ?_)
  show wpAny _ _ (field (.ref zz) 3 >>= _) _ _ _
  refine wpAny_bind (wpAny_field gz rfl (x := .ref ti) rfl ?_)
  refine wpAny_bind (wpAny_seqItems gi rfl ?_)
  show wpAny _ _ (Builtin.SmallTypes.ownedTupleIsFree (.ref zz) >>= _) _ _ _
  refine wpAny_bind ?_
  unfold Builtin.SmallTypes.ownedTupleIsFree
  refine wpAny_bind (wpAny_field gz rfl (x := .none) rfl (wpAny_pure ?_))
  simp only [if_true]
  refine wpAny_bind (wpAny_rule ?_)
  refine wpAny_bind (wpAny_field gz rfl (x := .ref tO) rfl ?_)
  refine wpAny_bind (wpAny_setField_rec gz (by simp) fun j1 z1 m1 => ?_)
  replace z1 : IsZip j1 zz ti tO .ellipsis := z1
  refine wpAny_bind ?_
  simp only [List.forIn_cons, List.forIn_nil, List.zipIdx_cons, List.zipIdx_nil]
  refine wpAny_bind (wpAny_bind (wpAny_onRaise ?_))
  show wpAny _ _ (Builtin.SmallTypes.nextOf (.ref ia) >>= _) _ _ _
  refine wpAny_bind (nextG (ga.eb m1.extBut D.i1z) (sa.eb m1.extBut D.l1z) ex fun j2 i2 m2 => wpAny_pure ?_)
  have o2 : IsPair j2 tO a b := m2.extBut _ _ D.TOi1 (m1.extBut _ _ D.TOz gO)
  refine wpAny_bind (wpAny_seqItems o2 rfl ?_)
  refine wpAny_bind (wpAny_updateSeq_pair o2 fun j3 o3 m3 => ?_)
  replace o3 : IsPair j3 tO x b := o3
  refine wpAny_bind (wpAny_letGo (wpAny_pure ?_))
  refine wpAny_bind (wpAny_bind (wpAny_onRaise ?_))
  show wpAny _ _ (Builtin.SmallTypes.nextOf (.ref ib) >>= _) _ _ _
  refine wpAny_bind (nextG (((gb.eb m1.extBut D.i2z).eb m2.extBut D.i12.symm).eb m3.extBut D.TOi2.symm)
    (((sb.eb m1.extBut D.l2z).eb m2.extBut D.l2i1).eb m3.extBut D.l2TO) ey fun j4 i4 m4 => wpAny_pure ?_)
  have o4 : IsPair j4 tO x b := m4.extBut _ _ D.TOi2 o3
  refine wpAny_bind (wpAny_seqItems o4 rfl ?_)
  refine wpAny_bind (wpAny_updateSeq_pair o4 fun j5 o5 m5 => ?_)
  replace o5 : IsPair j5 tO x y := o5
  refine wpAny_bind (wpAny_letGo (wpAny_pure (wpAny_pure ?_)))
  refine wpAny_bind (wpAny_seqItems o5 rfl ?_)
  refine wpAny_bind (wpAny_newTuple ?_)
  have es : j5.objs.size = st.heap.objs.size := by rw [m5.1, m4.1, m3.1, m2.1, m1.1]
  have z5 : IsZip j5 zz ti tO .ellipsis := m5.extBut _ _ D.TOz.symm (m4.extBut _ _ D.i2z.symm (m3.extBut _ _ D.TOz.symm (m2.extBut _ _ D.i1z.symm z1)))
  have k5 : ∀ c o, c ≠ zz → c ≠ tO → c ≠ ia → c ≠ ib → st.heap.get? c = some o → j5.get? c = some o := fun c o c1 c2 c3 c4 e =>
    m5.extBut _ _ c2 (m4.extBut _ _ c4 (m3.extBut _ _ c2 (m2.extBut _ _ c3 (m1.extBut _ _ c1 e))))
  have a5 : IterH ta j5 ia la (ka + 1) := ((i2.eb m3.extBut D.TOi1.symm).eb m4.extBut D.i12).eb m5.extBut D.TOi1.symm
  have b5 : IterH tb j5 ib lb (kb + 1) := i4.eb m5.extBut D.TOi2.symm
  have lz : zz < j5.objs.size := Heap.lt_size z5
  show wpAny _ _ (Builtin.SmallTypes.ownedTupleHandOut (.ref zz) (.ref j5.objs.size) >>= _) _ _ _
  refine wpAny_bind ?_
  unfold Builtin.SmallTypes.ownedTupleHandOut
  have z6 : IsZip (j5.push { cls := .type "tuple", data := .seq #[x, y] }) zz ti tO .ellipsis := Heap.get?_push_of_some _ z5
  refine wpAny_bind (wpAny_setField_rec z6 (by simp) fun j7 z7 m7 => ?_)
  replace z7 : IsZip j7 zz ti tO (rawInt j5.objs.size) := z7
  refine wpAny_setField_rec z7 (by simp) fun j8 z8 m8 => ?_
  replace z8 : IsZip j8 zz ti tO (rawInt j5.objs.size) := z8
  have up : ∀ c o, c ≠ zz → j5.get? c = some o → j8.get? c = some o := fun c o c1 e => m8.extBut _ _ c1 (m7.extBut _ _ c1 (Heap.get?_push_of_some _ e))
  have t8 : IsPair j8 j5.objs.size x y := m8.extBut _ _ (Nat.ne_of_gt lz) (m7.extBut _ _ (Nat.ne_of_gt lz) (Heap.get?_push_size _ rfl))
  have s8 : j8.objs.size = j5.objs.size + 1 := by rw [m8.1, m7.1, Heap.size_push]
  rw [es] at z8 t8 s8
  refine wpAny_pure ⟨_, rfl, ?_⟩
  show Q (.ref j5.objs.size) _
  rw [es]
  exact gQ j8 z8 (up _ _ D.TOz o5) (a5.to fun o e => up _ o D.i1z e) (b5.to fun o e => up _ o D.i2z e) t8 s8 fun c o c1 c2 c3 c4 e => up c o c1 (k5 c o c1 c2 c3 c4 e)
theorem zipG_end {ta tb : Bool} {zz ti tO ia ib la lb : Addr} {ka kb : Nat} {va vb : Array Value} {a b : Value} {Q : Fin → Shared → Prop} (g0 : A.handled = none) (D : ZipApart zz ti tO ia ib la lb)
    (gz : IsZip st.heap zz ti tO .none) (gi : IsPair st.heap ti (.ref ia) (.ref ib)) (gO : IsPair st.heap tO a b)
    (ga : IterH ta st.heap ia la ka) (gb : IterH tb st.heap ib lb kb) (sa : SeqH ta st.heap la va) (sb : SeqH tb st.heap lb vb) (he : va[ka]? = none ∨ vb[kb]? = none)
    (gE : ∀ h' e, (∀ c o, c ≠ zz → c ≠ tO → c ≠ ia → c ≠ ib → st.heap.get? c = some o → h'.get? c = some o) → (∃ o, h'.get? e = some o ∧ o.cls = .type "StopIteration") → E (.ref e) { st with heap := h' }) :
    wpAny (model prog w) A (Builtin.«zip.__next__» ⟨[.ref zz], []⟩) Q E st := by
  show wpAny _ _ (field (.ref zz) 2 >>= _) _ _ _
  refine wpAny_bind (wpAny_field gz rfl (x := .bool false) rfl ?_)
  show wpAny _ _ (field (.ref zz) 3 >>= _) _ _ _
  refine wpAny_bind (wpAny_field gz rfl (x := .ref ti) rfl ?_)
  refine wpAny_bind (wpAny_seqItems gi rfl ?_)
  show wpAny _ _ (Builtin.SmallTypes.ownedTupleIsFree (.ref zz) >>= _) _ _ _
  refine wpAny_bind ?_
  unfold Builtin.SmallTypes.ownedTupleIsFree
  refine wpAny_bind (wpAny_field gz rfl (x := .none) rfl (wpAny_pure ?_))
  simp only [if_true]
  refine wpAny_bind (wpAny_rule ?_)
  refine wpAny_bind (wpAny_field gz rfl (x := .ref tO) rfl ?_)
  refine wpAny_bind (wpAny_setField_rec gz (by simp) fun j1 z1 m1 => ?_)
  replace z1 : IsZip j1 zz ti tO .ellipsis := z1
  refine wpAny_bind ?_
  simp only [List.forIn_cons, List.forIn_nil, List.zipIdx_cons, List.zipIdx_nil]
  refine wpAny_bind (wpAny_bind (wpAny_onRaise ?_))
  show wpAny _ _ (Builtin.SmallTypes.nextOf (.ref ia) >>= _) _ _ _
  cases ex : va[ka]? with
  | none =>
    refine wpAny_bind (stopG g0 (ga.eb m1.extBut D.i1z) (sa.eb m1.extBut D.l1z) ex fun j2 e m2 ge => ?_)
    obtain ⟨oe, goe, gce⟩ := ge
    have z2 : IsZip j2 zz ti tO .ellipsis := m2 _ _ D.i1z.symm z1
    have nez : e ≠ zz := fun x => by subst x; rw [z2] at goe; cases goe; simp at gce
    refine wpAny_setField_rec z2 (by simp) fun j3 _ m3 => gE j3 e (fun c o c1 _ c3 _ x => m3.extBut _ _ c1 (m2 _ _ c3 (m1.extBut _ _ c1 x))) ⟨oe, m3.extBut _ _ nez goe, gce⟩
  | some x =>
    have ey : vb[kb]? = none := by
      rcases he with h | h
      · rw [ex] at h
        cases h
      · exact h
    refine wpAny_bind (nextG (ga.eb m1.extBut D.i1z) (sa.eb m1.extBut D.l1z) ex fun j2 i2 m2 => wpAny_pure ?_)
    have o2 : IsPair j2 tO a b := m2.extBut _ _ D.TOi1 (m1.extBut _ _ D.TOz gO)
    refine wpAny_bind (wpAny_seqItems o2 rfl ?_)
    refine wpAny_bind (wpAny_updateSeq_pair o2 fun j3 o3 m3 => ?_)
    refine wpAny_bind (wpAny_letGo (wpAny_pure ?_))
    refine wpAny_bind (wpAny_bind (wpAny_onRaise ?_))
    show wpAny _ _ (Builtin.SmallTypes.nextOf (.ref ib) >>= _) _ _ _
    refine wpAny_bind (stopG g0 (((gb.eb m1.extBut D.i2z).eb m2.extBut D.i12.symm).eb m3.extBut D.TOi2.symm)
      (((sb.eb m1.extBut D.l2z).eb m2.extBut D.l2i1).eb m3.extBut D.l2TO) ey fun j4 e m4 ge => ?_)
    obtain ⟨oe, goe, gce⟩ := ge
    have z4 : IsZip j4 zz ti tO .ellipsis := m4 _ _ D.i2z.symm (m3.extBut _ _ D.TOz.symm (m2.extBut _ _ D.i1z.symm z1))
    have nez : e ≠ zz := fun x => by subst x; rw [z4] at goe; cases goe; simp at gce
    refine wpAny_setField_rec z4 (by simp) fun j5 _ m5 => gE j5 e (fun c o c1 c2 c3 c4 x => m5.extBut _ _ c1 (m4 _ _ c4 (m3.extBut _ _ c2 (m2.extBut _ _ c3 (m1.extBut _ _ c1 x))))) ⟨oe, m5.extBut _ _ nez goe, gce⟩
theorem pyNextG_item {ta tb : Bool} {zz ti tO ia ib la lb : Addr} {ka kb : Nat} {va vb : Array Value} {x y a b : Value} {Q : Option Value → Shared → Prop} (D : ZipApart zz ti tO ia ib la lb)
    (gz : IsZip st.heap zz ti tO .none) (gi : IsPair st.heap ti (.ref ia) (.ref ib)) (gO : IsPair st.heap tO a b)
    (ga : IterH ta st.heap ia la ka) (gb : IterH tb st.heap ib lb kb) (sa : SeqH ta st.heap la va) (sb : SeqH tb st.heap lb vb) (ex : va[ka]? = some x) (ey : vb[kb]? = some y)
    (gQ : ∀ h', IsZip h' zz ti tO (rawInt st.heap.objs.size) → IsPair h' tO x y → IterH ta h' ia la (ka + 1) → IterH tb h' ib lb (kb + 1) → IsPair h' st.heap.objs.size x y → h'.objs.size = st.heap.objs.size + 1 →
      (∀ c o, c ≠ zz → c ≠ tO → c ≠ ia → c ≠ ib → st.heap.get? c = some o → h'.get? c = some o) → Q (some (.ref st.heap.objs.size)) { st with heap := h' }) :
    wpAny (model prog w) A (pyNext (.ref zz)) Q E st := by
  have tz : st.TypeIs (.ref zz) "zip" := ⟨_, gz, rfl⟩
  unfold pyNext
  exact wpAny_bind (wpAny_attempt (wpAny_callSpecial?_slot (name := Str.ofString "__next__") tz F.slot_zip_next
    (wpAny_call_entry F.slot_zip_next tz F.entry_zip_next
      (zipG_item D gz gi gO ga gb sa sb ex ey fun h' a1 a2 a3 a4 a5 a6 a7 => wpAny_pure (gQ h' a1 a2 a3 a4 a5 a6 a7)) (F.args_zip_next_1 _))))
theorem pyNextG_end {ta tb : Bool} {zz ti tO ia ib la lb : Addr} {ka kb : Nat} {va vb : Array Value} {a b : Value} {Q : Option Value → Shared → Prop} (g0 : A.handled = none) (D : ZipApart zz ti tO ia ib la lb)
    (gz : IsZip st.heap zz ti tO .none) (gi : IsPair st.heap ti (.ref ia) (.ref ib)) (gO : IsPair st.heap tO a b)
    (ga : IterH ta st.heap ia la ka) (gb : IterH tb st.heap ib lb kb) (sa : SeqH ta st.heap la va) (sb : SeqH tb st.heap lb vb) (he : va[ka]? = none ∨ vb[kb]? = none)
    (gQ : ∀ h', (∀ c o, c ≠ zz → c ≠ tO → c ≠ ia → c ≠ ib → st.heap.get? c = some o → h'.get? c = some o) → Q none { st with heap := h' }) : wpAny (model prog w) A (pyNext (.ref zz)) Q E st := by
  have tz : st.TypeIs (.ref zz) "zip" := ⟨_, gz, rfl⟩
  unfold pyNext
  refine wpAny_bind (wpAny_attempt (wpAny_callSpecial?_slot (name := Str.ofString "__next__") tz F.slot_zip_next
    (wpAny_call_entry F.slot_zip_next tz F.entry_zip_next (zipG_end g0 D gz gi gO ga gb sa sb he fun h' e gk ge => ?_) (F.args_zip_next_1 _))))
  obtain ⟨o, go, gc⟩ := ge
  refine wpAny_bind (wpAny_isInstance (T := "StopIteration") (b := true) ⟨o, go, gc⟩ isSubtype_stop ?_)
  exact wpAny_pure (gQ _ gk)
end
abbrev gz1 (ta : Bool) (h : Heap) (la : Addr) : Heap := h.push (itObj ta la)
abbrev gz2 (ta tb : Bool) (h : Heap) (la lb : Addr) : Heap := (gz1 ta h la).push (itObj tb lb)
abbrev gz3 (ta tb : Bool) (h : Heap) (la lb : Addr) : Heap := (gz2 ta tb h la lb).push { cls := .type "tuple", data := .seq #[.ref h.objs.size, .ref (gz1 ta h la).objs.size] }
abbrev gz4 (ta tb : Bool) (h : Heap) (la lb : Addr) : Heap := (gz3 ta tb h la lb).push { cls := .type "tuple", data := .seq #[.none, .none] }
abbrev gz5 (ta tb : Bool) (h : Heap) (la lb : Addr) : Heap := (gz4 ta tb h la lb).push { cls := .type "zip", data := .fields #[.none, .bool false, .bool false, .ref (gz2 ta tb h la lb).objs.size, .ref (gz3 ta tb h la lb).objs.size] }
theorem meetsG (ta tb : Bool) (la lb : Addr) (va vb : Array Value) :
    Meets (Builtin.«zip.__new__» ⟨[.type "zip", .ref la, .ref lb], []⟩) (fun _ R s => SeqH ta s.heap la va ∧ SeqH tb s.heap lb vb ∧
      R (.ok (.ret (.ref (gz4 ta tb s.heap la lb).objs.size))) { s with heap := gz5 ta tb s.heap la lb }) :=
  .of_wp fun prog w A R s h => by
    obtain ⟨hp, g, d, tk, os⟩ := s
    obtain ⟨sa, sb, h⟩ := h
    have hsub := sub_zip
    have ha : SeqH ta (Shared.heap ⟨hp, g, d, tk, os⟩) la va := sa
    have hb : SeqH tb (Shared.heap ⟨hp.push (itObj ta la), g, d, tk, os⟩) lb vb := sb.psh _
    wp_walk using iterG ha, iterG hb
    exact ⟨_, rfl, h⟩
section
variable {prog : Program} {w : World} {A : Around} {E : Value → Shared → Prop} {st : Shared}
theorem callG {ta tb : Bool} {la lb : Addr} {va vb : Array Value} {Q : Value → Shared → Prop} (sa : SeqH ta st.heap la va) (sb : SeqH tb st.heap lb vb)
    (h : ∀ h', IsZip h' (st.heap.objs.size + 4) (st.heap.objs.size + 2) (st.heap.objs.size + 3) .none → IsPair h' (st.heap.objs.size + 2) (.ref st.heap.objs.size) (.ref (st.heap.objs.size + 1)) →
      IsPair h' (st.heap.objs.size + 3) .none .none → IterH ta h' st.heap.objs.size la 0 → IterH tb h' (st.heap.objs.size + 1) lb 0 → h'.objs.size = st.heap.objs.size + 5 →
      (∀ c o, st.heap.get? c = some o → h'.get? c = some o) → Q (.ref (st.heap.objs.size + 4)) { st with heap := h' }) :
    wpAny (model prog w) A (call (.type "zip") [.ref la, .ref lb]) Q E st := by
  refine callType_new F.called_zip (by decide) (F.typeCall_zip_2 _ _) (F.newCall_zip_2 _ _) (fun obj => F.args_object_init_3 obj _ _) F.entry_zip_new
    (meetsG ta tb la lb va vb) ⟨sa, sb, ?_⟩
  have z1 : (gz1 ta st.heap la).objs.size = st.heap.objs.size + 1 := Heap.size_push ..
  have z2 : (gz2 ta tb st.heap la lb).objs.size = st.heap.objs.size + 2 := by rw [Heap.size_push, z1]
  have z3 : (gz3 ta tb st.heap la lb).objs.size = st.heap.objs.size + 3 := by rw [Heap.size_push, z2]
  have z4 : (gz4 ta tb st.heap la lb).objs.size = st.heap.objs.size + 4 := by rw [Heap.size_push, z3]
  have z5 : (gz5 ta tb st.heap la lb).objs.size = st.heap.objs.size + 5 := by rw [Heap.size_push, z4]
  have g5 : (gz5 ta tb st.heap la lb).get? (gz4 ta tb st.heap la lb).objs.size = some _ := Heap.get?_push_size _ rfl
  have g4 : (gz5 ta tb st.heap la lb).get? (gz3 ta tb st.heap la lb).objs.size = some _ := Heap.get?_push_of_some _ (Heap.get?_push_size _ rfl)
  have g3 : (gz5 ta tb st.heap la lb).get? (gz2 ta tb st.heap la lb).objs.size = some _ := Heap.get?_push_of_some _ (Heap.get?_push_of_some _ (Heap.get?_push_size _ rfl))
  have g2 : (gz5 ta tb st.heap la lb).get? (gz1 ta st.heap la).objs.size = some _ := Heap.get?_push_of_some _ (Heap.get?_push_of_some _ (Heap.get?_push_of_some _ (Heap.get?_push_size _ (by rfl))))
  have g1 : (gz5 ta tb st.heap la lb).get? st.heap.objs.size = some _ := Heap.get?_push_of_some _ (Heap.get?_push_of_some _ (Heap.get?_push_of_some _ (Heap.get?_push_of_some _ (Heap.get?_push_size _ (by rfl)))))
  show _ ∧ _
  rw [z2, z3, z4] at g5
  rw [z1, z2] at g3
  rw [z3] at g4
  rw [z1] at g2
  rw [z4]
  exact ⟨⟨_, g5, rfl⟩, h _ g5 g3 g4 (IterH.fresh ta g1) (IterH.fresh tb g2) z5 fun c o x =>
    Heap.get?_push_of_some _ (Heap.get?_push_of_some _ (Heap.get?_push_of_some _ (Heap.get?_push_of_some _ (Heap.get?_push_of_some _ x))))⟩
end
/-! ### at the layer's level -/
def SqG : Bool → PySem.W.Frag → Hp → Addr → List V → Prop
  | true, K, H, a, xs => SqT K H a xs
  | false, K, H, a, xs => SqL K H a xs
theorem SqG.inv {X : Cx} {pins : List (Addr × Obj)} {σ : L2.St} {H : Hp} {s : Shared} {t : Bool} {a : Addr} {xs : List V} (q : SqG t X.K H a xs) (I : Inv X pins σ H s) : ∃ its : List Value, Vals xs its ∧ SeqH t s.heap a its.toArray := by
  cases t
  · obtain ⟨its, rv, p, _⟩ := I.list q
    exact ⟨its, rv, p.isList⟩
  · obtain ⟨its, rv, p, _⟩ := I.tuple q
    exact ⟨its, rv, p⟩
theorem SqG.inj {X : Cx} {pins : List (Addr × Obj)} {σ : L2.St} {H : Hp} {s : Shared} {t : Bool} {a : Addr} {xs ys : List V} (q : SqG t X.K H a xs) (q' : SqG t X.K H a ys) (I : Inv X pins σ H s) : xs = ys := by
  cases t
  · exact I.list_inj q q'
  · exact I.tuple_inj q q'
theorem SeqH.lt {t : Bool} {h : Heap} {l : Addr} {xs : Array Value} (q : SeqH t h l xs) : l < h.objs.size := by
  cases t
  · obtain ⟨_, e⟩ := q
    first | exact Heap.lt_size e.1 | exact Heap.lt_size e.choose_spec.1
  · obtain ⟨_, e, _⟩ := q
    exact Heap.lt_size e
/-- what stands at a and at b, of the kinds ta and tb, in new pairs -/
def ItG (K : PySem.W.Frag) (ta tb : Bool) (a b : Addr) : It :=
  ⟨fun i H => ∃ (xs ys : List V) (x y : V), SqG ta K H a xs ∧ SqG tb K H b ys ∧ xs[i]? = some x ∧ ys[i]? = some y,
    fun i H v H' => ∃ T x y, v = .ref T ∧ H T = none ∧ H' = upd H T (.tup [x, y]) ∧ (∀ xs, SqG ta K H a xs → xs[i]? = some x) ∧ ∀ ys, SqG tb K H b ys → ys[i]? = some y,
    fun i H => ∃ xs ys : List V, SqG ta K H a xs ∧ SqG tb K H b ys ∧ (xs.length ≤ i ∨ ys.length ≤ i)⟩
theorem turnG {P : Program} {w : World} {K : PySem.W.Frag} {elts : List Expr} {kk : Nat} {tpos : Pos} {ta tb : Bool} {a b zz ti tO ia ib : Addr} (D : ZipApart zz ti tO ia ib a b) :
    Turn P w K (.Tuple elts kk tpos) (ItG K ta tb a b) [zz, ti, tO, ia, ib] zz (fun i h => IsZip h zz ti tO .none ∧ IsPair h ti (.ref ia) (.ref ib) ∧ (∃ x y, IsPair h tO x y) ∧ IterH ta h ia a i ∧ IterH tb h ib b i) where
  mem := by simp
  obj := fun i h st c hc => by
    obtain ⟨gz, gi, ⟨x, y, gO⟩, ga, gb⟩ := st
    have e' : c = zz ∨ c = ti ∨ c = tO ∨ c = ia ∨ c = ib := by simpa using hc
    rcases e' with q | q | q | q | q
    · subst q; exact ⟨_, gz, fun v q => nomatch q⟩
    · subst q; exact ⟨_, gi, fun v q => nomatch q⟩
    · subst q; exact ⟨_, gO, fun v q => nomatch q⟩
    · subst q; exact ga.plain
    · subst q; exact gb.plain
  keep := fun i h h' st k => by
    obtain ⟨gz, gi, ⟨x, y, gO⟩, ga, gb⟩ := st
    exact ⟨k zz (by simp) _ gz, k ti (by simp) _ gi, ⟨x, y, k tO (by simp) _ gO⟩, ga.to fun o q => k ia (by simp) o q, gb.to fun o q => k ib (by simp) o q⟩
  item := by
    intro X hP hw hK hc i pins s σ H E I hf st hg
    subst hP hw hK
    obtain ⟨gz, gi, ⟨x0, y0, gO⟩, ga, gb⟩ := st
    obtain ⟨xs, ys, x, y, qx, qy, ex, ey⟩ := hg
    obtain ⟨its, rv, p⟩ := qx.inv I
    obtain ⟨its2, rv2, p2⟩ := qy.inv I
    obtain ⟨u, hu, ru⟩ := rv.get ex
    obtain ⟨u2, hu2, ru2⟩ := rv2.get ey
    have lz : zz < s.heap.objs.size := Heap.lt_size gz
    refine pyNextG_item D gz gi gO ga gb p p2 (x := u) (y := u2) (by simpa using hu) (by simpa using hu2) fun h' z' o' a' b' hT hsz hk => ?_
    refine ⟨_, rfl, wpAny_letOwnedTupleGo_zip (s := { s with heap := h' }) z' fun h'' z'' sb => ?_⟩
    have hT2 : h''.get? s.heap.objs.size = some { cls := .type "tuple", data := .seq #[u, u2] } := (sb.2 _ (Nat.ne_of_gt lz)).trans hT
    have new : ObjOk X.prog X.w (upd H s.heap.objs.size (.tup [x, y])) h'' s.heap.objs.size (.tup [x, y]) :=
      ⟨(by decide : 2 ≤ sizeLine), [u, u2], .cons ru (.cons ru2 .nil), ⟨_, hT2, rfl, _, rfl⟩⟩
    have I1 : Inv X pins σ (upd H s.heap.objs.size (.tup [x, y])) { s with heap := h'' } :=
      I.turnedNew (t' := s.toks) (ch := [zz, ti, tO, ia, ib]) (fun c o hb q => (sb.2 c (fun q' => hb (by simp [q']))).trans (hk c o (fun q' => hb (by simp [q'])) (fun q' => hb (by simp [q'])) (fun q' => hb (by simp [q'])) (fun q' => hb (by simp [q'])) q)) hf (Nat.le_refl _) new
    refine ⟨.ref s.heap.objs.size, _, I1, rfl, ⟨_, x, y, rfl, I.hok.fresh (Nat.le_refl _), rfl, fun l hl => by rw [SqG.inj hl qx I]; exact ex, fun l hl => by rw [SqG.inj hl qy I]; exact ey⟩, ⟨z'', ?_, ⟨u, u2, ?_⟩, ?_, ?_⟩, fun c hcm => ?_⟩
    · exact (sb.2 _ D.TIz).trans (hk _ _ D.TIz D.TITO D.TIi1 D.TIi2 gi)
    · exact (sb.2 _ D.TOz).trans o'
    · exact a'.to fun o q => (sb.2 _ D.i1z).trans q
    · exact b'.to fun o q => (sb.2 _ D.i2z).trans q
    · have lc : c < s.heap.objs.size := by
        have e' : c = zz ∨ c = ti ∨ c = tO ∨ c = ia ∨ c = ib := by simpa using hcm
        rcases e' with q | q | q | q | q
        · subst q; exact lz
        · subst q; exact Heap.lt_size gi
        · subst q; exact Heap.lt_size gO
        · subst q; exact ga.lt
        · subst q; exact gb.lt
      rw [upd_ne (Nat.ne_of_lt lc)]
      exact (hf c hcm).1
  done := by
    intro X hP hw hK hc i pins s σ H E I hf st hg
    subst hP hw hK
    obtain ⟨gz, gi, ⟨x0, y0, gO⟩, ga, gb⟩ := st
    obtain ⟨xs, ys, qx, qy, hend⟩ := hg
    obtain ⟨its, rv, p⟩ := qx.inv I
    obtain ⟨its2, rv2, p2⟩ := qy.inv I
    have l1 := rv.length
    have l2 := rv2.length
    have he : its.toArray[i]? = none ∨ its2.toArray[i]? = none := by
      rcases hend with q | q
      · left; simp; omega
      · right; simp; omega
    exact pyNextG_end (I.ok.hd hc) D gz gi gO ga gb p p2 he fun h' hk => ⟨rfl, I.turnedL (t' := s.toks) (ch := [zz, ti, tO, ia, ib]) (fun c o hb q =>
      hk c o (fun q' => hb (by simp [q'])) (fun q' => hb (by simp [q'])) (fun q' => hb (by simp [q'])) (fun q' => hb (by simp [q'])) q) hf⟩
  self := fun A i s Q E st h => wpAny_pyIter_zip st.1 h
def iZipG (K : PySem.W.Frag) (ta : TA) : TI := fun σ H R => ta σ H fun vs H1 => ∃ t1 t2 a b xs ys, vs = [.ref a, .ref b] ∧ SqG t1 K H1 a xs ∧ SqG t2 K H1 b ys ∧ R (ItG K t1 t2 a b) H1
theorem pi_zipG {X : Cx} {e e2 : Expr} {ta : TA} {p pos tpos : Pos} {elts : List Expr} {kk : Nat} (hg : Gl X "zip") (hm : X.mg "zip" = none) (ha : PA X [e, e2] ta)
    (hs : starEach [e, e2] X.env = (false, eval e X.env) :: starEach [e2] X.env := by rfl) (hpl : (backTo pos (starEach [e2] X.env)).any (fun z => z.1) = false := by rfl) :
    PI X (.Tuple elts kk tpos) (.Call (.Name "zip" p) [e, e2] [] pos) (iZipG X.K ta) := by
  refine ⟨fun pins s σ H R I h => ?_⟩
  refine Call_ (ld_blt I hg hm PyProof.Rows.boot_zip (PyProof.Rows.callWith_type1 (thn (ha.run pos pins s σ H _ I h) fun us s1 ⟨vs, H1, I1, r1, q1⟩ => ?_) hs hpl))
  obtain ⟨t1, t2, a, b, xs, ys, ez, qx, qy, q⟩ := q1
  subst ez
  cases r1 with
  | cons r rr =>
    cases rr with
    | cons r' rr =>
      cases rr
      cases r
      cases r'
      obtain ⟨its, rv, p1⟩ := qx.inv I1
      obtain ⟨its2, rv2, p2⟩ := qy.inv I1
      refine callG p1 p2 fun h' gz gi gO ga gb hsz hk => wpAny_pyIter_zip gz ?_
      have I2 : Inv X pins σ H1 { s1 with heap := h' } := I1.kept (t' := s1.toks) hk
      refine ⟨s1.heap.objs.size + 4, [s1.heap.objs.size + 4, s1.heap.objs.size + 2, s1.heap.objs.size + 3, s1.heap.objs.size, s1.heap.objs.size + 1], _, _, H1, rfl, I2, turnG (PySem.W.ktu_apart s1.heap.objs.size a b p1.lt p2.lt), ⟨gz, gi, ⟨_, _, gO⟩, ga, gb⟩, fun c hcm => ?_, q⟩
      have e' : c = s1.heap.objs.size + 4 ∨ c = s1.heap.objs.size + 2 ∨ c = s1.heap.objs.size + 3 ∨ c = s1.heap.objs.size ∨ c = s1.heap.objs.size + 1 := by simpa using hcm
      have le : s1.heap.objs.size ≤ c := by
        rcases e' with q | q | q | q | q <;> rw [q] <;> first | exact Nat.le_add_right _ _ | exact Nat.le_refl _
      exact I1.fpOk le (I1.hok.fresh le)
theorem walkG {K : PySem.W.Frag} {ta tb : Bool} {a b : Addr} {xs ys : List V} {n : Nat} (hn : n = min xs.length ys.length) : Walk (ItG K ta tb a b) n (fun H => SqG ta K H a xs ∧ SqG tb K H b ys) (YPair (fun i => xs[i]?) (fun i => ys[i]?)) := by
  subst hn
  refine ⟨fun i H hi q => ?_, fun H q => ⟨xs, ys, q.1, q.2, by omega⟩, fun i H v H' hi q y => ?_⟩
  · have g1 : i < xs.length := by omega
    have g2 : i < ys.length := by omega
    exact ⟨xs, ys, xs[i], ys[i], q.1, q.2, by simp [g1], by simp [g2]⟩
  · obtain ⟨T, x, z, e1, e2, e3, e4, e5⟩ := y
    exact ⟨T, x, z, e1, e2, e3, e4 xs q.1, e5 ys q.2⟩
end ZG

namespace ZG
open PySem PySem.Spec PyProof.Rows L2
theorem mul_one (l : Addr) (its : Array Value) (n : Nat) (dd : Option Addr) (sl : Array (Option Value)) (u : Tok) :
    Meets (Builtin.«tuple.__mul__» ⟨[.ref l, .int 1 u], []⟩) (fun _ R s => s.heap.get? l = some { cls := .type "tuple", dict := dd, data := .seq its n, slots := sl } ∧
      R (.ok (.ret (Value.ref l))) s) :=
  .of_wp fun prog w A R s h => by
    obtain ⟨hp, g, d, tk, os⟩ := s
    obtain ⟨hl, h⟩ := h
    have f1 := AutoSeq1.idx_int
    wp_walk using wpAny_loadPart' hl
    exact ⟨_, rfl, h⟩
theorem mul_none (l : Addr) (its : Array Value) (n : Nat) (dd : Option Addr) (sl : Array (Option Value)) (x : Int) (u : Tok) (c0 : (decide (x < -(2 ^ 63)) || decide (x ≥ 2 ^ 63)) = false) (c1 : (its.isEmpty || x == 1) = false) (c2 : (decide (x ≤ 0) || its.isEmpty) = true) :
    Meets (Builtin.«tuple.__mul__» ⟨[.ref l, .int x u], []⟩) (fun _ R s => s.heap.get? l = some { cls := .type "tuple", dict := dd, data := .seq its n, slots := sl } ∧
      R (.ok (.ret (Value.ref s.heap.objs.size))) { s with heap := s.heap.push { cls := Value.type "tuple", data := Data.seq #[] }, toks := s.toks }) :=
  .of_wp fun prog w A R s h => by
    obtain ⟨hp, g, d, tk, os⟩ := s
    obtain ⟨hl, h⟩ := h
    have f1 := AutoSeq1.idx_int
    wp_walk using wpAny_loadPart' hl
    repeat (first
      | (refine wpAny_ite_false (decide_eq_false (by rw [c0]; exact Bool.noConfusion)) ?_; wp_walk using wpAny_loadPart' hl)
      | (refine wpAny_ite_false (decide_eq_false (by rw [c1]; exact Bool.noConfusion)) ?_; wp_walk using wpAny_loadPart' hl)
      | (refine wpAny_ite_true (decide_eq_true c2) ?_; wp_walk using wpAny_loadPart' hl))
    exact ⟨_, rfl, h⟩
def rRepA (K : PySem.W.Frag) : R2 := fun x y H Q => ∃ l k xs, x = .ref l ∧ y = .int k ∧ SqT K H l xs ∧ xs ≠ [] ∧ -1000 ≤ k ∧ k ≤ 1000 ∧ xs.length ≤ 1000 ∧ (k = 1 → Q (.ref l) H) ∧ (k ≠ 1 → ∀ p, H p = none → Q (.ref p) (upd H p (.tup (List.replicate k.toNat xs).flatten)))
section
variable {X : Cx}
theorem op_repA : OpR X (binaryOp .Mult) (rRepA X.K) := by
  intro pins s σ H x y v u Q I rx ry h
  obtain ⟨l, k, xs, rfl, rfl, hT, hne, h0, h2, hz, q1, q2⟩ := h
  by_cases hk : 2 ≤ k
  · exact op_repT pins s σ H _ _ v u Q I rx ry ⟨l, k, xs, rfl, rfl, hT, hne, hk, h2, hz, q2 (by omega)⟩
  cases rx
  obtain ⟨t, rfl⟩ := ry
  obtain ⟨its, r, ⟨⟨cls, dd, data, sl⟩, ho, hc, n, hd⟩, hs⟩ := I.tuple hT
  simp only at hc hd
  subst hc hd
  have le : its.length = xs.length := r.length.symm
  have ne : its ≠ [] := fun e => hne (List.eq_nil_of_length_eq_zero (by rw [← le, e]; rfl))
  have ie : its.toArray.isEmpty = false := by
    cases its with
    | nil => exact absurd rfl ne
    | cons a b => rfl
  by_cases e1 : k = 1
  · subst e1
    exact wpAny_binaryOp_repeat_ref (T := "tuple") (U := "int") (by decide) ⟨_, ho, rfl⟩ (fun s' => typeIs_int s' 1 t) noFill_tuple_mul F.fills_int_mul F.slot_int_rmul repeat_tuple F.slot_int_index.lookup
      (call_meets F.slot_int_rmul (typeIs_int s 1 t) F.entry_int_rmul (F.args_int_rmul_2 _ _) (int_rmul_tuple 1 t l its.toArray n dd sl)
        ⟨ho, rfl, ⟨_, ho, rfl⟩, call_meets F.slot_tuple_mul ⟨_, ho, rfl⟩ F.entry_tuple_mul (F.args_tuple_mul_2 _ _) (mul_one l its.toArray n dd sl t) ⟨ho, ⟨.ref l, H, I, rfl, q1 rfl⟩⟩⟩)
  · have c0 : (decide (k < -(2 ^ 63)) || decide (k ≥ 2 ^ 63)) = false := by
      rw [decide_eq_false (by omega), decide_eq_false (by omega)]
      rfl
    have c1 : (its.toArray.isEmpty || k == 1) = false := by
      rw [ie, Bool.false_or]
      exact beq_eq_false_iff_ne.mpr e1
    have c2 : (decide (k ≤ 0) || its.toArray.isEmpty) = true := by
      rw [decide_eq_true (by omega)]
      rfl
    refine wpAny_binaryOp_repeat_ref (T := "tuple") (U := "int") (by decide) ⟨_, ho, rfl⟩ (fun s' => typeIs_int s' k t) noFill_tuple_mul F.fills_int_mul F.slot_int_rmul repeat_tuple F.slot_int_index.lookup
      (call_meets F.slot_int_rmul (typeIs_int s k t) F.entry_int_rmul (F.args_int_rmul_2 _ _) (int_rmul_tuple k t l its.toArray n dd sl)
        ⟨ho, rfl, ⟨_, ho, rfl⟩, call_meets F.slot_tuple_mul ⟨_, ho, rfl⟩ F.entry_tuple_mul (F.args_tuple_mul_2 _ _) (mul_none l its.toArray n dd sl k t c0 c1 c2) ⟨ho, ?_⟩⟩)
    have ek : (List.replicate k.toNat xs).flatten = [] := by
      rw [show k.toNat = 0 by omega]
      rfl
    have q3 := q2 e1
    rw [ek] at q3
    refine ⟨.ref s.heap.objs.size, _, I.laid (t' := s.toks) (o := .tup []) (fun b ob q => Heap.get?_push_of_some _ q) (Nat.le_refl _) ?_, rfl, q3 _ (I.hok.fresh (Nat.le_refl _))⟩
    exact ⟨(by decide : 0 ≤ sizeLine), [], .nil, IsTup.new _ _⟩
end
end ZG

/-! defs that are called while an exception is handled, and raise nothing; the exception asked for its class -/
namespace HU
open PySem PySem.Spec PyProof.Rows L2
/-- what such a def promises of the exception p that is handled -/
structure FnU (P : Program) (w : World) (K : PySem.W.Frag) (mg : Str → Option Value) (base : Heap) (k : Nat) (f : Addr) (fd : FuncData) (ps : List Str) (sp : Addr × Obj → Sp) : Prop where
  len : ∀ p vs H Q E, sp p vs H Q E → vs.length = ps.length
  run : ∀ (p : Addr × Obj) (A : Around) (outer : List Env) (s : Shared) (H : Hp) (args : Args) (us : List Value) (vs : List V) (Q : VK) (E : XK), L2H.RoomH k A → L2H.PinOk outer H s p → Env0 P w K mg base A outer s H → BindsTo s fd args (ps.zip us) → Vals vs us → sp p vs H Q E →
    codeAny (model P w) A (.call (.ref f) args) (CR CX0 outer P w H s Q E) s
theorem fn_ofU {P : Program} {w : World} {K : PySem.W.Frag} {mg : Str → Option Value} {base : Heap} {k : Nat} {f : Addr} {name qual : Str} {params : Arguments} {body : List Stmt} {scope : Scope} {dV kV doc pm cdv ct oc : Value} {an od : Option Addr}
    {osl : Array (Option Value)} {N ps : List Str} {sp : Addr × Obj → Sp} (lk : K.lookup f = some ⟨oc, od, .func (PySem.W.fnOf name qual params body scope dV kV doc pm an cdv ct), osl⟩) (cdk : PySem.W.codeIn K cdv qual = true) (S : FnScope N ps scope)
    (len : ∀ p vs H Q E, sp p vs H Q E → vs.length = ps.length)
    (hb : ∀ (p : Addr × Obj) (A : Around) (outer : List Env) (s : Shared) (H : Hp) (vs : List V) (Q : VK) (E : XK), L2H.RoomH k (A.deeper (envOfC qual scope s.heap.objs.size f cdv)) → sp p vs H Q E →
      ∃ t, PSs (L2H.cxH CX0 P w K mg base N qual scope f cdv A outer s H E p) body t ∧ t { nx := fun _ H' => Q .non H', rt := Q } (L2.start N vs) H) :
    FnU P w K mg base (k + 1) f (PySem.W.fnOf name qual params body scope dV kV doc pm an cdv ct) ps sp := by
  refine ⟨len, fun p A outer s H args us vs Q E hr pin e0 bd r hs => ?_⟩
  have el := len _ _ _ _ _ hs
  have KX : K.In s.heap := e0.mod.kin.keeps fun b o e => (e0.bs b o e).1
  have lim : s.heap.NoLimit := e0.mod.nolimit.keeps fun b o e => (e0.bs b o e).1
  have kinds : ∀ y ∈ ps.zip us, scope.names.lookup y.1 = some .local ∨ (scope.names.lookup y.1 = some .cell ∧ ((cellsFrom (s.heap.objs.size + 1) scope.names []).lookup y.1).isSome = true) := fun ⟨n, v⟩ hy => by
    rcases S.par n (List.of_mem_zip hy).1 with q | q
    · exact .inl q
    · exact .inr ⟨q, PySem.W.cellsFrom_some _ _ _ (.inl q)⟩
  refine codeAny_call_function hr.depth (KX _ _ lk) rfl S.co S.gen rfl (PySem.W.codeRec_of KX cdk) (bd _ _ _ _ ?_)
  refine wpAny_newFunctionEnv_cells S.kind kinds fun env he s1 x => ?_
  subst he
  refine ⟨lim.keeps x.toInCall.keep, codeAny_func ?_⟩
  obtain ⟨t, ht, hq⟩ := hb p A outer s H vs Q E (hr.deeper _) hs
  have I : Inv (L2H.cxH CX0 P w K mg base N qual scope f cdv A outer s H E p) [] (L2.start N vs) H s1 := L2H.inv_startH S pin e0 el r x
  refine wpAny_mono (ht.run [] s1 (L2.start N vs) H _ I hq) (fun fl s' h => ?_) fun e s' h => h
  have fin : ∀ {σ' : L2.St} {H' : Hp} {v : V} {u : Value}, Inv (L2H.cxH CX0 P w K mg base N qual scope f cdv A outer s H E p) [] σ' H' s' → L2.RelV v u → Q v H' → CE outer P w H s Q u s' :=
    fun {σ' H' v u} J rv q => ⟨v, H', J.os, J.bare, J.base, J.hok, rv, q⟩
  cases fl with
  | ret u =>
    obtain ⟨v, σ', H', J, rv, q⟩ := h
    exact fin J rv q
  | next =>
    obtain ⟨σ', H', J, q⟩ := h
    exact fin (v := V.non) (u := Value.none) J rfl q
  | brk =>
    obtain ⟨_, _, _, q⟩ := h
    exact q.elim
  | cont =>
    obtain ⟨_, _, _, q⟩ := h
    exact q.elim
theorem okU {P : Program} {w : World} {K : PySem.W.Frag} {mg : Str → Option Value} {base : Heap} {x qual : Str} {st : Stmt} {f : Addr} {fd : FuncData} {N ps : List Str} {k : Nat} {sp : Addr × Obj → Sp} (F : Fun K x qual st f fd) (S : FnScope N ps (defScope st)) (len : ∀ p vs H Q E, sp p vs H Q E → vs.length = ps.length)
    (hb : ∀ (cdv : Value) (p : Addr × Obj) (A : Around) (outer : List Env) (s : Shared) (H : Hp) (vs : List V) (Q : VK) (E : XK), L2H.RoomH k (A.deeper (envOfC qual (defScope st) s.heap.objs.size f cdv)) → sp p vs H Q E →
      ∃ t, PSs (L2H.cxH CX0 P w K mg base N qual (defScope st) f cdv A outer s H E p) (defBody st) t ∧ t { nx := fun _ H' => Q .non H', rt := Q } (L2.start N vs) H) : FnU P w K mg base (k + 1) f fd ps sp := by
  obtain ⟨oc, od, kV, doc, pm, an, cdv, ct, osl, rfl, lk, hcd⟩ := F.ex
  exact fn_ofU lk hcd S len fun p A outer s H vs Q E hr h => hb cdv p A outer s H vs Q E hr h
section
variable {X : Cx} {k : Nat} {f : Addr} {fd : FuncData} {ps : List Str} {sp : Addr × Obj → Sp} {p : Addr × Obj} {x : Str} {q pos : Pos} {e : Expr} {es : List Expr} {t : TA}
theorem run_fnU {pins : List (Addr × Obj)} {σ : L2.St} {H : Hp} {s : Shared} {Q : VK} {us : List Value} {vs : List V} (F : FnU X.prog X.w X.K X.mg X.base k f fd ps sp) (hr : L2H.RoomH k X.A) (hp : p ∈ X.pn) (hb : L2.Binds X.K fd ps [])
    (I : Inv X pins σ H s) (r : Vals vs us) (h : sp p vs H Q E0) : wpAny (model X.prog X.w) X.A (call (.ref f) us) (EP X pins σ Q) X.xe s := by
  have hl : us.length = ps.length := by rw [← r.length]; exact F.len _ _ _ _ _ h
  have b := hb s us I.kIn (by rw [List.append_nil]; exact hl)
  rw [List.append_nil] at b
  have P1 := I.pin p (List.mem_append_left _ hp)
  have pin : L2H.PinOk X.stack H s p := ⟨P1.1, P1.2.1, fun hm => (List.mem_cons.mp (I.stkSub p.1 hm)).elim P1.2.2.1 P1.2.2.2.1, P1.2.2.2.2⟩
  refine wpAny_call (codeAny_mono (F.run p X.A X.stack s H ⟨us, []⟩ us vs Q E0 hr pin I.env0 b r h) fun r s' hq => ?_)
  cases r with
  | error e => exact (show False from hq).elim
  | ok fl =>
    cases fl with
    | ret u => exact I.after hq
    | next => exact False.elim hq
    | brk => exact False.elim hq
    | cont => exact False.elim hq
theorem pe_callU (F : FnU X.prog X.w X.K X.mg X.base k f fd ps sp) (hr : L2H.RoomH k X.A) (hp : p ∈ X.pn) (hg : Gl X x) (hm : X.mg x = some (.ref f)) (hk : PySem.W.keepIn X.K (.ref f) = true) (hb : L2.Binds X.K fd ps [])
    (ha : PA X (e :: es) t) (hdb : (x == ("__debug__" : Str)) = false := by decide) (he : starEach (e :: es) X.env = (false, eval e X.env) :: starEach es X.env := by rfl) (hpl : (backTo pos (starEach es X.env)).any (fun z => z.1) = false := by rfl) :
    PE X (.Call (.Name x q) (e :: es) [] pos) (fun σ H Q => t σ H fun vs H1 => sp p vs H1 Q E0) := by
  refine ⟨fun pins s σ H Q I h => ?_⟩
  refine wpAny_Call_Name_kw (ld_glob I hg hm ?_ hdb)
  refine PySem.W.callWith_K (h₀ := X.base) I.ok.mod.kin hk (thn (ha.run pos pins s σ H _ I h) fun us s1 ⟨vs, H1, I1, r, z⟩ => ⟨I1.kIn, ?_⟩) he hpl
  exact run_fnU F hr hp hb I1 r z
/-- isinstance(e, c), e a pinned exception of the class at D -/
theorem call_isU {D : Addr} (hp : p ∈ X.pn) (C : ExcC X.K D) (hz : Zc (.ref D) none p.2) (hf : ∃ vs, p.2.data = .fields vs) : CallR X (.builtin "isinstance") (rIsE X.K D p.1) := by
  intro pins s σ H xs us Q I r h
  obtain ⟨c, cv, b, rfl, hcv, e, q⟩ := h
  cases r with
  | cons rx rr =>
    cases rr with
    | cons rt rr =>
      cases rr
      cases rx
      have ec := hcv _ rt
      subst ec
      have gp := (I.pin p (List.mem_append_left _ hp)).1
      obtain ⟨vs, hv⟩ := hf
      obtain ⟨pa, oc, od, oda, osl⟩ := p
      obtain ⟨h1, h2⟩ := hz
      dsimp only at h1 h2 hv gp
      subst h1 h2 hv
      have J : PySem.W.InstAt s.heap pa _ D none := ⟨gp, rfl, rfl, trivial⟩
      exact PySem.W.kia_one (PySem.W.handS_kitx_exc C.hg C.hk C.hs C.hd C.ha C.hn C.ht C.hm) I.kIn J e (fun z => nomatch z) fun tk => ⟨.bl b, H, I.kept (t' := tk) fun _ _ z => z, rfl, q⟩
theorem count_vals {y : V} : ∀ {ys : List V} {its : List Value}, Vals ys its → ys.all flatV = true → its.countP (eqU y) = ys.countP (fun z => eqV z y)
  | _, _, .nil, _ => rfl
  | z :: ys, u :: its, .cons r t, f => by
    rw [List.all_cons, Bool.and_eq_true] at f
    rw [List.countP_cons, List.countP_cons, count_vals t f.2, eqU_of r f.1]
def rCntF (K : PySem.W.Frag) : V → List V → Hp → VK → Prop := fun x xs H Q => ∃ (a : Addr) (ys : List V) (y : V), x = .ref a ∧ xs = [y] ∧ SqL K H a ys ∧ flatV y = true ∧ ys.all flatV = true ∧ Q (.int (ys.countP (fun z => eqV z y) : Nat)) H
theorem mt_countF : MtR X "list.count" (rCntF X.K) := by
  intro pins s σ H x xs v us Q I rx rxs h
  obtain ⟨a, ys, y, rfl, rfl, hs, fy, fys, q⟩ := h
  cases rx
  cases rxs with
  | cons ry rt =>
    rename_i uy ut
    cases rt
    obtain ⟨its, rv, ⟨⟨cls, dd, data, sl⟩, n, ho, hc, hdn, hd⟩, hlen⟩ := I.list hs
    simp only at hc hd
    subst hc hd
    refine call_meets PySem.F.slot_list_count ⟨_, ho, rfl⟩ PySem.F.entry_list_count (PySem.F.args_list_count_2 _ _)
      (SeqAt.list_countAt a its.toArray n dd sl uy (eqU y)) ⟨ho, fun u' hu' => mem_eqAt ry fy rv fys u' (by simpa using hu'), ?_⟩
    have ec : its.toArray.toList.countP (eqU y) = ys.countP (fun z => eqV z y) := count_vals rv fys
    rw [ec]
    exact ⟨.int (ys.countP (fun z => eqV z y) : Nat), H, I.tok _, ⟨_, rfl⟩, q⟩
end
end HU

namespace HU
open PySem PySem.Spec PyProof.Rows L2
/-! an except clause with five classes, and one behind it, both by a name -/
section
variable {M : Model} {K : PySem.W.Frag}
open PySem.W in
theorem exm5 {c1 c2 c3 c4 c5 cls : Value} {tp e : Addr} {b : Bool} {h : Heap} (X : K.In h) (LT : Looks M h (typeOf (.ref e)) cls) (hp : h.get? tp = some { cls := .type "tuple", data := .seq [c1, c2, c3, c4, c5].toArray }) (hx : exmAny K cls [c1, c2, c3, c4, c5] = some b) :
    Looks M h (excMatches (.ref e) (.ref tp)) b := by
  intro A Q E st k₀ q
  obtain ⟨hh, g, d, tk, os⟩ := st
  have k : ∀ b o, h.get? b = some o → hh.get? b = some o := k₀
  have IT : Looks M h (isInstance (.ref tp) (.type "tuple")) true := ((Looks.ld hp).andThen .now).andThen (Looks.of_pure isSubtype_tuple_tuple)
  obtain ⟨b1, d1, x1, y1, z1⟩ := exmAny_cons hx
  obtain ⟨b2, d2, x2, y2, z2⟩ := exmAny_cons y1
  obtain ⟨b3, d3, x3, y3, z3⟩ := exmAny_cons y2
  obtain ⟨b4, d4, x4, y4, z4⟩ := exmAny_cons y3
  obtain ⟨b5, d5, x5, y5, z5⟩ := exmAny_cons y4
  have l5 : some false = some d5 := y5
  cases l5
  obtain ⟨e1, T1⟩ := exm_cls (M := M) X x1
  obtain ⟨e2, T2⟩ := exm_cls (M := M) X x2
  obtain ⟨e3, T3⟩ := exm_cls (M := M) X x3
  obtain ⟨e4, T4⟩ := exm_cls (M := M) X x4
  obtain ⟨e5, T5⟩ := exm_cls (M := M) X x5
  have e1 := e1.keeps k
  have e2 := e2.keeps k
  have e3 := e3.keeps k
  have e4 := e4.keeps k
  have e5 := e5.keeps k
  have T1 := T1.keeps k
  have T2 := T2.keeps k
  have T3 := T3.keeps k
  have T4 := T4.keeps k
  have T5 := T5.keeps k
  have LT := LT.keeps k
  have IT := IT.keeps k
  have hp2 := k _ _ hp
  subst z1 z2 z3 z4 z5
  unfold excMatches
  refine wpAny_bind (IT.at ?_)
  dsimp only
  rw [if_pos rfl]
  first
    | refine wpAny_bind (wpAny_seqItems hp2 rfl ?_)
    | refine wpAny_bind (wpAny_bind (wpAny_seqItems hp2 rfl (wpAny_pure ?_)))
  dsimp only [Option.getD_some, Option.getD]
  cases b1 <;> cases b2 <;> cases b3 <;> cases b4 <;> cases b5 <;> ((repeat (first | simp only [List.forIn_cons, List.forIn_nil, Bool.not_true, Bool.false_eq_true, if_false, if_true] | lk)); exact q)
end
theorem fly_keeps {B h g : Heap} {l : List Env} {a : Addr} {Z : Obj → Prop} (x : HandSPX.FlyingZ B l a Z h) (k : ∀ b o, h.get? b = some o → g.get? b = some o) : HandSPX.FlyingZ B l a Z g := by
  obtain ⟨f1, f2, f3, oe, ws, T, oT, ts, he, hc, hd, h1, hn, hne, hT, hdT, h3⟩ := x
  exact ⟨fun b o q => k b o (f1 b o q), f2, f3.of_keeps fun b o q _ => ⟨o, k b o q, rfl⟩, oe, ws, T, oT, ts, k _ _ he, hc, hd, h1, hn, hne, k _ _ hT, hdT, h3⟩
/-- what a suite behind 'as n' (slot i) is asked -/
def wSu (i : Nat) (ts : Addr → Value → Option Addr → TS) (D : Ends) (cls : Value) (d : Option Addr) (σ : L2.St) (H : Hp) : Prop :=
  ∀ a, H a = none → ts a cls d { nx := fun σ' H' => D.nx (σ'.set i none) H', rt := D.rt, bk := fun σ' H' => D.bk (σ'.set i none) H', ct := fun σ' H' => D.ct (σ'.set i none) H' } (σ.set i (some (.ref a))) H
def wHow (K : PySem.W.Frag) (cs : List Value) (c : Value) (i : Nat) (t1 t2 : Addr → Value → Option Addr → TS) (D : Ends) : WX := fun cls d σ H =>
  ∃ b, PySem.W.exmAny K cls cs = some b ∧ (b = true → wSu i t1 D cls d σ H) ∧ (b = false → PySem.W.exmOne K cls c = some true ∧ wSu i t2 D cls d σ H)
section
variable {X : Cx} {x1 x2 x3 x4 x5 x n : Str} {c1 c2 c3 c4 c5 c : Value} {i kk : Nat} {body u1 u2 : List Stmt} {w1 w2 : Stmt} {n1 n2 n3 n4 n5 tp np pos pos1 pos2 : Pos} {tb : WX → TS} {t1 t2 : Addr → Value → Option Addr → TS}
theorem ps_try_how (hs : X.stack = X.env :: X.outer) (hf : X.env.frame = some X.env.locals) (hN : X.N.Nodup) (hi : X.N[i]? = some n) (hln : X.env.kindOf n = some .local)
    (k1 : Names X x1 c1) (k2 : Names X x2 c2) (k3 : Names X x3 c3) (k4 : Names X x4 c4) (k5 : Names X x5 c5) (kc : Names X x c)
    (hb : ∀ (W : WX) (pn : List (Addr × Obj)) (xe : Value → Shared → Prop), Takes (X.tr pn xe) W → PassesOwn (model X.prog X.w) X.A X.env xe → PSs (X.tr pn xe) body (tb W))
    (h1 : ∀ (a : Addr) (oe : Obj) (cls : Value) (d : Option Addr) (pn : List (Addr × Obj)), Zc cls d oe → (∃ vs, oe.data = .fields vs) → PSs (X.suite a ((a, oe) :: pn)) (w1 :: u1) (t1 a cls d))
    (h2 : ∀ (a : Addr) (oe : Obj) (cls : Value) (d : Option Addr) (pn : List (Addr × Obj)), Zc cls d oe → (∃ vs, oe.data = .fields vs) → PSs (X.suite a ((a, oe) :: pn)) (w2 :: u2) (t2 a cls d)) :
    PS X (.Try body [.ExceptHandler (some (.Tuple [.Name x1 n1, .Name x2 n2, .Name x3 n3, .Name x4 n4, .Name x5 n5] kk tp)) (some n) (w1 :: u1) pos1, .ExceptHandler (some (.Name x np)) (some n) (w2 :: u2) pos2] [] [] pos)
      (fun D σ H => tb (wHow X.K [c1, c2, c3, c4, c5] c i t1 t2 D) D σ H) := by
  refine ⟨fun pins s σ H D I h => ?_⟩
  have ok := I.ok
  have fr : X.A.frames = some (X.env :: X.outer) := by rw [ok.frames, hs]
  have loc : Loc X.env.scope n := .inl hln
  refine wpAny_Try_except ?_
  refine wpAny_mono ((hb (wHow X.K [c1, c2, c3, c4, c5] c i t1 t2 D) (X.pn ++ pins) (fun e s₁ => wpAny (model X.prog X.w) X.A (noteFrame e X.env) (fun _ s₂ => wpAny (model X.prog X.w) X.A (setFlight e none) (fun _ s₃ =>
    wpAny (model X.prog X.w) X.A (handleBy e X.env [.ExceptHandler (some (.Tuple [.Name x1 n1, .Name x2 n2, .Name x3 n3, .Name x4 n4, .Name x5 n5] kk tp)) (some n) (w1 :: u1) pos1, .ExceptHandler (some (.Name x np)) (some n) (w2 :: u2) pos2]) (SP X pins D) X.xe s₃) X.xe s₂) X.xe s₁) (fun u s' xx => ?_) PassesOwn.looking).run [] s σ H D (I.toTry _) h) (fun f s1 hsp => ?_) (fun e s1 he => he)
  · obtain ⟨a, B, sI, pins', σ', H', cls, d, rfl, J', nb, up, sky, na, os, ag, b, eb, yes, no⟩ := xx
    have J : Inv X pins σ' H' sI := J'.ofTry ok
    have sky2 : Sky B (X.env :: X.outer) a (Zc cls d) X.env.locals s'.heap := by rw [← hs]; exact sky
    show wpAny (model X.prog X.w) X.A (noteFrame (.ref a) X.env) _ _ _
    refine Sky.land Zc.steady fr hf sky2 fun g3 fl3 up3 => ?_
    have J3 : Inv X pins σ' H' { s' with heap := g3 } := J.landed nb fl3.1 (up.trans up3) os ag
    obtain ⟨oe3, vs3, he3, hz3, hd3⟩ := fl3.there
    have notFr : ∀ {h : Heap} {o : Obj} {vs : Array Value}, h.FunFrames B (X.env :: X.outer) → h.get? a = some o → o.data = .fields vs → a ∉ frs (X.env :: X.outer) := fun {h o vs} ff e dd hm => by
      obtain ⟨_, o', e', hnf⟩ := ff.mem hm
      rw [e] at e'
      cases e'
      exact hnf _ dd
    have nfr := notFr fl3.2.2.1 he3 hd3
    have nL : a ≠ X.env.locals := fun z => nfr (List.mem_filterMap.mpr ⟨X.env, List.mem_cons_self, by rw [hf, z]⟩)
    have nF : a ∉ X.fs := fun hm => by
      obtain ⟨e, he, q⟩ := List.mem_filterMap.mp hm
      exact nfr (List.mem_filterMap.mpr ⟨e, List.mem_cons_of_mem _ he, q⟩)
    have S3 := J3.suite he3 hd3 na nL nF
    -- a class's name is looked up
    have nm : ∀ {y : Str} {cv : Value} {yp : Pos} {Q : Value → Shared → Prop} {E : Value → Shared → Prop}, Names X y cv → Q cv { s' with heap := g3 } → wpAny (model X.prog X.w) (X.A.mark (some (.ref a))) (eval (.Name y yp) X.env) Q E { s' with heap := g3 } := fun {y cv yp Q E} hy q => by
      obtain ⟨hg, hdbg, hm | ⟨hm, hv, hnn⟩⟩ := hy
      · exact ld_glob (X := X.suite a ((a, oe3) :: (X.pn ++ pins))) S3 hg hm q hdbg
      · exact ld_blt (X := X.suite a ((a, oe3) :: (X.pn ++ pins))) S3 hg hm hv q hnn hdbg
    -- a suite is done
    have goS : ∀ {g : Heap} {ts : Addr → Value → Option Addr → TS} {ws : Stmt} {us : List Stmt} {ps : Pos}, HandSPX.FlyingZ B (X.env :: X.outer) a (Zc cls d) g → sI.heap.UpToSlots g →
        (∀ (a : Addr) (oe : Obj) (cls : Value) (d : Option Addr) (pn : List (Addr × Obj)), Zc cls d oe → (∃ vs, oe.data = .fields vs) → PSs (X.suite a ((a, oe) :: pn)) (ws :: us) (ts a cls d)) → wSu i ts D cls d σ' H' →
        codeAny (model X.prog X.w) (X.A.mark (some (.ref a))) (.handlers (.ref a) [.ExceptHandler none (some n) (ws :: us) ps] X.env) (fun r s₂ => match r with
          | .ok f => wpAny (model X.prog X.w) X.A (do bindName X.env n .none; unbindBehindTheSuite X.env n ps) (fun _ s₃ => SP X pins D f s₃) X.xe s₂
          | .error x => cameBackBy (model X.prog X.w) X.A X.env X.xe x s₂) { s' with heap := g } := by
      intro g ts ws us ps fl up' hsu hw
      refine codeAny_handlers_suite_as ?_
      refine HandSPX.lands_againZ fl fun g4 fl4 up4 => ?_
      have J4 : Inv X pins σ' H' { s' with heap := g4 } := J.landed nb fl4.1 (up'.trans up4) os ag
      obtain ⟨oe4, vs4, he4, hz4, hd4⟩ := fl4.there
      have S4 := J4.suite he4 hd4 na nL nF
      refine store_ok (X := X.suite a ((a, oe4) :: (X.pn ++ pins))) (v := .ref a) S4 hN hi loc rfl (fun s5 S5 => ?_) (.inr hln)
      refine wpAny_mono ((hsu a oe4 cls d (X.pn ++ pins) hz4 ⟨_, hd4⟩).run [] s5 _ H' _ S5 (hw a na)) (fun f s6 hsp => ?_) (fun _ _ z => False.elim z)
      have done : ∀ {σ6 : L2.St} {H6 : Hp} {Q : Shared → Prop}, Inv (X.suite a ((a, oe4) :: (X.pn ++ pins))) [] σ6 H6 s6 → (∀ s7, Inv X pins (σ6.set i none) H6 s7 → Q s7) →
          wpAny (model X.prog X.w) X.A (do bindName X.env n .none; unbindBehindTheSuite X.env n ps) (fun _ s7 => Q s7) X.xe s6 := fun {σ6 H6 Q} S6 hq => gone_ok (S6.unsuite ok) hN hi hln hq
      cases f with
      | next =>
        obtain ⟨σ6, H6, S6, q6⟩ := hsp
        exact done S6 fun s7 J7 => ⟨_, _, J7, q6⟩
      | brk =>
        obtain ⟨σ6, H6, S6, q6⟩ := hsp
        exact done S6 fun s7 J7 => ⟨_, _, J7, q6⟩
      | cont =>
        obtain ⟨σ6, H6, S6, q6⟩ := hsp
        exact done S6 fun s7 J7 => ⟨_, _, J7, q6⟩
      | ret u =>
        obtain ⟨v6, σ6, H6, S6, r6, q6⟩ := hsp
        exact done S6 fun s7 J7 => ⟨_, _, _, J7, r6, q6⟩
    have LT : PySem.W.Looks (model X.prog X.w) g3 (typeOf (.ref a)) cls := fun A Q E s k q => wpAny_typeOf_ref (k _ _ he3) (by rw [hz3.1]; exact q)
    refine wpAny_handleBy_cons (codeAny_handlers_test ?_) (by intro q; cases q)
    refine wpAny_Tuple ?_
    refine wpAny_items_cons (nm k1 ?_)
    refine wpAny_items_cons (nm k2 ?_)
    refine wpAny_items_cons (nm k3 ?_)
    refine wpAny_items_cons (nm k4 ?_)
    refine wpAny_items_cons (nm k5 ?_)
    refine wpAny_items_nil ⟨by size_fits, ?_⟩
    have kp : ∀ q o, g3.get? q = some o → (g3.push { cls := .type "tuple", data := .seq [c1, c2, c3, c4, c5].toArray }).get? q = some o := fun _ _ z => Heap.get?_push_of_some _ z
    refine (exm5 (J3.kIn.keeps kp) (LT.keeps kp) (Heap.get?_push_size g3 rfl) eb).here ?_
    have fl4 := fly_keeps fl3 kp
    have up4 := (up.trans up3).trans (Heap.UpToSlots.of_keeps kp)
    cases b with
    | true => exact goS fl4 up4 h1 (yes rfl)
    | false =>
      obtain ⟨ec, w2'⟩ := no rfl
      show wpAny _ X.A (handleBy (.ref a) X.env [.ExceptHandler (some (.Name x np)) (some n) (w2 :: u2) pos2]) _ _ _
      have J4 : Inv X pins σ' H' { s' with heap := g3.push { cls := .type "tuple", data := .seq [c1, c2, c3, c4, c5].toArray } } := J.landed nb fl4.1 up4 os ag
      obtain ⟨oe4, vs4, he4, hz4, hd4⟩ := fl4.there
      have S4 := J4.suite he4 hd4 na nL nF
      refine wpAny_handleBy_cons (codeAny_handlers_test ?_) (by intro q; cases q)
      have LM := PySem.W.exm_one (M := model X.prog X.w) (J4.kIn) (LT.keeps kp) ec
      have t2' : ∀ {Q : Value → Shared → Prop} {E : Value → Shared → Prop}, Q c { s' with heap := g3.push { cls := .type "tuple", data := .seq [c1, c2, c3, c4, c5].toArray } } → wpAny (model X.prog X.w) (X.A.mark (some (.ref a))) (eval (.Name x np) X.env) Q E { s' with heap := g3.push { cls := .type "tuple", data := .seq [c1, c2, c3, c4, c5].toArray } } := fun {Q E} q => by
        obtain ⟨hg, hdbg, hm | ⟨hm, hv, hnn⟩⟩ := kc
        · exact ld_glob (X := X.suite a ((a, oe4) :: (X.pn ++ pins))) S4 hg hm q hdbg
        · exact ld_blt (X := X.suite a ((a, oe4) :: (X.pn ++ pins))) S4 hg hm hv q hnn hdbg
      refine t2' (LM.here ?_)
      exact goS fl4 up4 h2 w2'
  · cases f with
    | next =>
      obtain ⟨σ', H', J', q⟩ := hsp
      exact wpAny_execs_nil ⟨σ', H', J'.ofTry ok, q⟩
    | brk =>
      obtain ⟨σ', H', J', q⟩ := hsp
      exact ⟨σ', H', J'.ofTry ok, q⟩
    | cont =>
      obtain ⟨σ', H', J', q⟩ := hsp
      exact ⟨σ', H', J'.ofTry ok, q⟩
    | ret u =>
      obtain ⟨v, σ', H', J', r, q⟩ := hsp
      exact ⟨v, σ', H', J'.ofTry ok, r, q⟩
end
end HU

namespace HU
open PySem PySem.Spec PyProof.Rows L2
def repS (z : Str) (k : Int) : Str := if k < 1 then Str.empty else if (k == 1 || z.length == 0) = true then z else ⟨(List.replicate k.toNat z.cps).foldl (fun a b => a ++ b) #[]⟩
theorem ten_text : ∀ k : _root_.Fin 31, PySem.intText? (("1" : Str) ++ repS "0" (k.val : Int)) = some ((10 : Int) ^ k.val) ∧ (("1" : Str) ++ repS "0" (k.val : Int)).length ≤ 640 ∧ (repS "0" (k.val : Int)).length ≤ sizeLine ∧ ("1" : Str).length + (repS "0" (k.val : Int)).length ≤ sizeLine ∧ ((10 : Int) ^ k.val).natAbs < 2 ^ 110 := by decide +kernel
section
variable {X : Cx}
theorem op_mul_str : OpR X (binaryOp .Mult) (fun x y H Q => ∃ z k, x = .str z ∧ y = .int k ∧ 0 ≤ k ∧ k ≤ 1000 ∧ z.length ≤ 1000 ∧ (repS z k).length ≤ sizeLine ∧ Q (.str (repS z k)) H) := by
  intro pins s σ H x y v u Q I rx ry h
  obtain ⟨z, k, rfl, rfl, k0, k1, hz, hzl, q⟩ := h
  obtain ⟨t, rfl⟩ := rx
  obtain ⟨t', rfl⟩ := ry
  refine PySem.P.mul_str ?_ (fun h1 _ => ?_) (fun h1 _ => ?_) ?_
  · rw [decide_eq_false (by omega), decide_eq_false (by omega)]
    rfl
  · have h2 : (1000 : Int) ≤ (2 ^ 63 - 1) / k := by
      refine (Int.le_ediv_iff_mul_le (by omega)).mpr ?_
      omega
    omega
  · have h3 : z.length * k.toNat ≤ 1000 * 1000 := Nat.mul_le_mul hz (by omega)
    unfold Builtin.Str.tooLong
    rw [sizeLine_eq]
    exact decide_eq_false (by omega)
  · unfold repS at q hzl
    by_cases h1 : k < 1
    · rw [if_pos h1] at q hzl ⊢
      exact ⟨by decide, .str Str.empty, H, I.tok _, ⟨_, rfl⟩, q⟩
    · rw [if_neg h1] at q hzl ⊢
      by_cases h2 : (k == 1 || z.length == 0) = true
      · rw [if_pos h2] at q hzl ⊢
        exact ⟨.str z, H, I.tok _, ⟨_, rfl⟩, q⟩
      · rw [if_neg h2] at q hzl ⊢
        exact ⟨hzl, .str _, H, I.tok _, ⟨_, rfl⟩, q⟩
end
end HU

/-! values as data; mutable things are cells, told by their numbers -/
namespace EV
open PySem PySem.Spec PyProof.Rows L2 ZG
inductive D where
  | non | bl (b : Bool) | int (i : Int) | str (x : Str)
  | tup (ds : List D) | lst (ds : List D) | frz (ds : List D) | dct (ks : List Key) (ds : List D)
  | ins (c : Nat) (ks : List Nat) (ds : List D) | st (ks : List Int)
  | ref (n : Nat) | obj (v : V)
  deriving Inhabited
inductive Cell where
  | lst (ds : List D) | dct (ks : List Key) (ds : List D) | ins (c : Nat) (ks : List Nat) (ds : List D) | dead
  deriving Inhabited
/-- the names of the program's own classes; a class is told by its place here -/
def cnames : List Str := ("Wrong" : Str) :: ("NoForm" : Str) :: ("NoText" : Str) :: ("NoRule" : Str) :: ("NoStart" : Str) :: ("NoNumber" : Str) :: ("NoNames" : Str) :: ("NoPapers" : Str) :: ("NoSaying" : Str) :: ("NoRows" : Str) :: ("NoClaims" : Str) :: ("NoArea" : Str) :: ("NoDeeds" : Str) :: ("NoPass" : Str) :: ("Unshown" : Str) :: ("Unlet" : Str) :: ("Unmade" : Str) :: ("NoName" : Str) :: ("TooGreat" : Str) :: ("_" : Str) :: ("Forms" : Str) :: ("Look" : Str) :: ("Rule" : Str) :: ("Run" : Str) :: ("Machine" : Str) :: ("Bundle" : Str) :: ("Fields" : Str) :: ("Ground" : Str) :: ("Group" : Str) :: ("Trunk" : Str) :: ("Search" : Str) :: ("TrunkSearch" : Str) :: ("Hints" : Str) :: ("Corner" : Str) :: ("Chase" : Str) :: ("Reader" : Str) :: ("Steps" : Str) :: ("Course" : Str) :: ("Writer" : Str) :: ("Way" : Str) :: ("Never" : Str) :: ("Branch" : Str) :: ("Desk" : Str) :: []
/-- the names of attributes and methods -/
def fnames : List Str := ("__eq__" : Str) :: ("__init__" : Str) :: ("__len__" : Str) :: ("__str__" : Str) :: ("_add" : Str) :: ("_add_place" : Str) :: ("_add_test" : Str) :: ("_add_way" : Str) :: ("_claims" : Str) :: ("_do" : Str) :: ("_do_read" : Str) :: ("_do_row" : Str) :: ("_do_test" : Str) :: ("_facts" : Str) :: ("_form" : Str) :: ("_forms" : Str) :: ("_furthest" : Str) :: ("_holds" : Str) :: ("_is_done" : Str) :: ("_keep" : Str) :: ("_led" : Str) :: ("_look" : Str) :: ("_mark" : Str) :: ("_memory" : Str) :: ("_moved" : Str) :: ("_never_led" : Str) :: ("_never_shows" : Str) :: ("_paper" : Str) :: ("_papers" : Str) :: ("_put_together" : Str) :: ("_reckon" : Str) :: ("_reform" : Str) :: ("_show" : Str) :: ("_sum_shows" : Str) :: ("_take_text" : Str) :: ("_tell_place" : Str) :: ("_things" : Str) :: ("_used" : Str) :: ("_weights_from" : Str) :: ("_weights_of_two" : Str) :: ("_write_deeds" : Str) :: ("_write_let" : Str) :: ("_write_test" : Str) :: ("_write_total" : Str) :: ("add_all" : Str) :: ("ahead" : Str) :: ("append" : Str) :: ("areas" : Str) :: ("at" : Str) :: ("beginning" : Str) :: ("beginnings" : Str) :: ("bits" : Str) :: ("budget" : Str) :: ("claims" : Str) :: ("columns" : Str) :: ("constants" : Str) :: ("contrary" : Str) :: ("corner" : Str) :: ("costs" : Str) :: ("deed" : Str) :: ("deeds" : Str) :: ("divisor" : Str) :: ("end" : Str) :: ("ends" : Str) :: ("facts" : Str) :: ("fields" : Str) :: ("forms" : Str) :: ("found" : Str) :: ("further" : Str) :: ("furthest_number" : Str) :: ("given" : Str) :: ("go" : Str) :: ("goal" : Str) :: ("goals" : Str) :: ("ground" : Str) :: ("group" : Str) :: ("groups" : Str) :: ("half" : Str) :: ("held" : Str) :: ("hints" : Str) :: ("is_below" : Str) :: ("kind" : Str) :: ("known" : Str) :: ("lead_over" : Str) :: ("leads" : Str) :: ("least" : Str) :: ("led_rows" : Str) :: ("left" : Str) :: ("length" : Str) :: ("lengths" : Str) :: ("lift" : Str) :: ("lost" : Str) :: ("many" : Str) :: ("mask" : Str) :: ("memory" : Str) :: ("most_number" : Str) :: ("most_weight" : Str) :: ("moved" : Str) :: ("name" : Str) :: ("number" : Str) :: ("numbers" : Str) :: ("numbers_at" : Str) :: ("numbers_of" : Str) :: ("own" : Str) :: ("packed" : Str) :: ("paper" : Str) :: ("papers" : Str) :: ("papers_led" : Str) :: ("papers_without" : Str) :: ("parted" : Str) :: ("parts" : Str) :: ("places" : Str) :: ("places_used" : Str) :: ("reads" : Str) :: ("registers" : Str) :: ("row" : Str) :: ("row_of" : Str) :: ("rows" : Str) :: ("run" : Str) :: ("say" : Str) :: ("search" : Str) :: ("shares" : Str) :: ("shifts" : Str) :: ("shown" : Str) :: ("shows" : Str) :: ("size" : Str) :: ("sorts" : Str) :: ("stations" : Str) :: ("steps" : Str) :: ("taken" : Str) :: ("taken_up_to" : Str) :: ("target" : Str) :: ("told" : Str) :: ("trunk" : Str) :: ("units" : Str) :: ("unlikes" : Str) :: ("unpacked" : Str) :: ("waiting" : Str) :: ("walk" : Str) :: ("weights" : Str) :: ("weights_anew" : Str) :: ("weights_on" : Str) :: ("with_one" : Str) :: ("without_hints" : Str) :: ("without_unlike" : Str) :: ("word" : Str) :: ("worth_here" : Str) :: ("worths" : Str) :: ("worths_at" : Str) :: ("write_all" : Str) :: []
def fstr (i : Nat) : Str := fnames.getD i ""
def clsA (K : PySem.W.Frag) (c : Nat) : Option Addr := match cnames[c]? with
  | some x => match PySem.W.nsIn K mainGlobals x with
    | some (some (.ref C)) => some C
    | _ => none
  | none => none
def Cell.live : Cell → Bool
  | .dead => false
  | _ => true
/-- what is known of an instance's class -/
structure IOk (K : PySem.W.Frag) (c : Nat) (ks : List Nat) (C : Addr) : Prop where
  at_ : clsA K c = some C
  cl : Cls K C
  no : ∀ k ∈ ks, NoAttr K C (fstr k) ∧ k < fnames.length
structure Exc where
  cls : Nat
  ks : List Nat
  ds : List D
inductive Out (α : Type) where
  | val (d : α) | exc (x : Exc)
abbrev Cells := List Cell
abbrev RsG (α : Type) := Option (Out α × Cells)
abbrev Rs := RsG D
def RsG.bind {α β : Type} (r : RsG α) (f : α → Cells → RsG β) : RsG β := match r with
  | some (.val d, cs) => f d cs
  | some (.exc x, cs) => some (.exc x, cs)
  | none => none
@[simp] theorem RsG.bind_val {α β : Type} {d : α} {cs : Cells} {f : α → Cells → RsG β} : RsG.bind (some (.val d, cs)) f = f d cs := rfl
@[simp] theorem RsG.bind_exc {α β : Type} {x : Exc} {cs : Cells} {f : α → Cells → RsG β} : RsG.bind (some (.exc x, cs)) f = some (.exc x, cs) := rfl
@[simp] theorem RsG.bind_none {α β : Type} {f : α → Cells → RsG β} : RsG.bind none f = none := rfl

section
variable (K : PySem.W.Frag) (φ : List Addr) (G : Hp)
mutual
def R : D → V → Prop
  | .non, v => v = .non
  | .bl b, v => v = .bl b
  | .int i, v => v = .int i
  | .str x, v => v = .str x
  | .tup ds, v => ∃ a xs, v = .ref a ∧ SqT K G a xs ∧ RA ds xs
  | .lst ds, v => ∃ a xs, v = .ref a ∧ G a = some (.lst xs) ∧ RA ds xs
  | .frz ds, v => ∃ a xs, v = .ref a ∧ SqL K G a xs ∧ RA ds xs
  | .dct ks ds, v => ∃ a xs, v = .ref a ∧ G a = some (.dK (ks.zip xs)) ∧ ks.length = ds.length ∧ RA ds xs
  | .ins c ks ds, v => ∃ a C dx xs, v = .ref a ∧ IOk K c ks C ∧ G a = some (.ins C dx ((ks.map fstr).zip xs)) ∧ ks.length = ds.length ∧ RA ds xs
  | .st ks, v => ∃ a S n, v = .ref a ∧ G a = some (.set S n) ∧ n = ks.length ∧ ks.Nodup ∧ ∀ i, S i = true ↔ i ∈ ks
  | .ref n, v => ∃ a, v = .ref a ∧ φ[n]? = some a
  | .obj u, v => v = u
def RA : List D → List V → Prop
  | [], xs => xs = []
  | d :: ds, xs => ∃ y ys, xs = y :: ys ∧ R d y ∧ RA ds ys
end
end
/-- all but code objects' tables is kept -/
def SameT (H H' : Hp) : Prop := ∀ b o, H b = some o → (∀ ps, o ≠ .tbl ps) → H' b = some o
theorem SameT.refl (H : Hp) : SameT H H := fun _ _ h _ => h
theorem SameT.trans {H H1 H2 : Hp} (a : SameT H H1) (b : SameT H1 H2) : SameT H H2 := fun c o h n => b c o (a c o h n) n
theorem SameT.of {H H' : Hp} (s : Same H H') : SameT H H' := fun b o h _ => s b o h
theorem SameT.tup {K : PySem.W.Frag} {G G' : Hp} (s : SameT G G') {a : Addr} {xs : List V} (h : SqT K G a xs) : SqT K G' a xs := by
  rcases h with (h | ⟨o, h⟩) | h
  · exact .inl (.inl (s _ _ h fun _ z => nomatch z))
  · exact .inl (.inr ⟨o, s _ _ h fun _ z => nomatch z⟩)
  · exact .inr h
theorem SameT.lst {K : PySem.W.Frag} {G G' : Hp} (s : SameT G G') {a : Addr} {xs : List V} (h : SqL K G a xs) : SqL K G' a xs := by
  rcases h with (h | ⟨o, h⟩) | h
  · exact .inl (.inl (s _ _ h fun _ z => nomatch z))
  · exact .inl (.inr ⟨o, s _ _ h fun _ z => nomatch z⟩)
  · exact .inr h
theorem pre_get {φ φ' : List Addr} (h : φ <+: φ') {n : Nat} {a : Addr} (e : φ[n]? = some a) : φ'[n]? = some a := by
  obtain ⟨t, rfl⟩ := h
  rw [List.getElem?_append_left (List.getElem?_eq_some_iff.mp e).1]
  exact e
section
variable {K : PySem.W.Frag} {φ φ' : List Addr} {G G' : Hp}
mutual
theorem R.mono (hφ : φ <+: φ') (s : SameT G G') : ∀ (d : D) (v : V), R K φ G d v → R K φ' G' d v
  | .non, _, h => h
  | .bl _, _, h => h
  | .int _, _, h => h
  | .str _, _, h => h
  | .tup ds, _, ⟨a, xs, e, h, r⟩ => ⟨a, xs, e, s.tup h, RA.mono hφ s ds xs r⟩
  | .lst ds, _, ⟨a, xs, e, h, r⟩ => ⟨a, xs, e, s _ _ h (fun _ z => nomatch z), RA.mono hφ s ds xs r⟩
  | .frz ds, _, ⟨a, xs, e, h, r⟩ => ⟨a, xs, e, s.lst h, RA.mono hφ s ds xs r⟩
  | .dct ks ds, _, ⟨a, xs, e, h, l, r⟩ => ⟨a, xs, e, s _ _ h (fun _ z => nomatch z), l, RA.mono hφ s ds xs r⟩
  | .ins c ks ds, _, ⟨a, C, dx, xs, e, hc, h, l, r⟩ => ⟨a, C, dx, xs, e, hc, s _ _ h (fun _ z => nomatch z), l, RA.mono hφ s ds xs r⟩
  | .st ks, _, ⟨a, S, n, e, h, q⟩ => ⟨a, S, n, e, s _ _ h (fun _ z => nomatch z), q⟩
  | .ref n, _, ⟨a, e, h⟩ => ⟨a, e, pre_get hφ h⟩
  | .obj _, _, h => h
theorem RA.mono (hφ : φ <+: φ') (s : SameT G G') : ∀ (ds : List D) (xs : List V), RA K φ G ds xs → RA K φ' G' ds xs
  | [], _, h => h
  | d :: ds, _, ⟨y, ys, e, h, r⟩ => ⟨y, ys, e, R.mono hφ s d y h, RA.mono hφ s ds ys r⟩
end
theorem RA.length : ∀ {ds : List D} {xs : List V}, RA K φ G ds xs → xs.length = ds.length
  | [], _, h => by cases h; rfl
  | d :: ds, _, ⟨y, ys, e, _, r⟩ => by subst e; simp [RA.length r]
theorem RA.get : ∀ {ds : List D} {xs : List V} {i : Nat} {d : D}, RA K φ G ds xs → ds[i]? = some d → ∃ v, xs[i]? = some v ∧ R K φ G d v
  | [], _, _, _, _, e => by simp at e
  | d :: ds, _, 0, _, ⟨y, ys, e, h, _⟩, q => by subst e; simp at q; subst q; exact ⟨y, rfl, h⟩
  | d :: ds, _, i + 1, _, ⟨y, ys, e, _, r⟩, q => by subst e; exact RA.get (i := i) r (by simpa using q)
theorem RA.got : ∀ {ds : List D} {xs : List V} {i : Nat} {v : V}, RA K φ G ds xs → xs[i]? = some v → ∃ d, ds[i]? = some d ∧ R K φ G d v
  | [], _, _, _, h, e => by cases h; simp at e
  | d :: ds, _, 0, _, ⟨y, ys, e, h, _⟩, q => by subst e; simp at q; subst q; exact ⟨d, rfl, h⟩
  | d :: ds, _, i + 1, _, ⟨y, ys, e, _, r⟩, q => by subst e; exact RA.got (i := i) r (by simpa using q)
theorem RA.app : ∀ {ds es : List D} {xs ys : List V}, RA K φ G ds xs → RA K φ G es ys → RA K φ G (ds ++ es) (xs ++ ys)
  | [], _, _, _, h, q => by cases h; exact q
  | d :: ds, _, _, _, ⟨y, ys, e, h, r⟩, q => by subst e; exact ⟨y, ys ++ _, rfl, h, RA.app r q⟩
theorem RA.one {d : D} {v : V} (h : R K φ G d v) : RA K φ G [d] [v] := ⟨v, [], rfl, h, rfl⟩
theorem RA.take : ∀ {ds : List D} {xs : List V} (n : Nat), RA K φ G ds xs → RA K φ G (ds.take n) (xs.take n)
  | _, _, 0, _ => by simp [RA]
  | [], _, n + 1, h => by cases h; simp [RA]
  | d :: ds, _, n + 1, ⟨y, ys, e, h, r⟩ => by subst e; exact ⟨y, ys.take n, rfl, h, RA.take n r⟩
theorem RA.drop : ∀ {ds : List D} {xs : List V} (n : Nat), RA K φ G ds xs → RA K φ G (ds.drop n) (xs.drop n)
  | _, _, 0, h => h
  | [], _, n + 1, h => by cases h; simp [RA]
  | d :: ds, _, n + 1, ⟨y, ys, e, h, r⟩ => by subst e; exact RA.drop n r
theorem RA.set : ∀ {ds : List D} {xs : List V} (n : Nat) {d : D} {v : V}, RA K φ G ds xs → R K φ G d v → RA K φ G (ds.set n d) (xs.set n v)
  | [], _, _, _, _, h, _ => by cases h; simp [RA]
  | d :: ds, _, 0, _, v, ⟨y, ys, e, h, r⟩, q => by subst e; exact ⟨v, ys, rfl, q, r⟩
  | d :: ds, _, n + 1, _, v, ⟨y, ys, e, h, r⟩, q => by subst e; exact ⟨y, ys.set n v, rfl, h, RA.set n r q⟩
theorem RA.rep {d : D} {v : V} (h : R K φ G d v) : ∀ n : Nat, RA K φ G (List.replicate n d) (List.replicate n v)
  | 0 => rfl
  | n + 1 => ⟨v, _, rfl, h, RA.rep h n⟩
theorem RA.ints : ∀ (ns : List Int), RA K φ G (ns.map D.int) (ns.map V.int)
  | [] => rfl
  | n :: ns => ⟨.int n, _, rfl, rfl, RA.ints ns⟩
theorem RA.of_ints : ∀ (ns : List Int) {xs : List V}, RA K φ G (ns.map D.int) xs → xs = ns.map V.int
  | [], _, h => h
  | n :: ns, _, ⟨y, ys, e, h, r⟩ => by
    have h : y = .int n := h
    rw [e, h, RA.of_ints ns r]
    rfl
theorem RA.of_bls : ∀ (ns : List Bool) {xs : List V}, RA K φ G (ns.map D.bl) xs → xs = ns.map V.bl
  | [], _, h => h
  | n :: ns, _, ⟨y, ys, e, h, r⟩ => by
    have h : y = .bl n := h
    rw [e, h, RA.of_bls ns r]
    rfl
end

/-! ### the heap and the cells -/
/-- a live cell's address -/
def Liv (φ : List Addr) (cs : Cells) (b : Addr) : Prop := ∃ (n : Nat) (c : Cell), φ[n]? = some b ∧ cs[n]? = some c ∧ c.live = true
open Classical in
/-- what stands for good (hd: what is hidden meanwhile) -/
noncomputable def M (hd φ : List Addr) (cs : Cells) (H : Hp) : Hp := fun b => if Liv φ cs b ∨ b ∈ hd then none else H b
theorem M_of {hd φ : List Addr} {cs : Cells} {H : Hp} {b : Addr} {o : HO} (h : M hd φ cs H b = some o) : ¬ (Liv φ cs b ∨ b ∈ hd) ∧ H b = some o := by
  unfold M at h
  split at h
  · cases h
  · rename_i n
    exact ⟨n, h⟩
theorem M_mk {hd φ : List Addr} {cs : Cells} {H : Hp} {b : Addr} {o : HO} (n : ¬ (Liv φ cs b ∨ b ∈ hd)) (h : H b = some o) : M hd φ cs H b = some o := by
  unfold M
  rw [if_neg n]
  exact h
theorem M_same (hd φ : List Addr) (cs : Cells) (H : Hp) : Same (M hd φ cs H) H := fun _ _ h => (M_of h).2
def CellOk (K : PySem.W.Frag) (φ : List Addr) (G H : Hp) (a : Addr) : Cell → Prop
  | .lst ds => ∃ xs, H a = some (.lst xs) ∧ RA K φ G ds xs
  | .dct ks ds => ∃ xs, H a = some (.dK (ks.zip xs)) ∧ ks.length = ds.length ∧ RA K φ G ds xs
  | .ins c ks ds => ∃ C dx xs, IOk K c ks C ∧ H a = some (.ins C dx ((ks.map fstr).zip xs)) ∧ H dx = some (.own a) ∧ ks.length = ds.length ∧ RA K φ G ds xs
  | .dead => ∃ o, H a = some o ∧ ∀ ps, o ≠ .tbl ps
theorem CellOk.nn {K : PySem.W.Frag} {φ : List Addr} {G H : Hp} {a : Addr} {c : Cell} (h : CellOk K φ G H a c) : H a ≠ none := by
  intro z
  cases c with
  | lst ds => obtain ⟨_, e, _⟩ := h; rw [z] at e; cases e
  | dct ks ds => obtain ⟨_, e, _⟩ := h; rw [z] at e; cases e
  | ins C ks ds => obtain ⟨_, _, _, _, e, _⟩ := h; rw [z] at e; cases e
  | dead => obtain ⟨o, e, _⟩ := h; rw [z] at e; cases e
theorem CellOk.nt {K : PySem.W.Frag} {φ : List Addr} {G H : Hp} {a : Addr} {c : Cell} (h : CellOk K φ G H a c) : ∃ o, H a = some o ∧ ∀ ps, o ≠ .tbl ps := by
  cases c with
  | lst ds => obtain ⟨_, e, _⟩ := h; exact ⟨_, e, fun ps z => by cases z⟩
  | dct ks ds => obtain ⟨_, e, _⟩ := h; exact ⟨_, e, fun ps z => by cases z⟩
  | ins C ks ds => obtain ⟨_, _, _, _, e, _⟩ := h; exact ⟨_, e, fun ps z => by cases z⟩
  | dead => exact h
structure Cs (K : PySem.W.Frag) (hd φ : List Addr) (H : Hp) (cs : Cells) : Prop where
  len : φ.length = cs.length
  nd : φ.Nodup
  ok : ∀ (n : Nat) (a : Addr) (c : Cell), φ[n]? = some a → cs[n]? = some c → CellOk K φ (M hd φ cs H) H a c
  hs : ∀ b ∈ hd, H b ≠ none ∧ b ∉ φ
theorem Cs.there {K : PySem.W.Frag} {hd φ : List Addr} {H : Hp} {cs : Cells} (h : Cs K hd φ H cs) {b : Addr} (l : Liv φ cs b) : H b ≠ none := by
  obtain ⟨n, c, e1, e2, _⟩ := l
  exact (h.ok n b c e1 e2).nn
theorem nodup_at {α : Type} {l : List α} (nd : l.Nodup) {i j : Nat} {a : α} (hi : l[i]? = some a) (hj : l[j]? = some a) : i = j :=
  (List.getElem?_inj (List.getElem?_eq_some_iff.mp hi).1 nd).mp (hi.trans hj.symm)
theorem Cs.notin {K : PySem.W.Frag} {hd φ : List Addr} {H : Hp} {cs : Cells} (h : Cs K hd φ H cs) {p : Addr} (hp : H p = none) : p ∉ φ := fun m => by
  obtain ⟨n, e⟩ := List.getElem?_of_mem m
  have hn : n < cs.length := by rw [← h.len]; exact (List.getElem?_eq_some_iff.mp e).1
  exact (h.ok n p cs[n] e (List.getElem?_eq_getElem hn)).nn hp
/-- later -/
structure Ext (hd φ : List Addr) (cs : Cells) (H : Hp) (φ' : List Addr) (cs' : Cells) (H' : Hp) : Prop where
  pre : φ <+: φ'
  same : SameT (M hd φ cs H) (M hd φ' cs' H')
  keep : ∀ b ∈ hd, H' b = H b
theorem Ext.refl (hd φ : List Addr) (cs : Cells) (H : Hp) : Ext hd φ cs H φ cs H := ⟨List.prefix_refl _, SameT.refl _, fun _ _ => rfl⟩
theorem Ext.trans {hd φ φ1 φ2 : List Addr} {cs cs1 cs2 : Cells} {H H1 H2 : Hp} (a : Ext hd φ cs H φ1 cs1 H1) (b : Ext hd φ1 cs1 H1 φ2 cs2 H2) : Ext hd φ cs H φ2 cs2 H2 := ⟨a.pre.trans b.pre, a.same.trans b.same, fun c h => (b.keep c h).trans (a.keep c h)⟩
theorem Ext.r {K : PySem.W.Frag} {hd φ φ1 : List Addr} {cs cs1 : Cells} {H H1 : Hp} (a : Ext hd φ cs H φ1 cs1 H1) {d : D} {v : V} (h : R K φ (M hd φ cs H) d v) : R K φ1 (M hd φ1 cs1 H1) d v := R.mono a.pre a.same d v h
theorem Ext.ra {K : PySem.W.Frag} {hd φ φ1 : List Addr} {cs cs1 : Cells} {H H1 : Hp} (a : Ext hd φ cs H φ1 cs1 H1) {d : List D} {v : List V} (h : RA K φ (M hd φ cs H) d v) : RA K φ1 (M hd φ1 cs1 H1) d v := RA.mono a.pre a.same d v h
/-! what changes -/
section
variable {K : PySem.W.Frag} {hd φ : List Addr} {H : Hp} {cs : Cells}
/-- a new thing that stands for good -/
theorem Cs.nhd (h : Cs K hd φ H cs) {p : Addr} (hp : H p = none) : p ∉ hd := fun m => (h.hs p m).1 hp
theorem M_new (h : Cs K hd φ H cs) {p : Addr} (hp : H p = none) (o : HO) : M hd φ cs (upd H p o) = upd (M hd φ cs H) p o := by
  funext b
  unfold M upd
  by_cases e : b = p
  · subst e
    have n1 : ¬ Liv φ cs b := fun l => h.there l hp
    have n2 := h.nhd hp
    simp [n1, n2]
  · simp [e]
theorem ext_new (h : Cs K hd φ H cs) {p : Addr} (hp : H p = none) (o : HO) : Ext hd φ cs H φ cs (upd H p o) := by
  refine ⟨List.prefix_refl _, ?_, fun b m => upd_ne fun e => h.nhd hp (by rw [← e]; exact m)⟩
  rw [M_new h hp]
  refine .of fun b u q => ?_
  rw [upd_ne]
  · exact q
  · intro e
    subst e
    have := (M_of q).2
    rw [hp] at this
    cases this
theorem CellOk.keep {φ' : List Addr} {G G' H H' : Hp} {a : Addr} {c : Cell} (h : CellOk K φ G H a c) (pre : φ <+: φ') (s : SameT G G') (k : H' a = H a) (ko : ∀ dx, H dx = some (HO.own a) → H' dx = some (HO.own a)) : CellOk K φ' G' H' a c := by
  cases c with
  | lst ds => obtain ⟨xs, e, r⟩ := h; exact ⟨xs, k.trans e, RA.mono pre s _ _ r⟩
  | dct ks ds => obtain ⟨xs, e, l, r⟩ := h; exact ⟨xs, k.trans e, l, RA.mono pre s _ _ r⟩
  | ins c ks ds => obtain ⟨C, dx, xs, hc, e, o, l, r⟩ := h; exact ⟨C, dx, xs, hc, k.trans e, ko dx o, l, RA.mono pre s _ _ r⟩
  | dead => obtain ⟨o, e, n⟩ := h; exact ⟨o, k.trans e, n⟩
theorem cs_new (h : Cs K hd φ H cs) {p : Addr} (hp : H p = none) (o : HO) : Cs K hd φ (upd H p o) cs := by
  refine ⟨h.len, h.nd, fun n a c e1 e2 => ?_, fun b m => ⟨?_, (h.hs b m).2⟩⟩
  · have ok := h.ok n a c e1 e2
    have ne : a ≠ p := fun z => ok.nn (by rw [z]; exact hp)
    exact ok.keep (List.prefix_refl _) (ext_new h hp o).same (upd_ne ne) fun dx q => (upd_ne (ne_of_none q hp)).trans q
  · rw [upd_ne fun e => h.nhd hp (by rw [← e]; exact m)]
    exact (h.hs b m).1
/-- a new cell -/
theorem Liv_new (h : Cs K hd φ H cs) {p : Addr} {c : Cell} (hc : c.live = true) {b : Addr} : Liv (φ ++ [p]) (cs ++ [c]) b ↔ Liv φ cs b ∨ b = p := by
  constructor
  · rintro ⟨n, c', e1, e2, l⟩
    by_cases hn : n < φ.length
    · rw [List.getElem?_append_left hn] at e1
      rw [List.getElem?_append_left (by rw [← h.len]; exact hn)] at e2
      exact .inl ⟨n, c', e1, e2, l⟩
    · have hn2 : n = φ.length := by
        have := (List.getElem?_eq_some_iff.mp e1).1
        rw [List.length_append, List.length_singleton] at this
        omega
      subst hn2
      simp at e1
      exact .inr e1.symm
  · rintro (⟨n, c', e1, e2, l⟩ | rfl)
    · exact ⟨n, c', by rw [List.getElem?_append_left (List.getElem?_eq_some_iff.mp e1).1]; exact e1, by rw [List.getElem?_append_left (List.getElem?_eq_some_iff.mp e2).1]; exact e2, l⟩
    · exact ⟨φ.length, c, by simp, by rw [h.len]; simp, hc⟩
/-- whatever stands at p now: behind, p is a cell -/
theorem M_cell (h : Cs K hd φ H cs) {p : Addr} {c : Cell} (hc : c.live = true) (H' : Hp) {b : Addr} (hb : b ≠ p) (e : H' b = H b) : M hd (φ ++ [p]) (cs ++ [c]) H' b = M hd φ cs H b := by
  unfold M
  by_cases l : Liv φ cs b ∨ b ∈ hd
  · rw [if_pos (l.imp (fun z => (Liv_new h hc).mpr (.inl z)) id), if_pos l]
  · rw [if_neg (fun z => z.elim (fun z => ((Liv_new h hc).mp z).elim (fun z => l (.inl z)) hb) fun z => l (.inr z)), if_neg l, e]
theorem M_at_cell (h : Cs K hd φ H cs) {p : Addr} {c : Cell} (hc : c.live = true) (H' : Hp) : M hd (φ ++ [p]) (cs ++ [c]) H' p = none := by
  unfold M
  rw [if_pos (.inl ((Liv_new h hc).mpr (.inr rfl)))]
theorem same_cell (h : Cs K hd φ H cs) {p : Addr} {c : Cell} (hc : c.live = true) (hp : H p = none) (o : HO) : SameT (M hd φ cs H) (M hd (φ ++ [p]) (cs ++ [c]) (upd H p o)) := .of fun b u q => by
  have ne : b ≠ p := fun z => by
    have := (M_of q).2
    rw [z, hp] at this
    cases this
  rw [M_cell h hc _ ne (upd_ne ne)]
  exact q
theorem ext_cell (h : Cs K hd φ H cs) {p : Addr} {c : Cell} (hc : c.live = true) (hp : H p = none) (o : HO) : Ext hd φ cs H (φ ++ [p]) (cs ++ [c]) (upd H p o) :=
  ⟨List.prefix_append _ _, same_cell h hc hp o, fun b m => upd_ne fun e => h.nhd hp (by rw [← e]; exact m)⟩
theorem cs_cell0 {hd0 : List Addr} (h : Cs K hd0 φ H cs) {p : Addr} {c : Cell} {H' : Hp} (np : p ∉ φ) (nh : p ∉ hd) (pre : φ <+: φ ++ [p]) (s : SameT (M hd0 φ cs H) (M hd (φ ++ [p]) (cs ++ [c]) H')) (kp : ∀ a, a ∈ φ → H' a = H a) (ko : ∀ dx a, H dx = some (HO.own a) → H' dx = some (HO.own a)) (kh : ∀ a ∈ hd, H' a ≠ none ∧ a ∉ φ)
    (k : CellOk K (φ ++ [p]) (M hd (φ ++ [p]) (cs ++ [c]) H') H' p c) : Cs K hd (φ ++ [p]) H' (cs ++ [c]) := by
  refine ⟨by simp [h.len], ?_, fun n a c' e1 e2 => ?_, fun b m => ⟨(kh b m).1, fun z => ?_⟩⟩
  · rw [List.nodup_append]
    refine ⟨h.nd, by simp, fun x hx y hy z => ?_⟩
    rw [List.mem_singleton] at hy
    exact np (by rw [← hy, ← z]; exact hx)
  · by_cases hn : n < φ.length
    · rw [List.getElem?_append_left hn] at e1
      rw [List.getElem?_append_left (by rw [← h.len]; exact hn)] at e2
      exact (h.ok n a c' e1 e2).keep pre s (kp a (List.mem_of_getElem? e1)) fun dx q => ko dx a q
    · have hn2 : n = φ.length := by
        have := (List.getElem?_eq_some_iff.mp e1).1
        rw [List.length_append, List.length_singleton] at this
        omega
      subst hn2
      rw [h.len] at e2
      simp at e1 e2
      subst e1 e2
      exact k
  · rcases List.mem_append.mp z with z | z
    · exact (kh b m).2 z
    · rw [List.mem_singleton] at z
      exact nh (by rw [← z]; exact m)
theorem cs_cell (h : Cs K hd φ H cs) {p : Addr} {c : Cell} (hc : c.live = true) (hp : H p = none) (o : HO) (k : CellOk K φ (M hd φ cs H) (upd H p o) p c) : Cs K hd (φ ++ [p]) (upd H p o) (cs ++ [c]) := by
  have ex := ext_cell h hc hp o
  refine cs_cell0 h (h.notin hp) (h.nhd hp) ex.pre ex.same (fun a m => upd_ne fun e => h.notin hp (by rw [← e]; exact m)) (fun dx a q => (upd_ne (ne_of_none q hp)).trans q) (fun a m => ?_) (k.keep ex.pre ex.same rfl fun dx q => q)
  rw [ex.keep a m]
  exact h.hs a m
/-- a cell is put otherwise -/
theorem Liv_put {n : Nat} {c c' : Cell} (hn : cs[n]? = some c) (hl : c'.live = c.live) {b : Addr} : Liv φ (cs.set n c') b ↔ Liv φ cs b := by
  have hlt := (List.getElem?_eq_some_iff.mp hn).1
  constructor
  · rintro ⟨m, d, e1, e2, l⟩
    by_cases e : n = m
    · subst e
      rw [List.getElem?_set_self hlt] at e2
      cases e2
      exact ⟨n, c, e1, hn, by rw [← hl]; exact l⟩
    · rw [List.getElem?_set_ne e] at e2
      exact ⟨m, d, e1, e2, l⟩
  · rintro ⟨m, d, e1, e2, l⟩
    by_cases e : n = m
    · subst e
      rw [hn] at e2
      cases e2
      exact ⟨n, c', e1, List.getElem?_set_self hlt, by rw [hl]; exact l⟩
    · exact ⟨m, d, e1, by rw [List.getElem?_set_ne e]; exact e2, l⟩
theorem M_put {n : Nat} {a : Addr} {c c' : Cell} (ha : φ[n]? = some a) (hn : cs[n]? = some c) (h1 : c.live = true) (h2 : c'.live = true) (o : HO) : M hd φ (cs.set n c') (upd H a o) = M hd φ cs H := by
  funext b
  unfold M
  have l : Liv φ (cs.set n c') b ↔ Liv φ cs b := Liv_put hn (h2.trans h1.symm)
  by_cases q : Liv φ cs b ∨ b ∈ hd
  · rw [if_pos (q.imp l.mpr id), if_pos q]
  · rw [if_neg (fun z => q (z.imp l.mp id)), if_neg q, upd_ne]
    rintro rfl
    exact q (.inl ⟨n, c, ha, hn, h1⟩)
theorem ext_put (h : Cs K hd φ H cs) {n : Nat} {a : Addr} {c c' : Cell} (ha : φ[n]? = some a) (hn : cs[n]? = some c) (h1 : c.live = true) (h2 : c'.live = true) (o : HO) : Ext hd φ cs H φ (cs.set n c') (upd H a o) := by
  refine ⟨List.prefix_refl _, ?_, fun b m => upd_ne ?_⟩
  · rw [M_put ha hn h1 h2]
    exact .refl _
  · rintro rfl
    exact (h.hs b m).2 (List.mem_of_getElem? ha)
theorem cs_put (h : Cs K hd φ H cs) {n : Nat} {a : Addr} {c c' : Cell} (ha : φ[n]? = some a) (hn : cs[n]? = some c) (h1 : c.live = true) (h2 : c'.live = true) (o : HO)
    (ho : ∀ x, H a ≠ some (.own x)) (k : CellOk K φ (M hd φ cs H) (upd H a o) a c') : Cs K hd φ (upd H a o) (cs.set n c') := by
  have ex := ext_put h ha hn h1 h2 o
  refine ⟨by simp [h.len], h.nd, fun m b d e1 e2 => ?_, fun b m => ⟨by rw [ex.keep b m]; exact (h.hs b m).1, (h.hs b m).2⟩⟩
  have hlt := (List.getElem?_eq_some_iff.mp hn).1
  by_cases e : n = m
  · subst e
    rw [List.getElem?_set_self hlt] at e2
    rw [ha] at e1
    cases e1
    cases e2
    exact k.keep ex.pre ex.same rfl fun dx q => q
  · rw [List.getElem?_set_ne e] at e2
    have ok := h.ok m b d e1 e2
    have ne : b ≠ a := fun z => e (nodup_at h.nd ha (z ▸ e1))
    refine ok.keep ex.pre ex.same (upd_ne ne) fun dx q => (upd_ne ?_).trans q
    rintro rfl
    exact ho _ q
/-- a cell is frozen -/
theorem ext_freeze {n : Nat} (cs : Cells) (φ : List Addr) (H : Hp) : Ext hd φ cs H φ (cs.set n .dead) H := by
  refine ⟨List.prefix_refl _, .of fun b o q => ?_, fun _ _ => rfl⟩
  obtain ⟨nl, e⟩ := M_of q
  refine M_mk (fun l => nl (l.imp (fun l => ?_) id)) e
  obtain ⟨m, d, e1, e2, l⟩ := l
  by_cases z : n = m
  · subst z
    have hlt := (List.getElem?_eq_some_iff.mp e2).1
    rw [List.length_set] at hlt
    rw [List.getElem?_set_self hlt] at e2
    cases e2
    cases l
  · rw [List.getElem?_set_ne z] at e2
    exact ⟨m, d, e1, e2, l⟩
theorem cs_freeze (h : Cs K hd φ H cs) {n : Nat} : Cs K hd φ H (cs.set n .dead) := by
  have ex := ext_freeze (hd := hd) (n := n) cs φ H
  refine ⟨by simp [h.len], h.nd, fun m b d e1 e2 => ?_, h.hs⟩
  by_cases e : n = m
  · subst e
    have hlt := (List.getElem?_eq_some_iff.mp e2).1
    rw [List.length_set] at hlt
    rw [List.getElem?_set_self hlt] at e2
    cases e2
    exact (h.ok n b cs[n] e1 (List.getElem?_eq_getElem hlt)).nt
  · rw [List.getElem?_set_ne e] at e2
    exact (h.ok m b d e1 e2).keep ex.pre ex.same rfl fun dx q => q
theorem notLiv_frozen (h : Cs K hd φ H cs) {n : Nat} {a : Addr} (ha : φ[n]? = some a) : ¬ Liv φ (cs.set n .dead) a := by
  rintro ⟨m, d, e1, e2, l⟩
  have e := nodup_at h.nd ha e1
  subst e
  have hlt := (List.getElem?_eq_some_iff.mp e2).1
  rw [List.length_set] at hlt
  rw [List.getElem?_set_self hlt] at e2
  cases e2
  cases l
/-! hiding and showing -/
theorem M_hide {a b : Addr} (hb : b ≠ a) : M (a :: hd) φ cs H b = M hd φ cs H b := by
  unfold M
  by_cases l : Liv φ cs b ∨ b ∈ hd
  · rw [if_pos (l.imp id (List.mem_cons_of_mem _)), if_pos l]
  · rw [if_neg (fun z => z.elim (fun z => l (.inl z)) fun z => (List.mem_cons.mp z).elim hb fun z => l (.inr z)), if_neg l]
theorem M_hid {a : Addr} : M (a :: hd) φ cs H a = none := by
  unfold M
  rw [if_pos (.inr List.mem_cons_self)]
theorem same_show (a : Addr) : SameT (M (a :: hd) φ cs H) (M hd φ cs H) := .of fun b o q => by
  have ne : b ≠ a := fun z => by rw [z, M_hid] at q; cases q
  rw [← M_hide ne]
  exact q
/-- a new thing, hidden -/
theorem cs_hide (h : Cs K hd φ H cs) {p : Addr} (hp : H p = none) (o : HO) : Cs K (p :: hd) φ (upd H p o) cs ∧ SameT (M hd φ cs H) (M (p :: hd) φ cs (upd H p o)) := by
  have s : SameT (M hd φ cs H) (M (p :: hd) φ cs (upd H p o)) := .of fun b u q => by
    have ne : b ≠ p := fun z => by
      have := (M_of q).2
      rw [z, hp] at this
      cases this
    rw [M_hide ne, M_new h hp, upd_ne ne]
    exact q
  refine ⟨⟨h.len, h.nd, fun n a c e1 e2 => ?_, fun b m => ?_⟩, s⟩
  · have ok := h.ok n a c e1 e2
    have ne : a ≠ p := fun z => ok.nn (by rw [z]; exact hp)
    exact ok.keep (List.prefix_refl _) s (upd_ne ne) fun dx q => (upd_ne (ne_of_none q hp)).trans q
  · rcases List.mem_cons.mp m with rfl | m
    · exact ⟨by rw [upd_same]; exact (fun z => nomatch z), h.notin hp⟩
    · exact ⟨by rw [upd_ne fun e => h.nhd hp (by rw [← e]; exact m)]; exact (h.hs b m).1, (h.hs b m).2⟩
/-- a hidden thing is put otherwise -/
theorem M_puth (p : Addr) (o : HO) : M (p :: hd) φ cs (upd H p o) = M (p :: hd) φ cs H := by
  funext b
  by_cases e : b = p
  · rw [e, M_hid, M_hid]
  · unfold M
    rw [upd_ne e]
theorem cs_puth {p : Addr} (h : Cs K (p :: hd) φ H cs) (ho : ∀ x, H p ≠ some (.own x)) (o : HO) : Cs K (p :: hd) φ (upd H p o) cs := by
  refine ⟨h.len, h.nd, fun n a c e1 e2 => ?_, fun b m => ⟨?_, (h.hs b m).2⟩⟩
  · have ne : a ≠ p := fun z => (h.hs p List.mem_cons_self).2 (by rw [← z]; exact List.mem_of_getElem? e1)
    rw [M_puth]
    refine (h.ok n a c e1 e2).keep (List.prefix_refl _) (.refl _) (upd_ne ne) fun dx q => (upd_ne ?_).trans q
    rintro rfl
    exact ho _ q
  · by_cases e : b = p
    · rw [e, upd_same]; exact fun z => nomatch z
    · rw [upd_ne e]; exact (h.hs b m).1
/-- shown: for good -/
theorem cs_show {p : Addr} (h : Cs K (p :: hd) φ H cs) : Cs K hd φ H cs :=
  ⟨h.len, h.nd, fun n a c e1 e2 => (h.ok n a c e1 e2).keep (List.prefix_refl _) (same_show p) rfl fun _ q => q, fun b m => h.hs b (List.mem_cons_of_mem _ m)⟩
/-- shown: as a cell -/
theorem same_showC {p : Addr} (h : Cs K (p :: hd) φ H cs) {c : Cell} (hc : c.live = true) (nh : p ∉ hd) : SameT (M (p :: hd) φ cs H) (M hd (φ ++ [p]) (cs ++ [c]) H) := .of fun b o q => by
  have ne : b ≠ p := fun z => by rw [z, M_hid] at q; cases q
  rw [M_cell (cs_show h) hc H ne rfl, ← M_hide ne]
  exact q
theorem cs_showC {p : Addr} (h : Cs K (p :: hd) φ H cs) {c : Cell} (hc : c.live = true) (nh : p ∉ hd) (k : CellOk K φ (M (p :: hd) φ cs H) H p c) : Cs K hd (φ ++ [p]) H (cs ++ [c]) := by
  have s := same_showC h hc nh
  exact cs_cell0 h (h.hs p List.mem_cons_self).2 nh (List.prefix_append _ _) s (fun _ _ => rfl) (fun _ _ q => q) (fun a m => h.hs a (List.mem_cons_of_mem _ m)) (k.keep (List.prefix_append _ _) s rfl fun dx q => q)
end
end EV

namespace EV
open PySem PySem.Spec PyProof.Rows L2 ZG
/-- what a further predicate of the heap bears -/
structure Keeps (J : Hp → Prop) : Prop where
  new : ∀ H p o, J H → H p = none → J (upd H p o)
  lst : ∀ H a xs o, J H → H a = some (.lst xs) → J (upd H a o)
  dct : ∀ H a xs o, J H → H a = some (.dK xs) → J (upd H a o)
  ins : ∀ H a C dx fs o, J H → H a = some (.ins C dx fs) → J (upd H a o)
/-- what is asked behind -/
structure Env where
  K : PySem.W.Frag
  J : Hp → Prop
  EX : XK
  kp : Keeps J
  hd : List Addr
def RX (K : PySem.W.Frag) (φ : List Addr) (G : Hp) (x : Exc) (c : Value) (dx : Option Addr) : Prop :=
  (∃ C, clsA K x.cls = some C ∧ c = .ref C) ∧ ((x.ks = [] ∧ dx = none) ∨ ∃ a xs, x.ks ≠ [] ∧ dx = some a ∧ G a = some (.xd ((x.ks.map fstr).zip xs)) ∧ x.ks.length = x.ds.length ∧ RA K φ G x.ds xs)
section
variable (Y : Env)
structure W1 (φ : List Addr) (cs : Cells) (H : Hp) : Prop where
  cs : Cs Y.K Y.hd φ H cs
  j : Y.J H
def OkG {α β : Type} (rel : List Addr → Hp → α → β → Prop) (φ : List Addr) (cs : Cells) (H : Hp) (r : RsG α) (Q : β → Hp → Prop) : Prop := match r with
  | some (.val d, cs') => ∀ v φ' H', Ext Y.hd φ cs H φ' cs' H' → W1 Y φ' cs' H' → rel φ' (M Y.hd φ' cs' H') d v → Q v H'
  | some (.exc x, cs') => ∀ c dx φ' H', Ext Y.hd φ cs H φ' cs' H' → W1 Y φ' cs' H' → RX Y.K φ' (M Y.hd φ' cs' H') x c dx → Y.EX c dx H'
  | none => False
abbrev OkV (φ : List Addr) (cs : Cells) (H : Hp) (r : Rs) (Q : VK) : Prop := OkG Y (R Y.K) φ cs H r Q
abbrev OkA (φ : List Addr) (cs : Cells) (H : Hp) (r : RsG (List D)) (Q : List V → Hp → Prop) : Prop := OkG Y (RA Y.K) φ cs H r Q
abbrev OkT (φ : List Addr) (cs : Cells) (H : Hp) (r : RsG Bool) (Q : Bool → Hp → Prop) : Prop := OkG Y (fun _ _ b b' => b' = b) φ cs H r Q
end
section
variable {Y : Env} {φ φ1 : List Addr} {cs cs1 : Cells} {H H1 : Hp} {r : Rs} {Q Q' : VK}
section
variable {α β γ δ : Type} {rel : List Addr → Hp → α → β → Prop} {rel2 : List Addr → Hp → γ → δ → Prop} {r : RsG α} {Q Q' : β → Hp → Prop} {Q2 : δ → Hp → Prop}
theorem OkG.later (e : Ext Y.hd φ cs H φ1 cs1 H1) (h : OkG Y rel φ cs H r Q) : OkG Y rel φ1 cs1 H1 r Q := by
  match r, h with
  | some (.val d, cs'), h => exact fun v φ' H' e' => h v φ' H' (e.trans e')
  | some (.exc x, cs'), h => exact fun c dx φ' H' e' => h c dx φ' H' (e.trans e')
theorem OkG.imp (h : OkG Y rel φ cs H r Q) (i : ∀ v H, Q v H → Q' v H) : OkG Y rel φ cs H r Q' := by
  match r, h with
  | some (.val d, cs'), h => exact fun v φ' H' e w q => i _ _ (h v φ' H' e w q)
  | some (.exc x, cs'), h => exact h
/-- what is known between -/
def Mid (Y : Env) (rel : List Addr → Hp → α → β → Prop) (rel2 : List Addr → Hp → γ → δ → Prop) (φ : List Addr) (cs : Cells) (H : Hp) (f : α → Cells → RsG γ) (Q : δ → Hp → Prop) : β → Hp → Prop := fun v H1 =>
  ∃ φ1 cs1 d, Ext Y.hd φ cs H φ1 cs1 H1 ∧ W1 Y φ1 cs1 H1 ∧ rel φ1 (M Y.hd φ1 cs1 H1) d v ∧ OkG Y rel2 φ1 cs1 H1 (f d cs1) Q
theorem OkG.bind {f : α → Cells → RsG γ} (h : OkG Y rel2 φ cs H (r.bind f) Q2) : OkG Y rel φ cs H r (Mid Y rel rel2 φ cs H f Q2) := by
  match r, h with
  | some (.val d, cs'), h => exact fun v φ' H' e w q => ⟨φ', cs', d, e, w, q, h.later e⟩
  | some (.exc x, cs'), h => exact h
theorem OkG.now {d : α} {v : β} (h : OkG Y rel φ cs H (some (.val d, cs)) Q) (w : W1 Y φ cs H) (q : rel φ (M Y.hd φ cs H) d v) : Q v H := h v φ H (.refl _ _ _ _) w q
theorem OkG.nope (h : OkG Y rel φ cs H none Q) : False := h
end
theorem W1.new (w : W1 Y φ cs H) {p : Addr} (hp : H p = none) (o : HO) : W1 Y φ cs (upd H p o) := ⟨cs_new w.cs hp o, Y.kp.new _ _ _ w.j hp⟩
theorem OkV.fresh {d : D} {o : HO} {p : Addr} (h : OkV Y φ cs H (some (.val d, cs)) Q) (w : W1 Y φ cs H) (hp : H p = none) (q : R Y.K φ (upd (M Y.hd φ cs H) p o) d (.ref p)) : Q (.ref p) (upd H p o) :=
  h _ φ _ (ext_new w.cs hp o) (w.new hp o) (by rw [M_new w.cs hp]; exact q)
/-- a new list: for good, or a cell -/
def mkL (own : Bool) (ds : List D) (cs : Cells) : Rs := if own then some (.val (.ref cs.length), cs ++ [.lst ds]) else some (.val (.lst ds), cs)
theorem same_upd {G : Hp} {p : Addr} (h : G p = none) (o : HO) : SameT G (upd G p o) := .of fun b u e => by
  rw [upd_ne (ne_of_none e h)]
  exact e
theorem M_none {p : Addr} (hp : H p = none) : M Y.hd φ cs H p = none := by
  unfold M
  split
  · rfl
  · exact hp
theorem OkV.newL {own : Bool} {ds : List D} {xs : List V} {p : Addr} (h : OkV Y φ cs H (mkL own ds cs) Q) (w : W1 Y φ cs H) (q : RA Y.K φ (M Y.hd φ cs H) ds xs) (hp : H p = none) : Q (.ref p) (upd H p (.lst xs)) := by
  unfold mkL at h
  cases own with
  | false =>
    refine OkV.fresh (d := .lst ds) (by simpa using h) w hp ⟨p, xs, rfl, upd_same, RA.mono (List.prefix_refl _) (same_upd (M_none hp) _) _ _ q⟩
  | true =>
    have h : OkV Y φ cs H (some (.val (.ref cs.length), cs ++ [.lst ds])) Q := by simpa using h
    refine h _ (φ ++ [p]) _ (ext_cell w.cs rfl hp _) ⟨cs_cell w.cs rfl hp _ ⟨xs, upd_same, q⟩, Y.kp.new _ _ _ w.j hp⟩ ⟨p, rfl, ?_⟩
    rw [← w.cs.len]
    simp
theorem OkV.newT {ds : List D} {xs : List V} {p : Addr} (h : OkV Y φ cs H (some (.val (.tup ds), cs)) Q) (w : W1 Y φ cs H) (q : RA Y.K φ (M Y.hd φ cs H) ds xs) (hp : H p = none) : Q (.ref p) (upd H p (.tup xs)) :=
  OkV.fresh h w hp ⟨p, xs, rfl, .inl (.inl upd_same), RA.mono (List.prefix_refl _) (same_upd (M_none hp) _) _ _ q⟩
/-- a cell's list is put otherwise -/
theorem W1.putL (w : W1 Y φ cs H) {n : Nat} {a : Addr} {ds es : List D} {xs ys : List V} (ha : φ[n]? = some a) (hn : cs[n]? = some (.lst ds)) (he : H a = some (.lst xs)) (q : RA Y.K φ (M Y.hd φ cs H) es ys) :
    W1 Y φ (cs.set n (.lst es)) (upd H a (.lst ys)) :=
  ⟨cs_put w.cs ha hn rfl rfl _ (fun x z => by rw [he] at z; cases z) ⟨ys, upd_same, q⟩, Y.kp.lst _ _ _ _ w.j he⟩
/-! ### seeing lists and tuples -/
/-- a list, that may be read and is tracked -/
def lstD (cs : Cells) : D → Option (List D)
  | .lst ds => some ds
  | .ref n => match cs[n]? with
    | some (.lst ds) => some ds
    | _ => none
  | _ => none
/-- a list (false) or tuple (true), to be read -/
def seqD (cs : Cells) : D → Option (Bool × List D)
  | .lst ds => some (false, ds)
  | .frz ds => some (false, ds)
  | .tup ds => some (true, ds)
  | .ref n => match cs[n]? with
    | some (.lst ds) => some (false, ds)
    | _ => none
  | _ => none
theorem lst_see (w : W1 Y φ cs H) {d : D} {v : V} {ds : List D} (h : lstD cs d = some ds) (q : R Y.K φ (M Y.hd φ cs H) d v) : ∃ a xs, v = .ref a ∧ H a = some (.lst xs) ∧ RA Y.K φ (M Y.hd φ cs H) ds xs := by
  match d, h, q with
  | .lst ds', h, ⟨a, xs, e, hg, r⟩ =>
    have h : some ds' = some ds := h
    cases h
    exact ⟨a, xs, e, (M_of hg).2, r⟩
  | .ref n, h, ⟨a, e, hg⟩ =>
    simp only [lstD] at h
    split at h
    · rename_i ds' hc
      cases h
      obtain ⟨xs, e1, r⟩ := w.cs.ok n a _ hg hc
      exact ⟨a, xs, e, e1, r⟩
    · cases h
theorem seq_see (w : W1 Y φ cs H) {d : D} {v : V} {t : Bool} {ds : List D} (h : seqD cs d = some (t, ds)) (q : R Y.K φ (M Y.hd φ cs H) d v) : ∃ a xs, v = .ref a ∧ SqG t Y.K H a xs ∧ RA Y.K φ (M Y.hd φ cs H) ds xs := by
  have s := M_same Y.hd φ cs H
  match d, h, q with
  | .lst ds', h, ⟨a, xs, e, hg, r⟩ =>
    have h : some (false, ds') = some (t, ds) := h
    cases h
    exact ⟨a, xs, e, SqL.of (M_of hg).2, r⟩
  | .frz ds', h, ⟨a, xs, e, hg, r⟩ =>
    have h : some (false, ds') = some (t, ds) := h
    cases h
    exact ⟨a, xs, e, (SameT.of s).lst hg, r⟩
  | .tup ds', h, ⟨a, xs, e, hg, r⟩ =>
    have h : some (true, ds') = some (t, ds) := h
    cases h
    exact ⟨a, xs, e, (SameT.of s).tup hg, r⟩
  | .ref n, h, ⟨a, e, hg⟩ =>
    simp only [seqD] at h
    split at h
    · rename_i ds' hc
      cases h
      obtain ⟨xs, e1, r⟩ := w.cs.ok n a _ hg hc
      exact ⟨a, xs, e, SqL.of e1, r⟩
    · cases h
end
/-! ### operators -/
/-- strings -/
abbrev strMul := HU.repS
instance (i j : Int) : Decidable (CMul i j) := by unfold CMul; infer_instance
instance (i j : Int) : Decidable (CMulW i j) := by unfold CMulW; infer_instance
def binD (own : Bool) (o : Operator) (x y : D) (cs : Cells) : Rs := match o, x, y with
  | .Add, .int i, .int j => some (.val (.int (i + j)), cs)
  | .Sub, .int i, .int j => some (.val (.int (i - j)), cs)
  | .Mult, .int i, .int j => if CMul i j ∨ CMulW i j then some (.val (.int (i * j)), cs) else none
  | .FloorDiv, .int i, .int j => if 0 < j ∧ j.natAbs.log2 < 9000 then some (.val (.int (i / j)), cs) else none
  | .Mod, .int i, .int j => if 0 < j then some (.val (.int (i % j)), cs) else none
  | .Pow, .int i, .int j => if 0 ≤ j ∧ j ≤ 1000000 ∧ i.natAbs < 2 ^ 64 then some (.val (.int (i ^ j.toNat)), cs) else none
  | .Add, .str a, .str b => if a.length + b.length ≤ sizeLine then some (.val (.str (a ++ b)), cs) else none
  | .Mult, .str z, .int k => if 0 ≤ k ∧ k ≤ 1000 ∧ z.length ≤ 1000 ∧ (strMul z k).length ≤ sizeLine then some (.val (.str (strMul z k)), cs) else none
  | .Add, .tup ds, .tup es => if ds.length + es.length ≤ sizeLine then some (.val (.tup (ds ++ es)), cs) else none
  | .Mult, .tup ds, .int k => if ds ≠ [] ∧ -1000 ≤ k ∧ k ≤ 1000 ∧ ds.length ≤ 1000 then some (.val (.tup (List.replicate k.toNat ds).flatten), cs) else none
  | .Add, x, y => match lstD cs x, lstD cs y with
    | some ds, some es => if ds.length + es.length ≤ sizeLine then mkL own (ds ++ es) cs else none
    | _, _ => none
  | .Mult, x, .int k => match lstD cs x with
    | some ds => if -(2 ^ 63) ≤ k ∧ k < 2 ^ 63 ∧ ds.length * k.toNat ≤ sizeLine then mkL own (List.replicate k.toNat ds).flatten cs else none
    | _ => none
  | _, _, _ => none
def rD2 (Y : Env) (f : D → D → Cells → Rs) : R2 := fun x y H Q => ∃ φ cs d e, W1 Y φ cs H ∧ R Y.K φ (M Y.hd φ cs H) d x ∧ R Y.K φ (M Y.hd φ cs H) e y ∧ OkV Y φ cs H (f d e cs) Q
theorem RA.flat {K : PySem.W.Frag} {φ : List Addr} {G : Hp} {ds : List D} {xs : List V} (h : RA K φ G ds xs) : ∀ n : Nat, RA K φ G (List.replicate n ds).flatten (List.replicate n xs).flatten
  | 0 => rfl
  | n + 1 => by
    rw [List.replicate_succ, List.replicate_succ, List.flatten_cons, List.flatten_cons]
    exact h.app (RA.flat h n)
theorem op_D {X : Cx} {Y : Env} (hK : Y.K = X.K) {own : Bool} {o : Operator} : OpR X (binaryOp o) (rD2 Y (binD own o)) := by
  intro pins s σ H x y v u Q I rx ry ⟨φ, cs, d, e, w, hd, he, h⟩
  unfold binD at h
  split at h
  · exact op_add pins s σ H x y v u Q I rx ry ⟨_, _, hd, he, OkG.now h w rfl⟩
  · exact op_sub pins s σ H x y v u Q I rx ry ⟨_, _, hd, he, OkG.now h w rfl⟩
  · split at h
    · rename_i c
      rcases c with c | c
      · exact op_mul pins s σ H x y v u Q I rx ry ⟨_, _, hd, he, c, OkG.now h w rfl⟩
      · exact op_mulW pins s σ H x y v u Q I rx ry ⟨_, _, hd, he, c, OkG.now h w rfl⟩
    · exact (OkG.nope h).elim
  · split at h
    · rename_i c
      exact op_fdivW pins s σ H x y v u Q I rx ry ⟨_, _, hd, he, c, OkG.now h w rfl⟩
    · exact (OkG.nope h).elim
  · split at h
    · rename_i c
      exact op_mod pins s σ H x y v u Q I rx ry ⟨_, _, hd, he, c, OkG.now h w rfl⟩
    · exact (OkG.nope h).elim
  · split at h
    · rename_i c
      exact op_pow pins s σ H x y v u Q I rx ry ⟨_, _, hd, he, c, OkG.now h w rfl⟩
    · exact (OkG.nope h).elim
  · split at h
    · rename_i c
      exact op_add_str pins s σ H x y v u Q I rx ry ⟨_, _, hd, he, c, OkG.now h w rfl⟩
    · exact (OkG.nope h).elim
  · split at h
    · rename_i c
      exact HU.op_mul_str pins s σ H x y v u Q I rx ry ⟨_, _, hd, he, c.1, c.2.1, c.2.2.1, c.2.2.2, OkG.now h w rfl⟩
    · exact (OkG.nope h).elim
  · split at h
    · rename_i ds es c
      obtain ⟨a, xs, ea, ha, ra⟩ := hd
      obtain ⟨b, ys, eb, hb, rb⟩ := he
      have s := SameT.of (M_same Y.hd φ cs H)
      have la := ra.length
      have lb := rb.length
      refine op_catA pins _ σ H x y v u Q I rx ry ⟨a, b, xs, ys, ea, eb, by rw [← hK]; exact s.tup ha, by rw [← hK]; exact s.tup hb, by omega, fun z => ?_, fun _ z => ?_, fun _ _ p hp => OkV.newT h w (ra.app rb) hp⟩
      · subst z
        have : ds = [] := List.eq_nil_of_length_eq_zero (by simpa using la.symm)
        subst this
        exact OkG.now h w ⟨b, ys, rfl, hb, rb⟩
      · subst z
        have : es = [] := List.eq_nil_of_length_eq_zero (by simpa using lb.symm)
        subst this
        exact OkG.now h w ⟨a, xs, rfl, ha, by rw [List.append_nil]; exact ra⟩
    · exact (OkG.nope h).elim
  · split at h
    · rename_i ds k c
      obtain ⟨a, xs, ea, ha, ra⟩ := hd
      have s := SameT.of (M_same Y.hd φ cs H)
      have la := ra.length
      refine op_repA pins _ σ H x y v u Q I rx ry ⟨a, k, xs, ea, he, by rw [← hK]; exact s.tup ha, ?_, c.2.1, c.2.2.1, by omega, fun z => ?_, fun _ p hp => OkV.newT h w (ra.flat _) hp⟩
      · rintro rfl
        exact c.1 (List.eq_nil_of_length_eq_zero (by simpa using la.symm))
      · subst z
        exact OkG.now h w ⟨a, xs, rfl, ha, by simpa using ra⟩
    · exact (OkG.nope h).elim
  · split at h
    · rename_i ds es e1 e2
      split at h
      · rename_i c
        obtain ⟨a, xs, ea, ha, ra⟩ := lst_see w e1 hd
        obtain ⟨b, ys, eb, hb, rb⟩ := lst_see w e2 he
        have la := ra.length
        have lb := rb.length
        exact op_cat pins _ σ H x y v u Q I rx ry ⟨a, b, xs, ys, ea, eb, ha, hb, by omega, fun p hp => OkV.newL h w (ra.app rb) hp⟩
      · exact (OkG.nope h).elim
    · exact (OkG.nope h).elim
  · split at h
    · rename_i ds e1
      split at h
      · rename_i c
        obtain ⟨a, xs, ea, ha, ra⟩ := lst_see w e1 hd
        have la := ra.length
        exact op_rep pins _ σ H x y v u Q I rx ry ⟨a, _, xs, ea, he, ha, c.1, c.2.1, by rw [la]; exact c.2.2, fun p hp => OkV.newL h w (ra.flat _) hp⟩
      · exact (OkG.nope h).elim
    · exact (OkG.nope h).elim
  · exact (OkG.nope h).elim
end EV

namespace EV
open PySem PySem.Spec PyProof.Rows L2 ZG
section
variable {Y : Env} {φ φ1 : List Addr} {cs cs1 : Cells} {H H1 : Hp} {Q Q' : VK}
/-! ### data that == compares -/
mutual
def toPy0 : D → Option PyData
  | .non => some .none
  | .bl b => some (.bool b)
  | .int i => some (.int i)
  | .str x => some (.str x)
  | .tup ds => (toPyA0 ds).map .tuple
  | .lst ds => (toPyA0 ds).map .list
  | .frz ds => (toPyA0 ds).map .list
  | _ => none
def toPyA0 : List D → Option (List PyData)
  | [] => some []
  | d :: ds => match toPy0 d, toPyA0 ds with
    | some p, some ps => some (p :: ps)
    | _, _ => none
end
mutual
def toPy (cs : Cells) : D → Option PyData
  | .non => some .none
  | .bl b => some (.bool b)
  | .int i => some (.int i)
  | .str x => some (.str x)
  | .tup ds => (toPyA cs ds).map .tuple
  | .lst ds => (toPyA cs ds).map .list
  | .frz ds => (toPyA cs ds).map .list
  | .ref n => match cs[n]? with
    | some (.lst ds) => (toPyA0 ds).map .list
    | _ => none
  | _ => none
def toPyA (cs : Cells) : List D → Option (List PyData)
  | [] => some []
  | d :: ds => match toPy cs d, toPyA cs ds with
    | some p, some ps => some (p :: ps)
    | _, _ => none
end
section
variable {K : PySem.W.Frag} {G : Hp}
mutual
theorem dp_of0 (s : Same G H) : ∀ (d : D) (v : V) (p : PyData), toPy0 d = some p → R K φ G d v → Dp K H v p
  | .non, v, p, h, q => by cases h; cases q; exact .non
  | .bl b, v, p, h, q => by cases h; cases q; exact .bl b
  | .int i, v, p, h, q => by cases h; cases q; exact .int i
  | .str x, v, p, h, q => by cases h; cases q; exact .str x
  | .tup ds, v, p, h, ⟨a, xs, e, g, r⟩ => by
    simp only [toPy0, Option.map_eq_some_iff] at h
    obtain ⟨ps, h1, rfl⟩ := h
    subst e
    exact .tup ((SameT.of s).tup g) (dp_ofA0 s ds xs ps h1 r)
  | .lst ds, v, p, h, ⟨a, xs, e, g, r⟩ => by
    simp only [toPy0, Option.map_eq_some_iff] at h
    obtain ⟨ps, h1, rfl⟩ := h
    subst e
    exact .lst (SqL.of (s _ _ g)) (dp_ofA0 s ds xs ps h1 r)
  | .frz ds, v, p, h, ⟨a, xs, e, g, r⟩ => by
    simp only [toPy0, Option.map_eq_some_iff] at h
    obtain ⟨ps, h1, rfl⟩ := h
    subst e
    exact .lst ((SameT.of s).lst g) (dp_ofA0 s ds xs ps h1 r)
  | .dct _ _, _, _, h, _ => by simp [toPy0] at h
  | .ins _ _ _, _, _, h, _ => by simp [toPy0] at h
  | .st _, _, _, h, _ => by simp [toPy0] at h
  | .ref _, _, _, h, _ => by simp [toPy0] at h
  | .obj _, _, _, h, _ => by simp [toPy0] at h
theorem dp_ofA0 (s : Same G H) : ∀ (ds : List D) (xs : List V) (ps : List PyData), toPyA0 ds = some ps → RA K φ G ds xs → DpAll K H xs ps
  | [], xs, ps, h, q => by cases h; cases q; exact .nil
  | d :: ds, xs, ps, h, ⟨y, ys, e, q, r⟩ => by
    simp only [toPyA0] at h
    split at h
    · rename_i p ps' h1 h2
      cases h
      subst e
      exact .cons (dp_of0 s d y p h1 q) (dp_ofA0 s ds ys ps' h2 r)
    · cases h
end
end
mutual
theorem dp_of (w : W1 Y φ cs H) : ∀ (d : D) (v : V) (p : PyData), toPy cs d = some p → R Y.K φ (M Y.hd φ cs H) d v → Dp Y.K H v p
  | .non, v, p, h, q => by cases h; cases q; exact .non
  | .bl b, v, p, h, q => by cases h; cases q; exact .bl b
  | .int i, v, p, h, q => by cases h; cases q; exact .int i
  | .str x, v, p, h, q => by cases h; cases q; exact .str x
  | .tup ds, v, p, h, ⟨a, xs, e, g, r⟩ => by
    simp only [toPy, Option.map_eq_some_iff] at h
    obtain ⟨ps, h1, rfl⟩ := h
    subst e
    exact .tup ((SameT.of (M_same _ _ _ _)).tup g) (dp_ofA w ds xs ps h1 r)
  | .lst ds, v, p, h, ⟨a, xs, e, g, r⟩ => by
    simp only [toPy, Option.map_eq_some_iff] at h
    obtain ⟨ps, h1, rfl⟩ := h
    subst e
    exact .lst (SqL.of (M_of g).2) (dp_ofA w ds xs ps h1 r)
  | .frz ds, v, p, h, ⟨a, xs, e, g, r⟩ => by
    simp only [toPy, Option.map_eq_some_iff] at h
    obtain ⟨ps, h1, rfl⟩ := h
    subst e
    exact .lst ((SameT.of (M_same _ _ _ _)).lst g) (dp_ofA w ds xs ps h1 r)
  | .dct _ _, _, _, h, _ => by simp [toPy] at h
  | .ins _ _ _, _, _, h, _ => by simp [toPy] at h
  | .st _, _, _, h, _ => by simp [toPy] at h
  | .ref n, v, p, h, ⟨a, e, g⟩ => by
    simp only [toPy] at h
    split at h
    · rename_i ds hc
      simp only [Option.map_eq_some_iff] at h
      obtain ⟨ps, h1, rfl⟩ := h
      subst e
      obtain ⟨xs, e1, r⟩ := w.cs.ok n a _ g hc
      exact .lst (SqL.of e1) (dp_ofA0 (M_same _ _ _ _) ds xs ps h1 r)
    · cases h
  | .obj _, _, _, h, _ => by simp [toPy] at h
theorem dp_ofA (w : W1 Y φ cs H) : ∀ (ds : List D) (xs : List V) (ps : List PyData), toPyA cs ds = some ps → RA Y.K φ (M Y.hd φ cs H) ds xs → DpAll Y.K H xs ps
  | [], xs, ps, h, q => by cases h; cases q; exact .nil
  | d :: ds, xs, ps, h, ⟨y, ys, e, q, r⟩ => by
    simp only [toPyA] at h
    split at h
    · rename_i p ps' h1 h2
      cases h
      subst e
      exact .cons (dp_of w d y p h1 q) (dp_ofA w ds ys ps' h2 r)
    · cases h
end
end
end EV

namespace EV
open PySem PySem.Spec PyProof.Rows L2 ZG
section
variable {Y : Env} {φ φ1 : List Addr} {cs cs1 : Cells} {H H1 : Hp} {Q Q' : VK}
/-! ### kinds -/
def tyD (cs : Cells) : D → Option String
  | .non => some "NoneType"
  | .bl _ => some "bool"
  | .int _ => some "int"
  | .str _ => some "str"
  | .tup _ => some "tuple"
  | .lst _ => some "list"
  | .frz _ => some "list"
  | .dct _ _ => some "dict"
  | .ins _ _ _ => none
  | .st _ => none
  | .ref n => match cs[n]? with
    | some (.lst _) => some "list"
    | some (.dct _ _) => some "dict"
    | _ => none
  | .obj _ => none
theorem ty_seqT {K : PySem.W.Frag} {a : Addr} {xs : List V} (h : SqT K H a xs) : TyX K H (.ref a) (.type "tuple") := by
  rcases h with (h | ⟨o, h⟩) | ⟨o, its, n, hk, hc, _⟩
  · exact .base (.tup h)
  · exact .fTuple h
  · exact .kTuple hk hc
theorem ty_seqL {K : PySem.W.Frag} {a : Addr} {xs : List V} (h : SqL K H a xs) : TyX K H (.ref a) (.type "list") := by
  rcases h with (h | ⟨o, h⟩) | ⟨o, its, n, hk, hc, _⟩
  · exact .base (.lst h)
  · exact .base (.frz h)
  · exact .kList hk hc
theorem ty_see (w : W1 Y φ cs H) {d : D} {v : V} {n : String} (h : tyD cs d = some n) (q : R Y.K φ (M Y.hd φ cs H) d v) : TyX Y.K H v (.type n) := by
  have s := SameT.of (M_same Y.hd φ cs H)
  match d, h, q with
  | .non, h, q => cases h; cases q; exact .base .non
  | .bl b, h, q => cases h; cases q; exact .base (.bl b)
  | .int i, h, q => cases h; cases q; exact .base (.int i)
  | .str x, h, q => cases h; cases q; exact .base (.str x)
  | .tup ds, h, ⟨a, xs, e, g, r⟩ => cases h; subst e; exact ty_seqT (s.tup g)
  | .lst ds, h, ⟨a, xs, e, g, r⟩ => cases h; subst e; exact ty_seqL (SqL.of (M_of g).2)
  | .frz ds, h, ⟨a, xs, e, g, r⟩ => cases h; subst e; exact ty_seqL (s.lst g)
  | .dct ks ds, h, ⟨a, xs, e, g, l, r⟩ => cases h; subst e; exact .base (.dK (M_of g).2)
  | .ref m, h, ⟨a, e, g⟩ =>
    subst e
    simp only [tyD] at h
    split at h
    · rename_i ds hc
      cases h
      obtain ⟨xs, e1, r⟩ := w.cs.ok m a _ g hc
      exact .base (.lst e1)
    · rename_i ks ds hc
      cases h
      obtain ⟨xs, e1, _, r⟩ := w.cs.ok m a _ g hc
      exact .base (.dK e1)
    · cases h
/-- the kinds that are asked for -/
def isTy (n m : String) : Bool := n == m || (n == "bool" && m == "int")
def kindsD : List String := ["NoneType", "bool", "int", "str", "tuple", "list", "dict"]
def asksD : List String := ["bool", "int", "str", "tuple", "list", "dict"]
theorem isTy_ok : ∀ n ∈ kindsD, ∀ m ∈ asksD, kitB n m = some (isTy n m) := by decide +kernel
theorem tyD_mem {d : D} {n : String} (h : tyD cs d = some n) : n ∈ kindsD := by
  match d, h with
  | .non, h => cases h; decide
  | .bl b, h => cases h; decide
  | .int i, h => cases h; decide
  | .str x, h => cases h; decide
  | .tup ds, h => cases h; decide
  | .lst ds, h => cases h; decide
  | .frz ds, h => cases h; decide
  | .dct ks ds, h => cases h; decide
  | .ref m, h =>
    simp only [tyD] at h
    split at h
    · cases h; decide
    · cases h; decide
    · cases h
end
end EV

namespace EV
open PySem PySem.Spec PyProof.Rows L2 ZG
/-! ### truth -/
def truD (cs : Cells) : D → Option Bool
  | .non => some false
  | .bl b => some b
  | .int i => some (i != 0)
  | .str x => if x.length ≤ sizeLine then some ((x.length : Int) != 0) else none
  | d => match seqD cs d with
    | some (_, ds) => some (!ds.isEmpty)
    | none => match d with
      | .dct ks _ => some (!ks.isEmpty)
      | .ref n => match cs[n]? with
        | some (.dct ks _) => some (!ks.isEmpty)
        | _ => none
      | _ => none
theorem empty_len {α β : Type} {xs : List α} {ys : List β} (h : xs.length = ys.length) : xs.isEmpty = ys.isEmpty := by
  cases xs <;> cases ys <;> simp_all
theorem tru_see {Y : Env} {φ : List Addr} {cs : Cells} {H : Hp} (w : W1 Y φ cs H) {d : D} {v : V} {k : Bool} (h : truD cs d = some k) (q : R Y.K φ (M Y.hd φ cs H) d v) : TruV Y.K v H k := by
  have seqC : ∀ {d : D} {t : Bool} {ds : List D}, seqD cs d = some (t, ds) → R Y.K φ (M Y.hd φ cs H) d v → TruV Y.K v H (!ds.isEmpty) := by
    intro d t ds e q
    obtain ⟨a, xs, rfl, g, r⟩ := seq_see w e q
    have l := empty_len r.length
    cases t with
    | false => exact .inl ⟨xs, g, by rw [l]⟩
    | true => exact .inr (.inl ⟨xs, g, by rw [l]⟩)
  have zl : ∀ (ks : List Key) (xs : List V), xs.length = ks.length → (ks.zip xs).isEmpty = ks.isEmpty := by
    intro ks xs e
    cases ks <;> cases xs <;> simp_all
  match d, h, q with
  | .non, h, q => cases h; cases q; rfl
  | .bl b, h, q => cases h; cases q; rfl
  | .int i, h, q => cases h; cases q; rfl
  | .str x, h, q =>
    simp only [truD] at h
    split at h
    · rename_i c
      cases h; cases q; exact ⟨c, rfl⟩
    · cases h
  | .tup ds, h, q => cases h; exact seqC (d := .tup ds) (t := true) rfl q
  | .lst ds, h, q => cases h; exact seqC (d := .lst ds) (t := false) rfl q
  | .frz ds, h, q => cases h; exact seqC (d := .frz ds) (t := false) rfl q
  | .dct ks ds, h, ⟨a, xs, e, g, l, r⟩ =>
    cases h; subst e
    have := r.length
    exact .inr (.inr ⟨_, (M_of g).2, by rw [zl ks xs (by omega)]⟩)
  | .ref n, h, ⟨a, e, g⟩ =>
    subst e
    simp only [truD, seqD] at h
    cases hc : cs[n]? with
    | none => rw [hc] at h; cases h
    | some c =>
      rw [hc] at h
      cases c with
      | lst ds =>
        cases h
        exact seqC (d := .ref n) (t := false) (by simp [seqD, hc]) ⟨a, rfl, g⟩
      | dct ks ds =>
        cases h
        obtain ⟨xs, e1, l, r⟩ := w.cs.ok n a _ g hc
        have := r.length
        exact .inr (.inr ⟨_, e1, by rw [zl ks xs (by omega)]⟩)
      | ins C ks ds => cases h
      | dead => cases h
  | .ins _ _ _, h, q => cases h
  | .st _, h, q => cases h
  | .obj u, h, q => cases h
end EV

namespace EV
open PySem PySem.Spec PyProof.Rows L2 ZG
/-! ### comparisons -/
def isNon : D → Bool
  | .non => true
  | _ => false
theorem isNon_see {Y : Env} {φ : List Addr} {G : Hp} {d : D} {v : V} (q : R Y.K φ G d v) (h : ∀ u, d ≠ .obj u) : decide (v = .non) = isNon d := by
  match d, q with
  | .non, q => cases q; rfl
  | .bl b, q => cases q; rfl
  | .int i, q => cases q; rfl
  | .str x, q => cases q; rfl
  | .tup ds, ⟨a, xs, e, _⟩ => subst e; rfl
  | .lst ds, ⟨a, xs, e, _⟩ => subst e; rfl
  | .frz ds, ⟨a, xs, e, _⟩ => subst e; rfl
  | .dct ks ds, ⟨a, xs, e, _⟩ => subst e; rfl
  | .ins _ _ _, ⟨a, _, _, _, e, _⟩ => subst e; rfl
  | .st _, ⟨a, _, _, e, _⟩ => subst e; rfl
  | .ref n, ⟨a, e, _⟩ => subst e; rfl
  | .obj u, q => exact absurd rfl (h u)
def isObjD : D → Bool
  | .obj _ => true
  | _ => false
def eqD (cs : Cells) (x y : D) : Option Bool := match toPy cs x, toPy cs y with
  | some p, some q => if SeqAt.shaped p = true ∧ SeqAt.shaped q = true then some (PyData.eqv p q) else none
  | _, _ => none
def strD : D → D → Option Bool
  | .str a, .str b => some (a == b)
  | _, _ => none
/-- texts are compared whatever their signs -/
def eqS (cs : Cells) (x y : D) : Option Bool := match strD x y with
  | some b => some b
  | none => eqD cs x y
theorem strD_is {x y : D} {b : Bool} (h : strD x y = some b) : ∃ u v : Str, x = .str u ∧ y = .str v ∧ b = (u == v) := by
  unfold strD at h
  split at h
  · cases h
    exact ⟨_, _, rfl, rfl, rfl⟩
  · cases h
theorem eqS_of {cs : Cells} {x y : D} {b : Bool} (h : eqD cs x y = some b) : eqS cs x y = some b := by
  unfold eqS
  split
  · rename_i c hc
    obtain ⟨u, v, rfl, rfl, rfl⟩ := strD_is hc
    unfold eqD at h
    simp only [toPy] at h
    split at h
    · rw [← h]
      simp [PyData.eqv]
    · cases h
  · exact h
/-- a sign within a text; an item within a list or tuple -/
def flatD : D → Bool
  | .non => true
  | .bl _ => true
  | .int _ => true
  | .str _ => true
  | _ => false
def eqF : D → D → Bool
  | .non, .non => true
  | .bl a, .bl b => a == b
  | .bl a, .int b => (if a then 1 else 0) == b
  | .int a, .bl b => a == (if b then 1 else 0)
  | .int a, .int b => a == b
  | .str a, .str b => a == b
  | _, _ => false
def inD (cs : Cells) (x y : D) : Option Bool := match x, y with
  | .str a, .str b => some (!(Builtin.Str.occurrences b a 0 b.length 1).isEmpty)
  | x, y => match seqD cs y with
    | some (t, ds) => if flatD x = true ∧ ds.all flatD = true then some (ds.any fun z => eqF z x) else if t = false then (match toPy cs x, toPy cs y with
        | some p, some (.list qs) => if SeqAt.shaped p = true ∧ SeqAt.shaped (.list qs) = true then some (qs.any fun z => PyData.eqv z p) else none
        | _, _ => none) else none
    | none => none
def cmpD (o : CmpOp) (x y : D) (cs : Cells) : Rs := match o with
  | .Eq => (eqS cs x y).map fun b => (.val (.bl b), cs)
  | .NotEq => (eqS cs x y).map fun b => (.val (.bl (!b)), cs)
  | .Lt => match x, y with
    | .int i, .int j => some (.val (.bl (decide (i < j))), cs)
    | _, _ => none
  | .LtE => match x, y with
    | .int i, .int j => some (.val (.bl (decide (i ≤ j))), cs)
    | _, _ => none
  | .Gt => match x, y with
    | .int i, .int j => some (.val (.bl (decide (j < i))), cs)
    | _, _ => none
  | .GtE => match x, y with
    | .int i, .int j => some (.val (.bl (decide (j ≤ i))), cs)
    | _, _ => none
  | .Is => match y with
    | .non => if isObjD x then none else some (.val (.bl (isNon x)), cs)
    | _ => none
  | .IsNot => match y with
    | .non => if isObjD x then none else some (.val (.bl (!isNon x)), cs)
    | _ => none
  | .In => (inD cs x y).map fun b => (.val (.bl b), cs)
  | .NotIn => (inD cs x y).map fun b => (.val (.bl (!b)), cs)
end EV

namespace EV
open PySem PySem.Spec PyProof.Rows L2 ZG
theorem flat_k {Y : Env} {φ : List Addr} {G : Hp} {d : D} {v : V} (q : R Y.K φ G d v) (h : flatD d = true) : (d = .non ∧ v = .non) ∨ (∃ b, d = .bl b ∧ v = .bl b) ∨ (∃ b, d = .int b ∧ v = .int b) ∨ ∃ b, d = .str b ∧ v = .str b := by
  cases d with
  | non => exact .inl ⟨rfl, q⟩
  | bl b => exact .inr (.inl ⟨b, rfl, q⟩)
  | int b => exact .inr (.inr (.inl ⟨b, rfl, q⟩))
  | str b => exact .inr (.inr (.inr ⟨b, rfl, q⟩))
  | tup _ => cases h
  | lst _ => cases h
  | frz _ => cases h
  | dct _ _ => cases h
  | ins _ _ _ => cases h
  | st _ => cases h
  | ref _ => cases h
  | obj _ => cases h
theorem flat_see {Y : Env} {φ : List Addr} {G : Hp} {d : D} {v : V} (q : R Y.K φ G d v) (h : flatD d = true) : flatV v = true := by
  rcases flat_k q h with ⟨_, rfl⟩ | ⟨b, _, rfl⟩ | ⟨b, _, rfl⟩ | ⟨b, _, rfl⟩ <;> rfl
theorem eqF_see {Y : Env} {φ : List Addr} {G : Hp} {d e : D} {v u : V} (q : R Y.K φ G d v) (r : R Y.K φ G e u) (h : flatD d = true) (h2 : flatD e = true) : eqV v u = eqF d e := by
  rcases flat_k q h with ⟨rfl, rfl⟩ | ⟨b, rfl, rfl⟩ | ⟨b, rfl, rfl⟩ | ⟨b, rfl, rfl⟩ <;> rcases flat_k r h2 with ⟨rfl, rfl⟩ | ⟨c, rfl, rfl⟩ | ⟨c, rfl, rfl⟩ | ⟨c, rfl, rfl⟩ <;> rfl
theorem flatA_see {Y : Env} {φ : List Addr} {G : Hp} {e : D} {u : V} (r : R Y.K φ G e u) (h2 : flatD e = true) : ∀ {ds : List D} {xs : List V}, RA Y.K φ G ds xs → ds.all flatD = true → xs.all flatV = true ∧ inV u xs = ds.any fun z => eqF z e
  | [], _, h, _ => by cases h; exact ⟨rfl, rfl⟩
  | d :: ds, _, ⟨y, ys, e1, q, rr⟩, h => by
    subst e1
    rw [List.all_cons, Bool.and_eq_true] at h
    obtain ⟨a, b⟩ := flatA_see r h2 rr h.2
    refine ⟨by rw [List.all_cons, flat_see q h.1, a]; rfl, ?_⟩
    show (List.any (y :: ys) fun z => eqV z u) = _
    rw [List.any_cons, List.any_cons, eqF_see q r h.1 h2]
    exact congrArg _ b
end EV

namespace EV
open PySem PySem.Spec PyProof.Rows L2 ZG
theorem cmp_D {X : Cx} {Y : Env} (hK : Y.K = X.K) (hu : X.A.units + 65 < cLine) {o : CmpOp} : OpR X (compareOp o) (rD2 Y (cmpD o)) := by
  intro pins s σ H x y v u Q I rx ry ⟨φ, cs, d, e, w, hd, he, h⟩
  have s := SameT.of (M_same Y.hd φ cs H)
  cases o with
  | Eq =>
    simp only [cmpD, eqS] at h
    cases hs : strD d e with
    | some b =>
      rw [hs] at h
      obtain ⟨a1, a2, rfl, rfl, rfl⟩ := strD_is hs
      cases (show x = V.str a1 from hd)
      cases (show y = V.str a2 from he)
      refine op_eq pins _ σ H _ _ v u Q I rx ry ⟨rfl, ?_⟩
      rw [dec_str]
      exact OkG.now h w rfl
    | none =>
    rw [hs] at h
    simp only [eqD] at h
    split at h
    · rename_i p q hp hq
      split at h
      · rename_i c
        exact op_eqD (by omega) pins _ σ H x y v u Q I rx ry ⟨p, q, by rw [← hK]; exact dp_of w d x p hp hd, by rw [← hK]; exact dp_of w e y q hq he, c.1, c.2, OkG.now h w rfl⟩
      · exact (OkG.nope h).elim
    · exact (OkG.nope h).elim
  | NotEq =>
    simp only [cmpD, eqS] at h
    cases hs : strD d e with
    | some b =>
      rw [hs] at h
      obtain ⟨a1, a2, rfl, rfl, rfl⟩ := strD_is hs
      cases (show x = V.str a1 from hd)
      cases (show y = V.str a2 from he)
      refine op_ne pins _ σ H _ _ v u Q I rx ry ⟨rfl, ?_⟩
      rw [dec_str]
      exact OkG.now h w rfl
    | none =>
    rw [hs] at h
    simp only [eqD] at h
    split at h
    · rename_i p q hp hq
      split at h
      · rename_i c
        exact op_neD (by omega) pins _ σ H x y v u Q I rx ry ⟨p, q, by rw [← hK]; exact dp_of w d x p hp hd, by rw [← hK]; exact dp_of w e y q hq he, c.1, c.2, OkG.now h w rfl⟩
      · exact (OkG.nope h).elim
    · exact (OkG.nope h).elim
  | Lt =>
    simp only [cmpD] at h
    split at h
    · exact op_lt pins _ σ H x y v u Q I rx ry ⟨_, _, hd, he, OkG.now h w rfl⟩
    · exact (OkG.nope h).elim
  | LtE =>
    simp only [cmpD] at h
    split at h
    · exact op_le pins _ σ H x y v u Q I rx ry ⟨_, _, hd, he, OkG.now h w rfl⟩
    · exact (OkG.nope h).elim
  | Gt =>
    simp only [cmpD] at h
    split at h
    · exact op_gt pins _ σ H x y v u Q I rx ry ⟨_, _, hd, he, OkG.now h w rfl⟩
    · exact (OkG.nope h).elim
  | GtE =>
    simp only [cmpD] at h
    split at h
    · exact op_ge pins _ σ H x y v u Q I rx ry ⟨_, _, hd, he, OkG.now h w rfl⟩
    · exact (OkG.nope h).elim
  | Is =>
    simp only [cmpD] at h
    split at h
    · split at h
      · exact (OkG.nope h).elim
      · rename_i c
        refine op_isN pins _ σ H x y v u Q I rx ry ⟨he, ?_⟩
        rw [isNon_see hd fun u z => c (by rw [z]; rfl)]
        exact OkG.now h w rfl
    · exact (OkG.nope h).elim
  | IsNot =>
    simp only [cmpD] at h
    split at h
    · split at h
      · exact (OkG.nope h).elim
      · rename_i c
        refine op_notN pins _ σ H x y v u Q I rx ry ⟨he, ?_⟩
        rw [isNon_see hd fun u z => c (by rw [z]; rfl)]
        exact OkG.now h w rfl
    · exact (OkG.nope h).elim
  | In =>
    simp only [cmpD, inD] at h
    split at h
    · exact op_in_str pins _ σ H x y v u Q I rx ry ⟨_, _, hd, he, OkG.now h w rfl⟩
    · split at h
      · rename_i t ds hs
        obtain ⟨a, xs, rfl, g, r⟩ := seq_see w hs he
        split at h
        · rename_i c
          obtain ⟨f1, f2⟩ := flatA_see hd c.1 r c.2
          refine op_in_seq pins _ σ H x (.ref a) v u Q I rx ry ⟨a, xs, rfl, by rw [← hK]; cases t; exact .inl g; exact .inr g, flat_see hd c.1, f1, ?_⟩
          show Q (.bl (inV x xs)) H
          rw [f2]
          exact OkG.now h w rfl
        · split at h
          · split at h
            · rename_i p qs hp hq
              split at h
              · rename_i c
                exact op_inD hu pins _ σ H x (.ref a) v u Q I rx ry ⟨p, qs, by rw [← hK]; exact dp_of w _ x p hp hd, by rw [← hK]; exact dp_of w _ _ _ hq he, c.1, c.2, OkG.now h w rfl⟩
              · exact (OkG.nope h).elim
            · exact (OkG.nope h).elim
          · exact (OkG.nope h).elim
      · exact (OkG.nope h).elim
  | NotIn =>
    simp only [cmpD, inD] at h
    split at h
    · exact op_notin_str pins _ σ H x y v u Q I rx ry ⟨_, _, hd, he, OkG.now h w rfl⟩
    · split at h
      · rename_i t ds hs
        obtain ⟨a, xs, rfl, g, r⟩ := seq_see w hs he
        split at h
        · rename_i c
          obtain ⟨f1, f2⟩ := flatA_see hd c.1 r c.2
          refine op_notIn_seq pins _ σ H x (.ref a) v u Q I rx ry ⟨a, xs, rfl, by rw [← hK]; cases t; exact .inl g; exact .inr g, flat_see hd c.1, f1, ?_⟩
          show Q (.bl (!inV x xs)) H
          rw [f2]
          exact OkG.now h w rfl
        · split at h
          · split at h
            · rename_i p qs hp hq
              split at h
              · rename_i c
                exact op_notInD hu pins _ σ H x (.ref a) v u Q I rx ry ⟨p, qs, by rw [← hK]; exact dp_of w _ x p hp hd, by rw [← hK]; exact dp_of w _ _ _ hq he, c.1, c.2, OkG.now h w rfl⟩
              · exact (OkG.nope h).elim
            · exact (OkG.nope h).elim
          · exact (OkG.nope h).elim
      · exact (OkG.nope h).elim
end EV

namespace EV
open PySem PySem.Spec PyProof.Rows L2 ZG
theorem RsG.bind_assoc {α β γ : Type} (r : RsG α) (f : α → Cells → RsG β) (g : β → Cells → RsG γ) : (r.bind f).bind g = r.bind fun d cs => (f d cs).bind g := by
  match r with
  | none => rfl
  | some (.val d, cs) => rfl
  | some (.exc x, cs) => rfl
abbrev Slots := List (Option D)
structure RS (Y : Env) (φ : List Addr) (G : Hp) (sl : Slots) (σ : L2.St) : Prop where
  len : sl.length = σ.length
  at_ : ∀ (i : Nat) (d : D), sl[i]? = some (some d) → ∃ v, σ[i]? = some (some v) ∧ R Y.K φ G d v
/-- readings over data -/
def tG {α β : Type} (Y : Env) (rel : List Addr → Hp → α → β → Prop) (f : Slots → Cells → RsG α) : L2.St → Hp → (β → Hp → Prop) → Prop := fun σ H Q =>
  ∃ sl φ cs, RS Y φ (M Y.hd φ cs H) sl σ ∧ W1 Y φ cs H ∧ OkG Y rel φ cs H (f sl cs) Q
abbrev tR (Y : Env) (f : Slots → Cells → Rs) : TE := tG Y (R Y.K) f
abbrev tRA (Y : Env) (f : Slots → Cells → RsG (List D)) : TA := tG Y (RA Y.K) f
abbrev tRT (Y : Env) (f : Slots → Cells → RsG Bool) : TT := tG Y (fun _ _ b b' => b' = b) f
section
variable {Y : Env} {φ φ1 : List Addr} {cs cs1 : Cells} {H H1 : Hp}
theorem RS.later {sl : Slots} {σ : L2.St} (r : RS Y φ (M Y.hd φ cs H) sl σ) (e : Ext Y.hd φ cs H φ1 cs1 H1) : RS Y φ1 (M Y.hd φ1 cs1 H1) sl σ := ⟨r.len, fun i d h => by
  obtain ⟨v, h1, h2⟩ := r.at_ i d h
  exact ⟨v, h1, e.r h2⟩⟩
theorem RS.set {sl : Slots} {σ : L2.St} (r : RS Y φ (M Y.hd φ cs H) sl σ) (i : Nat) {d : D} {v : V} (q : R Y.K φ (M Y.hd φ cs H) d v) : RS Y φ (M Y.hd φ cs H) (sl.set i (some d)) (σ.set i (some v)) := by
  refine ⟨by simp [r.len], fun j e h => ?_⟩
  by_cases c : i = j
  · subst c
    have hl := (List.getElem?_eq_some_iff.mp h).1
    rw [List.length_set] at hl
    rw [List.getElem?_set_self hl] at h
    cases h
    exact ⟨v, List.getElem?_set_self (by rw [← r.len]; exact hl), q⟩
  · rw [List.getElem?_set_ne c] at h
    rw [List.getElem?_set_ne c]
    exact r.at_ j e h
theorem RS.unset {sl : Slots} {σ : L2.St} {G : Hp} (r : RS Y φ G sl σ) (i : Nat) : RS Y φ G (sl.set i none) (σ.set i none) := by
  refine ⟨by simp [r.len], fun j e h => ?_⟩
  by_cases c : i = j
  · subst c
    have hl := (List.getElem?_eq_some_iff.mp h).1
    rw [List.length_set] at hl
    rw [List.getElem?_set_self hl] at h
    cases h
  · rw [List.getElem?_set_ne c] at h
    rw [List.getElem?_set_ne c]
    exact r.at_ j e h
def wipeD (sl : Slots) : List Nat → Slots
  | [] => sl
  | v :: vs => (wipeD sl vs).set v none
theorem RS.wipe {sl : Slots} {σ : L2.St} {G : Hp} (r : RS Y φ G sl σ) : ∀ vs : List Nat, RS Y φ G (wipeD sl vs) (L2.wipe σ vs)
  | [] => r
  | v :: vs => (RS.wipe r vs).unset v
end
section
variable {X : Cx} {Y : Env}
theorem pe_weak {e : Expr} {t t' : TE} (h : PE X e t) (i : ∀ σ H Q, t' σ H Q → t σ H Q) : PE X e t' := ⟨fun pins s σ H Q I w => h.run pins s σ H Q I (i _ _ _ w)⟩
theorem pt_weak {e : Expr} {t t' : TT} (h : PT X e t) (i : ∀ σ H Q, t' σ H Q → t σ H Q) : PT X e t' := ⟨fun pins s σ H Q I w => h.run pins s σ H Q I (i _ _ _ w)⟩
theorem pa_weak {e : List Expr} {t t' : TA} (h : PA X e t) (i : ∀ σ H Q, t' σ H Q → t σ H Q) : PA X e t' := ⟨fun pos pins s σ H Q I w => h.run pos pins s σ H Q I (i _ _ _ w)⟩
theorem ps_weak {e : Stmt} {t t' : TS} (h : PS X e t) (i : ∀ D σ H, t' D σ H → t D σ H) : PS X e t' := ⟨fun pins s σ H D I w => h.run pins s σ H D I (i _ _ _ w)⟩
theorem pss_weak {e : List Stmt} {t t' : TS} (h : PSs X e t) (i : ∀ D σ H, t' D σ H → t D σ H) : PSs X e t' := ⟨fun pins s σ H D I w => h.run pins s σ H D I (i _ _ _ w)⟩

/-- a state's reading, told of that state -/
def tAt {α β : Type} (Y : Env) (rel : List Addr → Hp → α → β → Prop) (σ : L2.St) (sl : Slots) (φ : List Addr) (cs : Cells) (H : Hp) (r : RsG α) (Q : β → Hp → Prop) : Prop := RS Y φ (M Y.hd φ cs H) sl σ ∧ W1 Y φ cs H ∧ OkG Y rel φ cs H r Q
/-- the first of two: what stands behind -/
theorem tG.first {α β γ δ : Type} {rel : List Addr → Hp → α → β → Prop} {rel2 : List Addr → Hp → γ → δ → Prop} {f : Slots → Cells → RsG α} {g : α → Cells → RsG γ} {σ : L2.St} {H : Hp} {sl : Slots} {φ : List Addr} {cs : Cells} {Q : δ → Hp → Prop} {T : β → Hp → Prop}
    (rs : RS Y φ (M Y.hd φ cs H) sl σ) (w : W1 Y φ cs H) (ok : OkG Y rel2 φ cs H ((f sl cs).bind g) Q)
    (k : ∀ φ1 cs1 d x H1, Ext Y.hd φ cs H φ1 cs1 H1 → RS Y φ1 (M Y.hd φ1 cs1 H1) sl σ → W1 Y φ1 cs1 H1 → rel φ1 (M Y.hd φ1 cs1 H1) d x → OkG Y rel2 φ1 cs1 H1 (g d cs1) Q → T x H1) : tG Y rel f σ H T := by
  refine ⟨sl, φ, cs, rs, w, (OkG.bind (rel := rel) ok).imp ?_⟩
  rintro x H1 ⟨φ1, cs1, d, e1, w1, q1, ok1⟩
  exact k φ1 cs1 d x H1 e1 (rs.later e1) w1 q1 ok1
variable {a b : Expr} {pos : Pos} {f g : Slots → Cells → Rs}
theorem pe_varD {i : Nat} {x : Str} (hN : X.N[i]? = some x) (hv : Vis X.env.scope x) (hd : (x == ("__debug__" : Str)) = false) (hcd : (x == ("__classdict__" : Str)) = false) :
    PE X (.Name x pos) (tR Y fun sl cs => match sl[i]? with | some (some d) => some (.val d, cs) | _ => none) := by
  refine pe_weak (pe_var hN hv hd hcd) fun σ H Q h => ?_
  obtain ⟨sl, φ, cs, rs, w, ok⟩ := h
  dsimp only at ok
  split at ok
  · rename_i d e
    obtain ⟨v, h1, h2⟩ := rs.at_ i d e
    exact ⟨v, h1, OkG.now ok w h2⟩
  · exact (OkG.nope ok).elim
theorem pe_conD {e : Expr} {v : V} {d : D} (h : PE X e (tC v)) (r : ∀ φ G, R Y.K φ G d v) : PE X e (tR Y fun _ cs => some (.val d, cs)) :=
  pe_weak h fun σ H Q ⟨sl, φ, cs, rs, w, ok⟩ => OkG.now ok w (r _ _)
theorem tOp_D {F : D → D → Cells → Rs} {σ : L2.St} {H : Hp} {Q : VK} (h : tR Y (fun sl cs => (f sl cs).bind fun x cs => (g sl cs).bind fun y cs => F x y cs) σ H Q) : tOp (rD2 Y F) (tR Y f) (tR Y g) σ H Q := by
  obtain ⟨sl, φ, cs, rs, w, ok⟩ := h
  refine tG.first rs w ok fun φ1 cs1 d x H1 e1 rs1 w1 q1 ok1 => ?_
  refine tG.first rs1 w1 ok1 fun φ2 cs2 e y H2 e2 rs2 w2 q2 ok2 => ?_
  exact ⟨φ2, cs2, d, e, w2, e2.r q1, q2, ok2⟩
theorem pe_binD (hK : Y.K = X.K) {own : Bool} {o : Operator} (ha : PE X a (tR Y f)) (hb : PE X b (tR Y g)) : PE X (.BinOp a o b pos) (tR Y fun sl cs => (f sl cs).bind fun x cs => (g sl cs).bind fun y cs => binD own o x y cs) :=
  pe_weak (pe_op (op_D hK) ha hb) fun _ _ _ h => tOp_D h
theorem pe_cmpD (hK : Y.K = X.K) (hu : X.A.units + 65 < cLine) {o : CmpOp} (ha : PE X a (tR Y f)) (hb : PE X b (tR Y g)) (hm : behindInMarks o b = false) : PE X (.Compare a [o] [b] pos) (tR Y fun sl cs => (f sl cs).bind fun x cs => (g sl cs).bind fun y cs => cmpD o x y cs) :=
  pe_weak (pe_cmpR (cmp_D hK hu) ha hb hm) fun _ _ _ h => tOp_D h
/-- a value that must be a truth -/
def blD (d : D) (cs : Cells) : RsG Bool := match d with
  | .bl b => some (.val b, cs)
  | _ => none
theorem tTest_D {σ : L2.St} {H : Hp} {Q : Bool → Hp → Prop} {t : TE} {f : Slots → Cells → Rs} (i : ∀ Q, tR Y f σ H Q → t σ H Q) (h : tRT Y (fun sl cs => (f sl cs).bind blD) σ H Q) : tTest t σ H Q := by
  obtain ⟨sl, φ, cs, rs, w, ok⟩ := h
  refine i _ (tG.first rs w ok fun φ1 cs1 d x H1 e1 rs1 w1 q1 ok1 => ?_)
  unfold blD at ok1
  split at ok1
  · exact ⟨_, q1, OkG.now ok1 w1 rfl⟩
  · exact (OkG.nope ok1).elim
theorem pt_cmpD (hK : Y.K = X.K) (hu : X.A.units + 65 < cLine) {o : CmpOp} (ha : PE X a (tR Y f)) (hb : PE X b (tR Y g)) (hm : behindInMarks o b = false) : PT X (.Compare a [o] [b] pos) (tRT Y fun sl cs => (((f sl cs).bind fun x cs => (g sl cs).bind fun y cs => cmpD o x y cs)).bind blD) :=
  pt_weak (pt_cmpR (cmp_D hK hu) ha hb hm) fun σ H Q h => tTest_D (f := fun sl cs => (f sl cs).bind fun x cs => (g sl cs).bind fun y cs => cmpD o x y cs) (fun Q h => tOp_D h) h
/-- chains a o b o' c -/
def chnD (f g k : Slots → Cells → Rs) (o o' : CmpOp) : Slots → Cells → Rs := fun sl cs => (f sl cs).bind fun x cs => (g sl cs).bind fun y cs => (cmpD o x y cs).bind fun z cs => match z with
  | .bl true => (k sl cs).bind fun u cs => cmpD o' y u cs
  | .bl false => some (.val (.bl false), cs)
  | _ => none
variable {c : Expr} {k : Slots → Cells → Rs}
theorem tChain_D {o o' : CmpOp} {σ : L2.St} {H : Hp} {Q : VK} (h : tR Y (chnD f g k o o') σ H Q) : tChain (rD2 Y (cmpD o)) (rD2 Y (cmpD o')) (tR Y f) (tR Y g) (tR Y k) σ H Q := by
  obtain ⟨sl, φ, cs, rs, w, ok⟩ := h
  refine tG.first rs w ok fun φ1 cs1 d x H1 e1 rs1 w1 q1 ok1 => ?_
  refine tG.first rs1 w1 ok1 fun φ2 cs2 e y H2 e2 rs2 w2 q2 ok2 => ?_
  refine ⟨φ2, cs2, d, e, w2, e2.r q1, q2, (OkG.bind (rel := R Y.K) ok2).imp ?_⟩
  rintro z H3 ⟨φ3, cs3, t, e3, w3, q3, ok3⟩
  dsimp only at ok3
  split at ok3
  · refine ⟨true, q3, ?_⟩
    rw [if_pos rfl]
    refine tG.first (rs2.later e3) w3 ok3 fun φ4 cs4 u y' H4 e4 rs4 w4 q4 ok4 => ?_
    exact ⟨φ4, cs4, e, u, w4, e4.r (e3.r q2), q4, ok4⟩
  · refine ⟨false, q3, ?_⟩
    rw [if_neg Bool.false_ne_true]
    exact OkG.now ok3 w3 rfl
  · exact (OkG.nope ok3).elim
theorem pe_chnD (hK : Y.K = X.K) (hu : X.A.units + 65 < cLine) {o o' : CmpOp} (ha : PE X a (tR Y f)) (hb : PE X b (tR Y g)) (hc : PE X c (tR Y k)) (hm : lastMarks [o, o'] [b, c] = false) : PE X (.Compare a [o, o'] [b, c] pos) (tR Y (chnD f g k o o')) :=
  pe_weak (pe_chain (cmp_D hK hu) (cmp_D hK hu) ha hb hc hm) fun _ _ _ h => tChain_D h
theorem pt_chnD (hK : Y.K = X.K) (hu : X.A.units + 65 < cLine) {o o' : CmpOp} (ha : PE X a (tR Y f)) (hb : PE X b (tR Y g)) (hc : PE X c (tR Y k)) (hm : lastMarks [o, o'] [b, c] = false) : PT X (.Compare a [o, o'] [b, c] pos) (tRT Y fun sl cs => (chnD f g k o o' sl cs).bind blD) :=
  pt_weak (pt_chain (cmp_D hK hu) (cmp_D hK hu) ha hb hc hm) fun _ _ _ h => tTest_D (fun _ h => tChain_D h) h
/-! ### truth, and, or, not -/
def truR (d : D) (cs : Cells) : RsG Bool := (truD cs d).map fun b => (.val b, cs)
theorem pt_truD (hK : Y.K = X.K) (ha : PE X a (tR Y f)) (he : ∀ whole, isTrue a X.env whole = (do let v ← whole; standAt a.pos; holding [v] (truthy v))) : PT X a (tRT Y fun sl cs => (f sl cs).bind truR) := by
  refine pt_weak (pt_truth ha he) fun σ H Q h => ?_
  obtain ⟨sl, φ, cs, rs, w, ok⟩ := h
  refine tG.first rs w ok fun φ1 cs1 d x H1 e1 rs1 w1 q1 ok1 => ?_
  unfold truR at ok1
  cases ht : truD cs1 d with
  | none =>
    rw [ht] at ok1
    exact (OkG.nope ok1).elim
  | some b =>
    rw [ht] at ok1
    exact ⟨b, by rw [← hK]; exact tru_see w1 ht q1, OkG.now ok1 w1 rfl⟩
def notB (b : Bool) (cs : Cells) : RsG Bool := some (.val (!b), cs)
def bB (b : Bool) (cs : Cells) : Rs := some (.val (.bl b), cs)
variable {p q : Slots → Cells → RsG Bool} {rest : List Expr}
theorem pt_notD (ha : PT X a (tRT Y p)) : PT X (.UnaryOp .Not a pos) (tRT Y fun sl cs => (p sl cs).bind notB) := by
  refine pt_weak (pt_not ha) fun σ H Q h => ?_
  obtain ⟨sl, φ, cs, rs, w, ok⟩ := h
  refine tG.first rs w ok fun φ1 cs1 d x H1 e1 rs1 w1 q1 ok1 => ?_
  subst q1
  exact OkG.now ok1 w1 rfl
/-- not e as a value -/
theorem pe_notD (hK : Y.K = X.K) (ha : PE X a (tR Y f)) : PE X (.UnaryOp .Not a pos) (tR Y fun sl cs => ((f sl cs).bind truR).bind fun b cs => bB (!b) cs) := by
  refine pe_weak (pe_notT ha) fun σ H Q h => ?_
  obtain ⟨sl, φ, cs, rs, w, ok⟩ := h
  dsimp only at ok
  rw [RsG.bind_assoc] at ok
  refine tG.first rs w ok fun φ1 cs1 d x H1 e1 rs1 w1 q1 ok1 => ?_
  unfold truR at ok1
  cases ht : truD cs1 d with
  | none =>
    rw [ht] at ok1
    exact (OkG.nope ok1).elim
  | some b =>
    rw [ht] at ok1
    exact ⟨b, by rw [← hK]; exact tru_see w1 ht q1, OkG.now ok1 w1 rfl⟩
theorem pw_weak {e : Expr} {t t' : TT} (h : PW X e t) (i : ∀ σ H Q, t' σ H Q → t σ H Q) : PW X e t' := ⟨fun wh pins s σ H Q I w => h.run wh pins s σ H Q I (i _ _ _ w)⟩
theorem pw_andD (ha : PT X a (tRT Y p)) (hb : PW X (.BoolOp .And (b :: rest) pos) (tRT Y q)) : PW X (.BoolOp .And (a :: b :: rest) pos) (tRT Y fun sl cs => (p sl cs).bind fun k cs => if k = true then q sl cs else some (.val false, cs)) := by
  refine pw_weak (pw_and ha hb) fun σ H Q h => ?_
  obtain ⟨sl, φ, cs, rs, w, ok⟩ := h
  refine tG.first rs w ok fun φ1 cs1 d x H1 e1 rs1 w1 q1 ok1 => ?_
  subst q1
  cases x with
  | true => rw [if_pos rfl] at ok1 ⊢; exact ⟨sl, φ1, cs1, rs1, w1, ok1⟩
  | false => rw [if_neg Bool.false_ne_true] at ok1 ⊢; exact OkG.now ok1 w1 rfl
theorem pw_orD (ha : PT X a (tRT Y p)) (hb : PW X (.BoolOp .Or (b :: rest) pos) (tRT Y q)) : PW X (.BoolOp .Or (a :: b :: rest) pos) (tRT Y fun sl cs => (p sl cs).bind fun k cs => if k = true then some (.val true, cs) else q sl cs) := by
  refine pw_weak (pw_or ha hb) fun σ H Q h => ?_
  obtain ⟨sl, φ, cs, rs, w, ok⟩ := h
  refine tG.first rs w ok fun φ1 cs1 d x H1 e1 rs1 w1 q1 ok1 => ?_
  subst q1
  cases x with
  | true => rw [if_pos rfl] at ok1 ⊢; exact OkG.now ok1 w1 rfl
  | false => rw [if_neg Bool.false_ne_true] at ok1 ⊢; exact ⟨sl, φ1, cs1, rs1, w1, ok1⟩
/-- as values, by truth -/
theorem pe_andD (hK : Y.K = X.K) (ha : PE X a (tR Y f)) (hb : PE X (.BoolOp .And (b :: rest) pos) (tR Y g)) : PE X (.BoolOp .And (a :: b :: rest) pos) (tR Y fun sl cs => (f sl cs).bind fun d cs => match truD cs d with
    | some true => g sl cs
    | some false => some (.val d, cs)
    | none => none) := by
  refine pe_weak (pe_andT ha hb) fun σ H Q h => ?_
  obtain ⟨sl, φ, cs, rs, w, ok⟩ := h
  refine tG.first rs w ok fun φ1 cs1 d x H1 e1 rs1 w1 q1 ok1 => ?_
  split at ok1
  · rename_i ht
    refine ⟨true, by rw [← hK]; exact tru_see w1 ht q1, ?_⟩
    rw [if_pos rfl]
    exact ⟨sl, φ1, cs1, rs1, w1, ok1⟩
  · rename_i ht
    refine ⟨false, by rw [← hK]; exact tru_see w1 ht q1, ?_⟩
    rw [if_neg Bool.false_ne_true]
    exact OkG.now ok1 w1 q1
  · exact (OkG.nope ok1).elim
theorem pe_orD (hK : Y.K = X.K) (ha : PE X a (tR Y f)) (hb : PE X (.BoolOp .Or (b :: rest) pos) (tR Y g)) : PE X (.BoolOp .Or (a :: b :: rest) pos) (tR Y fun sl cs => (f sl cs).bind fun d cs => match truD cs d with
    | some false => g sl cs
    | some true => some (.val d, cs)
    | none => none) := by
  refine pe_weak (pe_orT ha hb) fun σ H Q h => ?_
  obtain ⟨sl, φ, cs, rs, w, ok⟩ := h
  refine tG.first rs w ok fun φ1 cs1 d x H1 e1 rs1 w1 q1 ok1 => ?_
  split at ok1
  · rename_i ht
    refine ⟨false, by rw [← hK]; exact tru_see w1 ht q1, ?_⟩
    rw [if_neg Bool.false_ne_true]
    exact ⟨sl, φ1, cs1, rs1, w1, ok1⟩
  · rename_i ht
    refine ⟨true, by rw [← hK]; exact tru_see w1 ht q1, ?_⟩
    rw [if_pos rfl]
    exact OkG.now ok1 w1 q1
  · exact (OkG.nope ok1).elim
theorem pe_ifD (hc : PT X c (tRT Y p)) (ha : PE X a (tR Y f)) (hb : PE X b (tR Y g)) : PE X (.IfExp c a b pos) (tR Y fun sl cs => (p sl cs).bind fun k cs => if k = true then f sl cs else g sl cs) := by
  refine pe_weak (pe_ifExp hc ha hb) fun σ H Q h => ?_
  obtain ⟨sl, φ, cs, rs, w, ok⟩ := h
  refine tG.first rs w ok fun φ1 cs1 d x H1 e1 rs1 w1 q1 ok1 => ?_
  subst q1
  cases x with
  | true => rw [if_pos rfl] at ok1 ⊢; exact ⟨sl, φ1, cs1, rs1, w1, ok1⟩
  | false => rw [if_neg Bool.false_ne_true] at ok1 ⊢; exact ⟨sl, φ1, cs1, rs1, w1, ok1⟩
def negD (d : D) (cs : Cells) : Rs := match d with
  | .int i => some (.val (.int (-i)), cs)
  | _ => none
theorem pe_negD (ha : PE X a (tR Y f)) : PE X (.UnaryOp .USub a pos) (tR Y fun sl cs => (f sl cs).bind negD) := by
  refine pe_weak (pe_un un_neg ha) fun σ H Q h => ?_
  obtain ⟨sl, φ, cs, rs, w, ok⟩ := h
  refine tG.first rs w ok fun φ1 cs1 d x H1 e1 rs1 w1 q1 ok1 => ?_
  unfold negD at ok1
  split at ok1
  · exact ⟨_, q1, OkG.now ok1 w1 rfl⟩
  · exact (OkG.nope ok1).elim
/-! ### arguments and displays -/
variable {es : List Expr} {A B : Slots → Cells → RsG (List D)}
theorem pa_nilD : PA X [] (tRA Y fun _ cs => some (.val [], cs)) := by
  refine pa_weak pa_nil fun σ H Q h => ?_
  obtain ⟨sl, φ, cs, rs, w, ok⟩ := h
  exact OkG.now ok w rfl
theorem pa_consD (ha : PE X a (tR Y f)) (hr : PA X es (tRA Y A)) (hs : starEach (a :: es) X.env = (false, eval a X.env) :: starEach es X.env) :
    PA X (a :: es) (tRA Y fun sl cs => (f sl cs).bind fun d cs => (A sl cs).bind fun ds cs => some (.val (d :: ds), cs)) := by
  refine pa_weak (pa_cons ha hr hs) fun σ H Q h => ?_
  obtain ⟨sl, φ, cs, rs, w, ok⟩ := h
  refine tG.first rs w ok fun φ1 cs1 d x H1 e1 rs1 w1 q1 ok1 => ?_
  refine tG.first rs1 w1 ok1 fun φ2 cs2 ds xs H2 e2 rs2 w2 q2 ok2 => ?_
  exact OkG.now ok2 w2 ⟨x, xs, rfl, e2.r q1, q2⟩
def mkT (ds : List D) (cs : Cells) : Rs := if ds.length ≤ sizeLine then some (.val (.tup ds), cs) else none
def mkL1 (own : Bool) (ds : List D) (cs : Cells) : Rs := if ds.length ≤ sizeLine then mkL own ds cs else none
theorem pe_tupD {x1} (h : PA X es (tRA Y A)) : PE X (.Tuple es x1 pos) (tR Y fun sl cs => (A sl cs).bind mkT) := by
  refine pe_weak (pe_tup h) fun σ H Q h => ?_
  obtain ⟨sl, φ, cs, rs, w, ok⟩ := h
  refine tG.first rs w ok fun φ1 cs1 d x H1 e1 rs1 w1 q1 ok1 => ?_
  unfold mkT at ok1
  split at ok1
  · rename_i c
    exact ⟨by rw [q1.length]; exact c, fun p hp => OkV.newT ok1 w1 q1 hp⟩
  · exact (OkG.nope ok1).elim
theorem pe_lstD {own : Bool} (h : PA X es (tRA Y A)) : PE X (.List es pos) (tR Y fun sl cs => (A sl cs).bind (mkL1 own)) := by
  refine pe_weak (pe_lst h) fun σ H Q h => ?_
  obtain ⟨sl, φ, cs, rs, w, ok⟩ := h
  refine tG.first rs w ok fun φ1 cs1 d x H1 e1 rs1 w1 q1 ok1 => ?_
  unfold mkL1 at ok1
  split at ok1
  · rename_i c
    exact ⟨by rw [q1.length]; exact c, fun p hp => OkV.newL ok1 w1 q1 hp⟩
  · exact (OkG.nope ok1).elim
end
end EV

namespace EV
open PySem PySem.Spec PyProof.Rows L2 ZG
section
variable {K : PySem.W.Frag} {φ : List Addr} {G : Hp}
theorem RA.atI {ds : List D} {xs : List V} {i : Int} {d : D} (h : RA K φ G ds xs) (e : L2.atI ds i = some d) : ∃ v, L2.atI xs i = some v ∧ R K φ G d v := by
  unfold L2.atI at e ⊢
  rw [h.length]
  cases q : ixN ds.length i with
  | none => rw [q] at e; cases e
  | some j =>
    rw [q] at e
    exact h.get (show ds[j]? = some d from e)
def cutD (xs : List D) (lo hi : Option Int) : List D := (xs.drop (HT.sIx xs.length 0 lo)).take (HT.sIx xs.length xs.length hi - HT.sIx xs.length 0 lo)
theorem RA.cut {ds : List D} {xs : List V} (h : RA K φ G ds xs) (lo hi : Option Int) : RA K φ G (cutD ds lo hi) (cutV xs lo hi) := by
  unfold cutD cutV
  rw [h.length]
  exact (h.drop _).take _
theorem cut_whole {xs : List V} {lo hi : Option Int} (h : HT.sIx xs.length 0 lo = 0 ∧ HT.sIx xs.length xs.length hi = xs.length) : cutV xs lo hi = xs := by
  unfold cutV
  rw [h.1, h.2, List.drop_zero, Nat.sub_zero, List.take_length]
end
section
variable {X : Cx} {Y : Env} {a b c : Expr} {pos : Pos} {f g k : Slots → Cells → Rs}
/-! ### subscripts -/
def ixD (x y : D) (cs : Cells) : Rs := match y with
  | .int i => match seqD cs x with
    | some (_, ds) => (L2.atI ds i).map fun d => (.val d, cs)
    | none => match x with
      | .str z => if z.length ≤ sizeLine then (L2.atI z.cps.toList i).map fun c => (.val (.str ⟨#[c]⟩), cs) else none
      | _ => none
  | _ => none
theorem ix_D (hK : Y.K = X.K) : IxR X (rD2 Y ixD) := by
  intro value slice pins s σ H x y v u Q I rx ry ⟨φ, cs, d, e, w, hd, he, h⟩ hs
  unfold ixD at h
  split at h
  · rename_i i
    split at h
    · rename_i t ds e1
      obtain ⟨p, xs, rfl, g, r⟩ := seq_see w e1 hd
      cases e2 : L2.atI ds i with
      | none => rw [e2] at h; exact (OkG.nope h).elim
      | some d' =>
        rw [e2] at h
        obtain ⟨z, e3, q⟩ := r.atI e2
        cases t with
        | false => exact ix_list value slice pins s σ H _ y v u Q I rx ry ⟨p, xs, i, z, rfl, he, by rw [← hK]; exact g, e3, OkG.now h w q⟩ hs
        | true => exact ix_tup value slice pins s σ H _ y v u Q I rx ry ⟨p, xs, i, z, rfl, he, by rw [← hK]; exact g, e3, OkG.now h w q⟩ hs
    · split at h
      · rename_i z _
        split at h
        · rename_i cz
          cases e2 : L2.atI z.cps.toList i with
          | none => rw [e2] at h; exact (OkG.nope h).elim
          | some ch =>
            rw [e2] at h
            exact ix_str value slice pins s σ H _ y v u Q I rx ry ⟨z, i, ch, hd, he, cz, e2, OkG.now h w rfl⟩ hs
        · exact (OkG.nope h).elim
      · exact (OkG.nope h).elim
  · exact (OkG.nope h).elim
theorem pe_ixD (hK : Y.K = X.K) (ha : PE X a (tR Y f)) (hb : PE X b (tR Y g)) (hs : PlainIx b) : PE X (.Subscript a b pos) (tR Y fun sl cs => (f sl cs).bind fun x cs => (g sl cs).bind fun y cs => ixD x y cs) :=
  pe_weak (pe_ix (ix_D hK) ha hb hs) fun _ _ _ h => tOp_D h
/-- a slice's part -/
def partD (o : Option (Slots → Cells → Rs)) (sl : Slots) (cs : Cells) : RsG (Option Int) := match o with
  | none => some (.val none, cs)
  | some g => (g sl cs).bind fun d cs => match d with
    | .int i => some (.val (some i), cs)
    | _ => none
def tO (Y : Env) (o : Option (Slots → Cells → Rs)) : TO := match o with
  | none => tNoPart
  | some g => tPart (tR Y g)
theorem tO_D {o : Option (Slots → Cells → Rs)} {σ : L2.St} {H : Hp} {Q : Option Int → Hp → Prop} (h : tG Y (fun _ _ (i j : Option Int) => j = i) (partD o) σ H Q) : tO Y o σ H Q := by
  obtain ⟨sl, φ, cs, rs, w, ok⟩ := h
  cases o with
  | none => exact OkG.now ok w rfl
  | some g =>
    refine tG.first rs w ok fun φ1 cs1 d x H1 e1 rs1 w1 q1 ok1 => ?_
    split at ok1
    · exact ⟨_, q1, OkG.now ok1 w1 rfl⟩
    · exact (OkG.nope ok1).elim
def slD (own : Bool) (x : D) (lo hi : Option Int) (cs : Cells) : Rs := match seqD cs x with
  | some (false, ds) => mkL own (cutD ds lo hi) cs
  | some (true, ds) => some (.val (.tup (cutD ds lo hi)), cs)
  | none => match x with
    | .str z => if z.length ≤ sizeLine then some (.val (.str (cutS z lo hi)), cs) else none
    | _ => none
def rSlD (Y : Env) (own : Bool) : V → Option Int → Option Int → Hp → VK → Prop := fun x lo hi H Q => ∃ φ cs d, W1 Y φ cs H ∧ R Y.K φ (M Y.hd φ cs H) d x ∧ OkV Y φ cs H (slD own d lo hi cs) Q
theorem sl_D (hK : Y.K = X.K) {own : Bool} : SlR X (rSlD Y own) := by
  intro pins s σ H x v vl vu lo hi sl Q I rx hs pl pu ⟨φ, cs, d, w, hd, h⟩
  unfold slD at h
  split at h
  · rename_i ds e1
    obtain ⟨p, xs, rfl, g, r⟩ := seq_see w e1 hd
    exact sl_list pins s σ H _ v vl vu lo hi sl Q I rx hs pl pu ⟨p, xs, rfl, by rw [← hK]; exact g, fun p' hp => OkV.newL h w (r.cut lo hi) hp⟩
  · rename_i ds e1
    have hd0 := hd
    obtain ⟨p, xs, rfl, g, r⟩ := seq_see w e1 hd
    refine sl_tupA pins s σ H _ v vl vu lo hi sl Q I rx hs pl pu ⟨p, xs, rfl, by rw [← hK]; exact g, fun z => ?_, fun _ p' hp => OkV.newT h w (r.cut lo hi) hp⟩
    refine OkG.now h w ?_
    have rc := r.cut lo hi
    rw [cut_whole z] at rc
    match d, e1, hd0 with
    | .tup ds', e1, ⟨a', xs', ea, ga, ra⟩ =>
      have e1 : some (true, ds') = some (true, ds) := e1
      cases e1
      cases ea
      have : xs' = xs := by
        rcases Nat.decEq 0 0 with z | z
        · exact absurd rfl z
        · have g' : SqT Y.K H p xs := g
          have ga' : SqT Y.K H p xs' := (SameT.of (M_same Y.hd φ cs H)).tup ga
          exact I.tuple_inj (by rw [← hK]; exact ga') (by rw [← hK]; exact g')
      subst this
      exact ⟨p, xs', rfl, ga, rc⟩
    | .ref n, e1, _ =>
      simp only [seqD] at e1
      split at e1 <;> cases e1
  · split at h
    · rename_i z _
      split at h
      · rename_i cz
        exact sl_str pins s σ H _ v vl vu lo hi sl Q I rx hs pl pu ⟨z, hd, cz, OkG.now h w rfl⟩
      · exact (OkG.nope h).elim
    · exact (OkG.nope h).elim
theorem pe_slD (hK : Y.K = X.K) {own : Bool} {o1 o2 : Option (Slots → Cells → Rs)} {lo hi : Option Expr} {p2 : Pos} (ha : PE X a (tR Y f)) (hl : PO X lo (tO Y o1)) (hu : PO X hi (tO Y o2)) :
    PE X (.Subscript a (.Slice lo hi none p2) pos) (tR Y fun sl cs => (f sl cs).bind fun x cs => (partD o1 sl cs).bind fun l cs => (partD o2 sl cs).bind fun u cs => slD own x l u cs) := by
  refine pe_weak (pe_slice (sl_D (own := own) hK) ha hl hu) fun σ H Q h => ?_
  obtain ⟨sl, φ, cs, rs, w, ok⟩ := h
  refine tG.first rs w ok fun φ1 cs1 d x H1 e1 rs1 w1 q1 ok1 => ?_
  refine tO_D (tG.first rs1 w1 ok1 fun φ2 cs2 l l' H2 e2 rs2 w2 q2 ok2 => ?_)
  refine tO_D (tG.first rs2 w2 ok2 fun φ3 cs3 u u' H3 e3 rs3 w3 q3 ok3 => ?_)
  subst q2 q3
  exact ⟨φ3, cs3, d, w3, e3.r (e2.r q1), ok3⟩
/-! ### isinstance of a built-in class -/
def isiD (m : String) (d : D) (cs : Cells) : Rs := match tyD cs d with
  | some n => some (.val (.bl (isTy n m)), cs)
  | none => none
def isisD (ms : List String) (d : D) (cs : Cells) : Rs := match tyD cs d with
  | some n => some (.val (.bl (ms.any fun m => isTy n m)), cs)
  | none => none
theorem pe_isiD (hK : Y.K = X.K) {m : String} {mx : Str} {p p2 : Pos} (hm : m ∈ asksD) (hmx : bootBuiltins mx = some (.type m)) (ha : PE X a (tR Y f)) (hg : Gl X "isinstance") (h1 : X.mg "isinstance" = none) (hg2 : Gl X mx) (h2 : X.mg mx = none) (hn : mx ≠ "__name__") (hd : (mx == ("__debug__" : Str)) = false)
    (hs : starEach [a, .Name mx p2] X.env = [(false, eval a X.env), (false, eval (.Name mx p2) X.env)]) :
    PE X (.Call (.Name "isinstance" p) [a, .Name mx p2] [] pos) (tR Y fun sl cs => (f sl cs).bind (isiD m)) := by
  refine pe_weak (pe_callB call_isi hg h1 (by decide +kernel) (pa_cons ha (pa_cons (pe_bltn (v := .ty m) hg2 h2 hmx rfl hn hd) pa_nil) hs) (by decide) (by decide) hs (by rfl)) fun σ H Q h => ?_
  obtain ⟨sl, φ, cs, rs, w, ok⟩ := h
  refine tG.first rs w ok fun φ1 cs1 d x H1 e1 rs1 w1 q1 ok1 => ?_
  unfold isiD at ok1
  split at ok1
  · rename_i n ht
    have ty := ty_see w1 ht q1
    rw [hK] at ty
    exact ⟨x, .ty m, _, _, _, rfl, .ty m, ty, kit_ty (isTy_ok n (tyD_mem ht) m hm), OkG.now ok1 w1 rfl⟩
  · exact (OkG.nope ok1).elim
theorem pa_bts : ∀ (ms : List (Str × String × Pos)), (∀ q ∈ ms, Gl X q.1 ∧ X.mg q.1 = none ∧ bootBuiltins q.1 = some (.type q.2.1) ∧ q.1 ≠ "__name__" ∧ (q.1 == ("__debug__" : Str)) = false) →
    PA X (ms.map fun q => .Name q.1 q.2.2) (fun _ H Q => Q (ms.map fun q => .ty q.2.1) H)
  | [], _ => pa_nil
  | q :: ms, h => by
    obtain ⟨h1, h2, h3, h4, h5⟩ := h q List.mem_cons_self
    exact pa_weak (pa_cons (pe_bltn (v := .ty q.2.1) h1 h2 h3 rfl h4 h5) (pa_bts ms fun q' hq => h q' (List.mem_cons_of_mem _ hq)) rfl) fun _ _ _ h => h
theorem paired_ty : ∀ ms : List (Str × String × Pos), Paired ClsV (ms.map fun q => V.ty q.2.1) (ms.map fun q => Value.type q.2.1)
  | [] => .nil
  | q :: ms => .cons (.ty _) (paired_ty ms)
theorem kitAny_ty {K : PySem.W.Frag} {n : String} (hn : n ∈ kindsD) : ∀ ms : List (Str × String × Pos), (∀ q ∈ ms, q.2.1 ∈ asksD) → PySem.W.kitAny K (.type n) (ms.map fun q => Value.type q.2.1) = some ((ms.map fun q => q.2.1).any fun m => isTy n m)
  | [], _ => kitAny_nil
  | q :: ms, h => by
    have ih := kitAny_ty (K := K) hn ms fun q' hq => h q' (List.mem_cons_of_mem _ hq)
    refine kitAny_cons (b := isTy n q.2.1) (kit_ty (isTy_ok n hn _ (h q List.mem_cons_self))) (fun e => ?_) (fun e => ?_)
    · rw [ih, List.map_cons, List.any_cons, e, Bool.false_or]
    · rw [List.map_cons, List.any_cons, e, Bool.true_or]
theorem pe_isisD (hK : Y.K = X.K) {ms : List (Str × String × Pos)} {p p2 : Pos} {x1} (hm : ∀ q ∈ ms, q.2.1 ∈ asksD) (hms : ∀ q ∈ ms, Gl X q.1 ∧ X.mg q.1 = none ∧ bootBuiltins q.1 = some (.type q.2.1) ∧ q.1 ≠ "__name__" ∧ (q.1 == ("__debug__" : Str)) = false)
    (hl : ms.length ≤ 16) (ha : PE X a (tR Y f)) (hg : Gl X "isinstance") (h1 : X.mg "isinstance" = none) (hs : ∀ es, starEach (a :: es) X.env = (false, eval a X.env) :: starEach es X.env) :
    PE X (.Call (.Name "isinstance" p) [a, .Tuple (ms.map fun q => .Name q.1 q.2.2) x1 p2] [] pos) (tR Y fun sl cs => (f sl cs).bind (isisD (ms.map fun q => q.2.1))) := by
  refine pe_weak (pe_callB call_isiT hg h1 (by decide +kernel) (pa_cons ha (pa_cons (pe_tup (pa_bts ms hms)) pa_nil rfl) (hs _)) (by decide) (by decide) (hs _) (by rfl)) fun σ H Q h => ?_
  obtain ⟨sl, φ, cs, rs, w, ok⟩ := h
  refine tG.first rs w ok fun φ1 cs1 d x H1 e1 rs1 w1 q1 ok1 => ?_
  unfold isisD at ok1
  split at ok1
  · rename_i n ht
    refine ⟨by rw [List.length_map]; exact Nat.le_trans hl (by decide), fun p hp => ?_⟩
    have ty := ty_see (w1.new hp (.tup (ms.map fun q => V.ty q.2.1))) ht ((ext_new w1.cs hp _).r q1)
    rw [hK] at ty
    exact ⟨x, p, _, _, _, _, rfl, upd_same, paired_ty ms, ty, kitAny_ty (tyD_mem ht) ms hm, OkG.now (OkG.later (ext_new w1.cs hp _) ok1) (w1.new hp _) rfl⟩
  · exact (OkG.nope ok1).elim
end
end EV

namespace EV
open PySem PySem.Spec PyProof.Rows L2 ZG
/-! ### any and all of whole numbers -/
theorem ints_at {its : List Value} {ns : List Int} (h : IntsAre its ns) : ∀ (i : Nat) (v : Value), its[i]? = some v → ∃ t, v = .int (ns.getD i 0) t := by
  induction h with
  | nil => intro i v h; simp at h
  | cons n t _ ih =>
    intro i v h
    cases i with
    | zero => simp at h; subst h; exact ⟨t, rfl⟩
    | succ i => simpa using ih i v (by simpa using h)
theorem ints_len {its : List Value} {ns : List Int} (h : IntsAre its ns) : its.length = ns.length := by
  induction h with
  | nil => rfl
  | cons _ _ _ ih => simp [ih]
theorem truth_ints {prog : Program} {w : World} {A : Around} {ns : List Int} {its : List Value} (h : IntsAre its ns) : TruthOf prog w A (fun i v => its.toArray[i]? = some v) fun i => (ns.getD i 0) != 0 := by
  intro i v s Q E hv q
  obtain ⟨t, rfl⟩ := ints_at h i v (by simpa using hv)
  exact PyProof.Rows.truthy_int q
theorem any_ints (ns : List Int) : ((List.range ns.length).any fun i => ns.getD i 0 != 0) = ns.any (· != 0) := by
  rw [Bool.eq_iff_iff, List.any_eq_true, List.any_eq_true]
  constructor
  · rintro ⟨i, hi, h⟩
    have hl := List.mem_range.mp hi
    exact ⟨ns[i], List.getElem_mem hl, by simpa [List.getD_eq_getElem?_getD, hl] using h⟩
  · rintro ⟨x, hx, h⟩
    obtain ⟨i, hl, rfl⟩ := List.getElem_of_mem hx
    exact ⟨i, List.mem_range.mpr hl, by simpa [List.getD_eq_getElem?_getD, hl] using h⟩
theorem all_ints (ns : List Int) : ((List.range ns.length).all fun i => ns.getD i 0 != 0) = ns.all (· != 0) := by
  rw [Bool.eq_iff_iff, List.all_eq_true, List.all_eq_true]
  constructor
  · intro h x hx
    obtain ⟨i, hl, rfl⟩ := List.getElem_of_mem hx
    simpa [List.getD_eq_getElem?_getD, hl] using h i (List.mem_range.mpr hl)
  · intro h i hi
    have hl := List.mem_range.mp hi
    simpa [List.getD_eq_getElem?_getD, hl] using h ns[i] (List.getElem_mem hl)
def rAnyI (K : PySem.W.Frag) : List V → Hp → VK → Prop := fun vs H Q => ∃ (a : Addr) (ns : List Int), vs = [V.ref a] ∧ SqL K H a (ns.map V.int) ∧ Q (.bl (ns.any (· != 0))) H
theorem cr_anyI {X : Cx} (hc : X.calm = true) : CallR X (.builtin "any") (rAnyI X.K) := by
  intro pins s σ H xs us Q I r q
  obtain ⟨a, ns, rfl, h, q⟩ := q
  obtain ⟨its, hv, hp, hl⟩ := I.list h
  cases Vals.ref1 r
  have hi := Vals.ints hv
  refine call_any_walk (iter_any hp.isList fun s₂ e h2 hne => ?_)
  obtain ⟨hit, hli⟩ := h2
  refine ⟨s.heap.objs.size, _, _, _, _, _, _, rfl, Walks.list (A := X.A.in1) (I.ok.hd hc) s.heap.objs.size a hne its.toArray, ⟨hit, hli⟩, truth_ints hi, fun h' tk keep => ?_⟩
  subst e
  have hh : ∀ (b : Addr) (o : Obj), s.heap.get? b = some o → h'.get? b = some o := by
    intro b o hb
    refine keep b o ?_ (Heap.get?_push_of_some _ hb)
    intro hm
    have := List.mem_singleton.mp hm
    subst this
    exact absurd (Heap.lt_size hb) (Nat.lt_irrefl _)
  refine ⟨.bl (ns.any (· != 0)), H, I.kept hh, ?_, q⟩
  have e : its.toArray.size = ns.length := by rw [List.size_toArray, ints_len hi]
  rw [e, any_ints]
  rfl
def rAllI (K : PySem.W.Frag) : List V → Hp → VK → Prop := fun vs H Q => ∃ (a : Addr) (ns : List Int), vs = [V.ref a] ∧ SqL K H a (ns.map V.int) ∧ Q (.bl (ns.all (· != 0))) H
theorem cr_allI {X : Cx} (hc : X.calm = true) : CallR X (.builtin "all") (rAllI X.K) := by
  intro pins s σ H xs us Q I r q
  obtain ⟨a, ns, rfl, h, q⟩ := q
  obtain ⟨its, hv, hp, hl⟩ := I.list h
  cases Vals.ref1 r
  have hi := Vals.ints hv
  refine call_all_walk (iter_any hp.isList fun s₂ e h2 hne => ?_)
  obtain ⟨hit, hli⟩ := h2
  refine ⟨s.heap.objs.size, _, _, _, _, _, _, rfl, Walks.list (A := X.A.in1) (I.ok.hd hc) s.heap.objs.size a hne its.toArray, ⟨hit, hli⟩, truth_ints hi, fun h' tk keep => ?_⟩
  subst e
  have hh : ∀ (b : Addr) (o : Obj), s.heap.get? b = some o → h'.get? b = some o := by
    intro b o hb
    refine keep b o ?_ (Heap.get?_push_of_some _ hb)
    intro hm
    have := List.mem_singleton.mp hm
    subst this
    exact absurd (Heap.lt_size hb) (Nat.lt_irrefl _)
  refine ⟨.bl (ns.all (· != 0)), H, I.kept hh, ?_, q⟩
  have e : its.toArray.size = ns.length := by rw [List.size_toArray, ints_len hi]
  rw [e, all_ints]
  rfl
end EV

namespace EV
open PySem PySem.Spec PyProof.Rows L2 ZG
/-! ### built-ins by values -/
def rDA (Y : Env) (F : List D → Cells → Rs) : List V → Hp → VK → Prop := fun xs H Q => ∃ φ cs ds, W1 Y φ cs H ∧ RA Y.K φ (M Y.hd φ cs H) ds xs ∧ OkV Y φ cs H (F ds cs) Q
def intsOf : List D → Option (List Int)
  | [] => some []
  | .int i :: r => (intsOf r).map (i :: ·)
  | _ => none
def blsOf : List D → Option (List Bool)
  | [] => some []
  | .bl i :: r => (blsOf r).map (i :: ·)
  | _ => none
def strsOf : List D → Option (List Str)
  | [] => some []
  | .str i :: r => (strsOf r).map (i :: ·)
  | _ => none
theorem intsOf_eq : ∀ {ds : List D} {ns : List Int}, intsOf ds = some ns → ds = ns.map D.int
  | [], ns, h => by cases h; rfl
  | .int i :: r, ns, h => by
    simp only [intsOf, Option.map_eq_some_iff] at h
    obtain ⟨m, h1, rfl⟩ := h
    rw [intsOf_eq h1]; rfl
  | .non :: _, _, h => by cases h
  | .bl _ :: _, _, h => by cases h
  | .str _ :: _, _, h => by cases h
  | .tup _ :: _, _, h => by cases h
  | .lst _ :: _, _, h => by cases h
  | .frz _ :: _, _, h => by cases h
  | .dct _ _ :: _, _, h => by cases h
  | .ins _ _ _ :: _, _, h => by cases h
  | .st _ :: _, _, h => by cases h
  | .ref _ :: _, _, h => by cases h
  | .obj _ :: _, _, h => by cases h
theorem blsOf_eq : ∀ {ds : List D} {ns : List Bool}, blsOf ds = some ns → ds = ns.map D.bl
  | [], ns, h => by cases h; rfl
  | .bl i :: r, ns, h => by
    simp only [blsOf, Option.map_eq_some_iff] at h
    obtain ⟨m, h1, rfl⟩ := h
    rw [blsOf_eq h1]; rfl
  | .non :: _, _, h => by cases h
  | .int _ :: _, _, h => by cases h
  | .str _ :: _, _, h => by cases h
  | .tup _ :: _, _, h => by cases h
  | .lst _ :: _, _, h => by cases h
  | .frz _ :: _, _, h => by cases h
  | .dct _ _ :: _, _, h => by cases h
  | .ins _ _ _ :: _, _, h => by cases h
  | .st _ :: _, _, h => by cases h
  | .ref _ :: _, _, h => by cases h
  | .obj _ :: _, _, h => by cases h
theorem strsOf_eq : ∀ {ds : List D} {ns : List Str}, strsOf ds = some ns → ds = ns.map D.str
  | [], ns, h => by cases h; rfl
  | .str i :: r, ns, h => by
    simp only [strsOf, Option.map_eq_some_iff] at h
    obtain ⟨m, h1, rfl⟩ := h
    rw [strsOf_eq h1]; rfl
  | .non :: _, _, h => by cases h
  | .int _ :: _, _, h => by cases h
  | .bl _ :: _, _, h => by cases h
  | .tup _ :: _, _, h => by cases h
  | .lst _ :: _, _, h => by cases h
  | .frz _ :: _, _, h => by cases h
  | .dct _ _ :: _, _, h => by cases h
  | .ins _ _ _ :: _, _, h => by cases h
  | .st _ :: _, _, h => by cases h
  | .ref _ :: _, _, h => by cases h
  | .obj _ :: _, _, h => by cases h
@[simp] theorem intsOf_map (ns : List Int) : intsOf (ns.map D.int) = some ns := by induction ns <;> simp_all [intsOf]
@[simp] theorem blsOf_map (ns : List Bool) : blsOf (ns.map D.bl) = some ns := by induction ns <;> simp_all [blsOf]
@[simp] theorem strsOf_map (ns : List Str) : strsOf (ns.map D.str) = some ns := by induction ns <;> simp_all [strsOf]
theorem RA.of_strs {K : PySem.W.Frag} {φ : List Addr} {G : Hp} : ∀ (ns : List Str) {xs : List V}, RA K φ G (ns.map D.str) xs → xs = ns.map V.str
  | [], _, h => h
  | n :: ns, _, ⟨y, ys, e, h, r⟩ => by
    have h : y = .str n := h
    rw [e, h, RA.of_strs ns r]
    rfl
theorem RA.strs {K : PySem.W.Frag} {φ : List Addr} {G : Hp} : ∀ (ns : List Str), RA K φ G (ns.map D.str) (ns.map V.str)
  | [] => rfl
  | n :: ns => ⟨.str n, _, rfl, rfl, RA.strs ns⟩
theorem RA.one_of {K : PySem.W.Frag} {φ : List Addr} {G : Hp} {d : D} {xs : List V} (h : RA K φ G [d] xs) : ∃ x, xs = [x] ∧ R K φ G d x := by
  obtain ⟨y, ys, e, q, r⟩ := h
  have r : ys = [] := r
  exact ⟨y, by rw [e, r], q⟩
theorem RA.two_of {K : PySem.W.Frag} {φ : List Addr} {G : Hp} {d e : D} {xs : List V} (h : RA K φ G [d, e] xs) : ∃ x y, xs = [x, y] ∧ R K φ G d x ∧ R K φ G e y := by
  obtain ⟨y, ys, e1, q, z, zs, e2, q2, r⟩ := h
  have r : zs = [] := r
  exact ⟨y, z, by rw [e1, e2, r], q, q2⟩
/-- insertion sort -/
def insI (i : Int) : List Int → List Int
  | [] => [i]
  | j :: r => if i ≤ j then i :: j :: r else j :: insI i r
def sortI : List Int → List Int
  | [] => []
  | i :: r => insI i (sortI r)
theorem insI_perm (i : Int) : ∀ r : List Int, (insI i r).Perm (i :: r)
  | [] => .refl _
  | j :: r => by
    unfold insI
    split
    · exact .refl _
    · exact ((insI_perm i r).cons j).trans (.swap i j r)
theorem sortI_perm : ∀ r : List Int, (sortI r).Perm r
  | [] => .refl _
  | i :: r => (insI_perm i _).trans ((sortI_perm r).cons i)
theorem insI_sorted (i : Int) : ∀ r : List Int, r.Pairwise (· ≤ ·) → (insI i r).Pairwise (· ≤ ·)
  | [], _ => by simp [insI]
  | j :: r, h => by
    unfold insI
    rw [List.pairwise_cons] at h
    split
    · rename_i c
      refine List.pairwise_cons.mpr ⟨fun a ha => ?_, List.pairwise_cons.mpr h⟩
      rcases List.mem_cons.mp ha with e | ha
      · rw [e]; exact c
      · exact Int.le_trans c (h.1 a ha)
    · rename_i c
      refine List.pairwise_cons.mpr ⟨fun a ha => ?_, insI_sorted i r h.2⟩
      rcases List.mem_cons.mp ((insI_perm i r).mem_iff.mp ha) with e | ha
      · rw [e]; omega
      · exact h.1 a ha
theorem sortI_sorted : ∀ r : List Int, (sortI r).Pairwise (· ≤ ·)
  | [] => .nil
  | i :: r => insI_sorted i _ (sortI_sorted r)
theorem sorted_unique : ∀ {l m : List Int}, l.Perm m → l.Pairwise (· ≤ ·) → m.Pairwise (· ≤ ·) → l = m
  | [], m, p, _, _ => (List.Perm.nil_eq p)
  | a :: l, [], p, _, _ => absurd p.symm (by simp)
  | a :: l, b :: m, p, h1, h2 => by
    rw [List.pairwise_cons] at h1 h2
    have e : a = b := by
      have x1 : b ∈ a :: l := p.mem_iff.mpr List.mem_cons_self
      have x2 : a ∈ b :: m := p.mem_iff.mp List.mem_cons_self
      rcases List.mem_cons.mp x1 with e | x1
      · exact e.symm
      · rcases List.mem_cons.mp x2 with e | x2
        · exact e
        · have := h1.1 b x1
          have := h2.1 a x2
          omega
    subst e
    rw [sorted_unique (List.Perm.cons_inv p) h1.2 h2.2]
/-- built-in functions -/
def bltD (n : String) (own : Bool) (ds : List D) (cs : Cells) : Rs := match n, ds with
  | "len", [d] => match seqD cs d with
    | some (_, es) => some (.val (.int (es.length : Int)), cs)
    | none => match d with
      | .str z => if z.length ≤ sizeLine then some (.val (.int (z.length : Int)), cs) else none
      | _ => none
  | "abs", [.int i] => some (.val (.int (if i < 0 then -i else i)), cs)
  | "max", [.int i, .int j] => some (.val (.int (if j > i then j else i)), cs)
  | "min", [.int i, .int j] => some (.val (.int (if j < i then j else i)), cs)
  | "sum", [d] => match seqD cs d with
    | some (false, es) => (intsOf es).map fun ns => (.val (.int ns.sum), cs)
    | _ => none
  | "all", [d] => match seqD cs d with
    | some (false, es) => match blsOf es with
      | some bs => some (.val (.bl (bs.all id)), cs)
      | none => (intsOf es).map fun ns => (.val (.bl (ns.all (· != 0))), cs)
    | _ => none
  | "any", [d] => match seqD cs d with
    | some (false, es) => match blsOf es with
      | some bs => some (.val (.bl (bs.any id)), cs)
      | none => (intsOf es).map fun ns => (.val (.bl (ns.any (· != 0))), cs)
    | _ => none
  | "sorted", [d] => match seqD cs d with
    | some (false, es) => match intsOf es with
      | some ns => mkL own ((sortI ns).map D.int) cs
      | none => none
    | _ => none
  | _, _ => none
/-- built-in types called -/
def tltD (n : String) (own : Bool) (ds : List D) (cs : Cells) : Rs := match n, ds with
  | "int", [.int i] => some (.val (.int i), cs)
  | "int", [.bl b] => some (.val (.int (if b then 1 else 0)), cs)
  | "int", [.str a] => match PySem.intText? a with
    | some n => if a.length ≤ 640 then some (.val (.int n), cs) else none
    | none => none
  | "str", [.int i] => if i.natAbs.log2 < 1920 then some (.val (.str (toString i)), cs) else none
  | "list", [d] => match seqD cs d with
    | some (_, es) => mkL own es cs
    | none => none
  | "tuple", [d] => match seqD cs d with
    | some (_, es) => some (.val (.tup es), cs)
    | none => none
  | _, _ => none
section
variable {X : Cx} {Y : Env}
theorem sqlt {K : PySem.W.Frag} {t : Bool} {H : Hp} {a : Addr} {xs : List V} (g : SqG t K H a xs) : SqL K H a xs ∨ SqT K H a xs := by
  cases t
  · exact .inl g
  · exact .inr g
/-- a tuple stands by itself -/
theorem tup_self {φ : List Addr} {cs : Cells} {H : Hp} {d : D} {ds : List D} {v : V} (h : seqD cs d = some (true, ds)) (q : R Y.K φ (M Y.hd φ cs H) d v) : R Y.K φ (M Y.hd φ cs H) (.tup ds) v := by
  match d, h, q with
  | .tup ds', h, q =>
    have h : some (true, ds') = some (true, ds) := h
    cases h
    exact q
  | .ref n, h, _ =>
    simp only [seqD] at h
    split at h <;> cases h
theorem blt_D (hK : Y.K = X.K) (hc : X.calm = true) {n : String} {own : Bool} : CallR X (.builtin n) (rDA Y (bltD n own)) := by
  intro pins s σ H xs us Q I r ⟨φ, cs, ds, w, hd, h⟩
  unfold bltD at h
  split at h
  · obtain ⟨x, rfl, q⟩ := hd.one_of
    split at h
    · rename_i e
      obtain ⟨p, ys, rfl, g, ra⟩ := seq_see w e q
      refine call_len_seq pins s σ H _ us Q I r ⟨p, ys, rfl, by rw [← hK]; exact sqlt g, ?_⟩
      rw [ra.length]
      exact OkG.now h w rfl
    · split at h
      · split at h
        · rename_i cz
          have q : x = .str _ := q
          subst q
          exact call_len pins s σ H _ us Q I r ⟨_, _, rfl, ⟨cz, rfl⟩, OkG.now h w rfl⟩
        · exact (OkG.nope h).elim
      · exact (OkG.nope h).elim
  · obtain ⟨x, rfl, q⟩ := hd.one_of
    have q : x = .int _ := q
    subst q
    exact call_abs pins s σ H _ us Q I r ⟨_, rfl, OkG.now h w rfl⟩
  · obtain ⟨x, y, rfl, q, q2⟩ := hd.two_of
    have q : x = .int _ := q
    have q2 : y = .int _ := q2
    subst q q2
    exact call_max2 hc pins s σ H _ us Q I r ⟨_, _, rfl, OkG.now h w rfl⟩
  · obtain ⟨x, y, rfl, q, q2⟩ := hd.two_of
    have q : x = .int _ := q
    have q2 : y = .int _ := q2
    subst q q2
    exact call_min2 hc pins s σ H _ us Q I r ⟨_, _, rfl, OkG.now h w rfl⟩
  · obtain ⟨x, rfl, q⟩ := hd.one_of
    split at h
    · rename_i es e
      cases e2 : intsOf es with
      | none => rw [e2] at h; exact (OkG.nope h).elim
      | some ns =>
        rw [e2] at h
        obtain ⟨p, ys, rfl, g, ra⟩ := seq_see w e q
        rw [intsOf_eq e2] at ra
        rw [RA.of_ints ns ra] at g
        exact cr_sum hc pins s σ H _ us Q I r ⟨p, ns, rfl, by rw [← hK]; exact g, OkG.now h w rfl⟩
    · exact (OkG.nope h).elim
  · obtain ⟨x, rfl, q⟩ := hd.one_of
    split at h
    · rename_i es e
      cases e2 : blsOf es with
      | none =>
        rw [e2] at h
        cases e3 : intsOf es with
        | none => rw [e3] at h; exact (OkG.nope h).elim
        | some ns =>
          rw [e3] at h
          obtain ⟨p, ys, rfl, g, ra⟩ := seq_see w e q
          rw [intsOf_eq e3] at ra
          rw [RA.of_ints ns ra] at g
          exact cr_allI hc pins s σ H _ us Q I r ⟨p, ns, rfl, by rw [← hK]; exact g, OkG.now h w rfl⟩
      | some ns =>
        rw [e2] at h
        obtain ⟨p, ys, rfl, g, ra⟩ := seq_see w e q
        rw [blsOf_eq e2] at ra
        rw [RA.of_bls ns ra] at g
        exact cr_all hc pins s σ H _ us Q I r ⟨p, ns, rfl, by rw [← hK]; exact g, OkG.now h w rfl⟩
    · exact (OkG.nope h).elim
  · obtain ⟨x, rfl, q⟩ := hd.one_of
    split at h
    · rename_i es e
      cases e2 : blsOf es with
      | none =>
        rw [e2] at h
        cases e3 : intsOf es with
        | none => rw [e3] at h; exact (OkG.nope h).elim
        | some ns =>
          rw [e3] at h
          obtain ⟨p, ys, rfl, g, ra⟩ := seq_see w e q
          rw [intsOf_eq e3] at ra
          rw [RA.of_ints ns ra] at g
          exact cr_anyI hc pins s σ H _ us Q I r ⟨p, ns, rfl, by rw [← hK]; exact g, OkG.now h w rfl⟩
      | some ns =>
        rw [e2] at h
        obtain ⟨p, ys, rfl, g, ra⟩ := seq_see w e q
        rw [blsOf_eq e2] at ra
        rw [RA.of_bls ns ra] at g
        exact cr_any hc pins s σ H _ us Q I r ⟨p, ns, rfl, by rw [← hK]; exact g, OkG.now h w rfl⟩
    · exact (OkG.nope h).elim
  · obtain ⟨x, rfl, q⟩ := hd.one_of
    split at h
    · rename_i es e
      split at h
      · rename_i ns e2
        obtain ⟨p, ys, rfl, g, ra⟩ := seq_see w e q
        rw [intsOf_eq e2] at ra
        rw [RA.of_ints ns ra] at g
        refine cr_sortedI pins s σ H _ us Q I r ⟨p, ns, rfl, by rw [← hK]; exact g, fun ns' p' pm so hp => ?_⟩
        have e3 : ns' = sortI ns := sorted_unique (pm.trans (sortI_perm ns).symm) so (sortI_sorted ns)
        subst e3
        exact OkV.newL h w (RA.ints _) hp
      · exact (OkG.nope h).elim
    · exact (OkG.nope h).elim
  · exact (OkG.nope h).elim
theorem tlt_D (hK : Y.K = X.K) {n : String} {own : Bool} : CallR X (.type n) (rDA Y (tltD n own)) := by
  intro pins s σ H xs us Q I r ⟨φ, cs, ds, w, hd, h⟩
  unfold tltD at h
  split at h
  · obtain ⟨x, rfl, q⟩ := hd.one_of
    have q : x = .int _ := q
    subst q
    exact call_int1 pins s σ H _ us Q I r (.inl ⟨_, rfl, OkG.now h w rfl⟩)
  · obtain ⟨x, rfl, q⟩ := hd.one_of
    have q : x = .bl _ := q
    subst q
    exact call_int1 pins s σ H _ us Q I r (.inr ⟨_, rfl, OkG.now h w rfl⟩)
  · obtain ⟨x, rfl, q⟩ := hd.one_of
    have q : x = .str _ := q
    subst q
    split at h
    · rename_i n e
      split at h
      · rename_i c
        exact call_int_str pins s σ H _ us Q I r ⟨_, _, rfl, e, c, OkG.now h w rfl⟩
      · exact (OkG.nope h).elim
    · exact (OkG.nope h).elim
  · obtain ⟨x, rfl, q⟩ := hd.one_of
    have q : x = .int _ := q
    subst q
    split at h
    · rename_i c
      exact call_str_int pins s σ H _ us Q I r ⟨_, rfl, c, OkG.now h w rfl⟩
    · exact (OkG.nope h).elim
  · obtain ⟨x, rfl, q⟩ := hd.one_of
    split at h
    · rename_i t es e
      obtain ⟨p, ys, rfl, g, ra⟩ := seq_see w e q
      exact call_list_of pins s σ H _ us Q I r ⟨p, ys, rfl, by rw [← hK]; exact sqlt g, fun l hl => OkV.newL h w ra hl⟩
    · exact (OkG.nope h).elim
  · obtain ⟨x, rfl, q⟩ := hd.one_of
    split at h
    · rename_i t es e
      obtain ⟨p, ys, rfl, g, ra⟩ := seq_see w e q
      cases t with
      | false => exact call_tuple_of pins s σ H _ us Q I r ⟨p, ys, rfl, .inl ⟨by rw [← hK]; exact g, fun l hl => OkV.newT h w ra hl⟩⟩
      | true => exact call_tuple_of pins s σ H _ us Q I r ⟨p, ys, rfl, .inr ⟨by rw [← hK]; exact g, OkG.now h w (tup_self e q)⟩⟩
    · exact (OkG.nope h).elim
  · exact (OkG.nope h).elim
variable {x : Str} {p pos apos : Pos} {e o : Expr} {es : List Expr} {A : Slots → Cells → RsG (List D)} {f : Slots → Cells → Rs}
theorem pe_bltD (hK : Y.K = X.K) (hc : X.calm = true) {id : String} {own : Bool} (hg : Gl X x) (hm : X.mg x = none) (hv : bootBuiltins x = some (.builtin id)) (ha : PA X (e :: es) (tRA Y A)) (hn : x ≠ "__name__") (hdb : (x == ("__debug__" : Str)) = false)
    (he : starEach (e :: es) X.env = (false, eval e X.env) :: starEach es X.env) (hpl : (backTo pos (starEach es X.env)).any (·.1) = false) : PE X (.Call (.Name x p) (e :: es) [] pos) (tR Y fun sl cs => (A sl cs).bind (bltD id own)) := by
  refine pe_weak (pe_callB (blt_D (own := own) hK hc) hg hm hv ha hn hdb he hpl) fun σ H Q h => ?_
  obtain ⟨sl, φ, cs, rs, w, ok⟩ := h
  exact tG.first rs w ok fun φ1 cs1 d x H1 e1 rs1 w1 q1 ok1 => ⟨φ1, cs1, d, w1, q1, ok1⟩
theorem pe_tltD (hK : Y.K = X.K) {id : String} {own : Bool} (hg : Gl X x) (hm : X.mg x = none) (hv : bootBuiltins x = some (.type id)) (ha : PA X (e :: es) (tRA Y A)) (hn : x ≠ "__name__") (hdb : (x == ("__debug__" : Str)) = false)
    (he : starEach (e :: es) X.env = (false, eval e X.env) :: starEach es X.env) (hpl : (backTo pos (starEach es X.env)).any (·.1) = false) : PE X (.Call (.Name x p) (e :: es) [] pos) (tR Y fun sl cs => (A sl cs).bind (tltD id own)) := by
  refine pe_weak (pe_callTy (tlt_D (own := own) hK) hg hm hv ha hn hdb he hpl) fun σ H Q h => ?_
  obtain ⟨sl, φ, cs, rs, w, ok⟩ := h
  exact tG.first rs w ok fun φ1 cs1 d x H1 e1 rs1 w1 q1 ok1 => ⟨φ1, cs1, d, w1, q1, ok1⟩
/-! ### methods of built-in types -/
def rDM (Y : Env) (F : D → List D → Cells → Rs) : V → List V → Hp → VK → Prop := fun x xs H Q => ∃ φ cs d ds, W1 Y φ cs H ∧ R Y.K φ (M Y.hd φ cs H) d x ∧ RA Y.K φ (M Y.hd φ cs H) ds xs ∧ OkV Y φ cs H (F d ds cs) Q
def recvT (T : String) (d : D) (cs : Cells) : Bool := match d with
  | .str _ => T == "str"
  | d => match seqD cs d with
    | some (false, _) => T == "list"
    | _ => false
theorem recv_see {φ : List Addr} {cs : Cells} {H : Hp} (w : W1 Y φ cs H) {T : String} {d : D} {v : V} (h : recvT T d cs = true) (q : R Y.K φ (M Y.hd φ cs H) d v) : tyV Y.K T v H := by
  unfold recvT at h
  split at h
  · have q : v = .str _ := q
    subst q
    exact beq_iff_eq.mp h
  · split at h
    · rename_i e
      obtain ⟨p, ys, rfl, g, ra⟩ := seq_see w e q
      exact .inl ⟨beq_iff_eq.mp h, ys, g⟩
    · cases h
def bmR (T : String) (f : Slots → Cells → Rs) (A : Slots → Cells → RsG (List D)) (F : D → List D → Cells → Rs) : Slots → Cells → Rs := fun sl cs => (f sl cs).bind fun x cs => if recvT T x cs = true then (A sl cs).bind fun ds cs => F x ds cs else none
theorem pe_bmD (hK : Y.K = X.K) {T id : String} {name : Str} {F : D → List D → Cells → Rs} (pa : PlainAttrs T) (slot : Slot T name id) (hty : typeOf (.builtin id) = pure (.type "method_descriptor")) (hm : MtR X id (rDM Y F)) (ho : PE X o (tR Y f)) (ha : PA X (e :: es) (tRA Y A))
    (hbase : attributeBase o name X.env (eval o X.env) = eval o X.env)
    (hfew : ((backTo pos (starEach (e :: es) X.env)).all (fun x => !x.1) && (backToKw pos (keywordEach [] X.env)).all (fun x => x.1.isSome)
      && decide ((e :: es).length + ([] : List Keyword).length + (if ([] : List Keyword).isEmpty then 0 else 1) < 30)) = true)
    (hline : (apos.endLine == pos.line) = true) (hs : starEach (e :: es) X.env = (false, eval e X.env) :: starEach es X.env) (hplain : (backTo pos (starEach es X.env)).any (·.1) = false) :
    PE X (.Call (.Attribute o name apos) (e :: es) [] pos) (tR Y (bmR T f A F)) := by
  refine pe_weak (pe_bm pa slot hty hm ho ha hbase hfew hline hs hplain) fun σ H Q h => ?_
  obtain ⟨sl, φ, cs, rs, w, ok⟩ := h
  refine tG.first rs w ok fun φ1 cs1 d x H1 e1 rs1 w1 q1 ok1 => ?_
  split at ok1
  · rename_i c
    refine ⟨by rw [← hK]; exact recv_see w1 c q1, tG.first rs1 w1 ok1 fun φ2 cs2 ds xs H2 e2 rs2 w2 q2 ok2 => ⟨φ2, cs2, d, ds, w2, e2.r q1, q2, ok2⟩⟩
  · exact (OkG.nope ok1).elim
theorem pe_bm0D (hK : Y.K = X.K) {T id : String} {name : Str} {F : D → List D → Cells → Rs} (pa : PlainAttrs T) (slot : Slot T name id) (hty : typeOf (.builtin id) = pure (.type "method_descriptor")) (hm : MtR X id (rDM Y F)) (ho : PE X o (tR Y f))
    (hbase : attributeBase o name X.env (eval o X.env) = eval o X.env) (hline : (apos.endLine == pos.line) = true) :
    PE X (.Call (.Attribute o name apos) [] [] pos) (tR Y (bmR T f (fun _ cs => some (.val [], cs)) F)) := by
  refine pe_weak (pe_bm0 pa slot hty hm ho hbase hline) fun σ H Q h => ?_
  obtain ⟨sl, φ, cs, rs, w, ok⟩ := h
  refine tG.first rs w ok fun φ1 cs1 d x H1 e1 rs1 w1 q1 ok1 => ?_
  split at ok1
  · rename_i c
    exact ⟨by rw [← hK]; exact recv_see w1 c q1, φ1, cs1, d, [], w1, q1, rfl, ok1⟩
  · exact (OkG.nope ok1).elim
/-- a cell that is a list -/
def cellL (cs : Cells) (d : D) : Option (Nat × List D) := match d with
  | .ref n => match cs[n]? with
    | some (.lst ds) => some (n, ds)
    | _ => none
  | _ => none
theorem cell_see {φ : List Addr} {cs : Cells} {H : Hp} (w : W1 Y φ cs H) {d : D} {v : V} {n : Nat} {ds : List D} (h : cellL cs d = some (n, ds)) (q : R Y.K φ (M Y.hd φ cs H) d v) : ∃ a xs, v = .ref a ∧ φ[n]? = some a ∧ cs[n]? = some (.lst ds) ∧ H a = some (.lst xs) ∧ RA Y.K φ (M Y.hd φ cs H) ds xs := by
  match d, h, q with
  | .ref m, h, ⟨a, e, g⟩ =>
    simp only [cellL] at h
    split at h
    · rename_i es hc
      cases h
      obtain ⟨xs, e1, r⟩ := w.cs.ok _ a _ g hc
      exact ⟨a, xs, e, g, hc, e1, r⟩
    · cases h
theorem OkV.put {φ : List Addr} {cs : Cells} {H : Hp} {Q : VK} {n : Nat} {a : Addr} {ds es : List D} {xs ys : List V} {d : D} {v : V} (h : OkV Y φ cs H (some (.val d, cs.set n (.lst es))) Q) (w : W1 Y φ cs H) (ha : φ[n]? = some a) (hn : cs[n]? = some (.lst ds)) (he : H a = some (.lst xs)) (q : RA Y.K φ (M Y.hd φ cs H) es ys)
    (r : R Y.K φ (M Y.hd φ cs H) d v) : Q v (upd H a (.lst ys)) := by
  refine h v φ _ (ext_put w.cs ha hn rfl rfl _) (w.putL ha hn he q) ?_
  rw [M_put ha hn rfl rfl]
  exact r
def appendD (x : D) (ds : List D) (cs : Cells) : Rs := match cellL cs x, ds with
  | some (n, es), [d] => if es.length < sizeLine then some (.val .non, cs.set n (.lst (es ++ [d]))) else none
  | _, _ => none
theorem append_D : MtR X "list.append" (rDM Y appendD) := by
  intro pins s σ H x xs v us Q I rx rv ⟨φ, cs, d, ds, w, q, qs, h⟩
  unfold appendD at h
  split at h
  · rename_i n es d' e
    split at h
    · rename_i c
      obtain ⟨y, rfl, q1⟩ := qs.one_of
      obtain ⟨a, ys, rfl, ha, hn, he, r⟩ := cell_see w e q
      exact mt_append pins s σ H _ _ v us Q I rx rv ⟨a, ys, y, rfl, rfl, he, by rw [r.length]; exact c, OkV.put h w ha hn he (r.app (.one q1)) rfl⟩
    · exact (OkG.nope h).elim
  · exact (OkG.nope h).elim
def extendD (x : D) (ds : List D) (cs : Cells) : Rs := match cellL cs x, ds with
  | some (n, es), [d] => match lstD cs d with
    | some fs => if es.length + fs.length ≤ sizeLine then some (.val .non, cs.set n (.lst (es ++ fs))) else none
    | none => none
  | _, _ => none
theorem extend_D : MtR X "list.extend" (rDM Y extendD) := by
  intro pins s σ H x xs v us Q I rx rv ⟨φ, cs, d, ds, w, q, qs, h⟩
  unfold extendD at h
  split at h
  · rename_i n es d' e
    split at h
    · rename_i fs e2
      split at h
      · rename_i c
        obtain ⟨y, rfl, q1⟩ := qs.one_of
        obtain ⟨a, ys, rfl, ha, hn, he, r⟩ := cell_see w e q
        obtain ⟨b, zs, rfl, hb, rb⟩ := lst_see w e2 q1
        exact mt_extend pins s σ H _ _ v us Q I rx rv ⟨a, b, ys, zs, rfl, rfl, he, hb, by rw [r.length, rb.length]; exact c, OkV.put h w ha hn he (r.app rb) rfl⟩
      · exact (OkG.nope h).elim
    · exact (OkG.nope h).elim
  · exact (OkG.nope h).elim
def insertD (x : D) (ds : List D) (cs : Cells) : Rs := match cellL cs x, ds with
  | some (n, es), [.int i, d] => if es.length < sizeLine ∧ 0 ≤ i ∧ i < 2 ^ 63 then some (.val .non, cs.set n (.lst (es.take i.toNat ++ [d] ++ es.drop i.toNat))) else none
  | _, _ => none
theorem insert_D : MtR X "list.insert" (rDM Y insertD) := by
  intro pins s σ H x xs v us Q I rx rv ⟨φ, cs, d, ds, w, q, qs, h⟩
  unfold insertD at h
  split at h
  · rename_i n es i d' e
    split at h
    · rename_i c
      obtain ⟨x1, y, rfl, q0, q1⟩ := qs.two_of
      have q0 : x1 = .int _ := q0
      subst q0
      obtain ⟨a, ys, rfl, ha, hn, he, r⟩ := cell_see w e q
      exact mt_insert pins s σ H _ _ v us Q I rx rv ⟨a, ys, i, y, rfl, rfl, he, by rw [r.length]; exact c.1, c.2.1, c.2.2, OkV.put h w ha hn he (((r.take _).app (.one q1)).app (r.drop _)) rfl⟩
    · exact (OkG.nope h).elim
  · exact (OkG.nope h).elim
theorem RA.rev {K : PySem.W.Frag} {φ : List Addr} {G : Hp} : ∀ {ds : List D} {xs : List V}, RA K φ G ds xs → RA K φ G ds.reverse xs.reverse
  | [], _, h => by cases h; rfl
  | d :: ds, _, ⟨y, ys, e, q, r⟩ => by
    subst e
    rw [List.reverse_cons, List.reverse_cons]
    exact (RA.rev r).app (.one q)
def reverseD (x : D) (ds : List D) (cs : Cells) : Rs := match cellL cs x, ds with
  | some (n, es), [] => some (.val .non, cs.set n (.lst es.reverse))
  | _, _ => none
theorem reverse_D : MtR X "list.reverse" (rDM Y reverseD) := by
  intro pins s σ H x xs v us Q I rx rv ⟨φ, cs, d, ds, w, q, qs, h⟩
  unfold reverseD at h
  split at h
  · rename_i n es e
    have qs : xs = [] := qs
    subst qs
    obtain ⟨a, ys, rfl, ha, hn, he, r⟩ := cell_see w e q
    exact mt_reverse pins s σ H _ _ v us Q I rx rv ⟨a, ys, rfl, rfl, he, OkV.put h w ha hn he r.rev rfl⟩
  · exact (OkG.nope h).elim
def popD (x : D) (ds : List D) (cs : Cells) : Rs := match cellL cs x, ds with
  | some (n, es), [] => match es[es.length - 1]? with
    | some d => some (.val d, cs.set n (.lst es.dropLast))
    | none => none
  | _, _ => none
theorem RA.dropLast {K : PySem.W.Frag} {φ : List Addr} {G : Hp} {ds : List D} {xs : List V} (h : RA K φ G ds xs) : RA K φ G ds.dropLast xs.dropLast := by
  rw [List.dropLast_eq_take, List.dropLast_eq_take, h.length]
  exact h.take _
theorem pop_D : MtR X "list.pop" (rDM Y popD) := by
  intro pins s σ H x xs v us Q I rx rv ⟨φ, cs, d, ds, w, q, qs, h⟩
  unfold popD at h
  split at h
  · rename_i n es e
    split at h
    · rename_i d' e2
      have qs : xs = [] := qs
      subst qs
      obtain ⟨a, ys, rfl, ha, hn, he, r⟩ := cell_see w e q
      obtain ⟨y, h2, q2⟩ := r.get e2
      exact mt_pop pins s σ H _ _ v us Q I rx rv ⟨a, ys, y, rfl, rfl, he, by rw [r.length]; exact h2, OkV.put h w ha hn he r.dropLast q2⟩
    · exact (OkG.nope h).elim
  · exact (OkG.nope h).elim
end
end EV

namespace EV
open PySem PySem.Spec PyProof.Rows L2 ZG
/-! ### what is walked -/
structure ItD where
  items : List D
  grd : List (Nat × List D)
def grdOk (g : List (Nat × List D)) (cs : Cells) : Prop := ∀ p ∈ g, cs[p.1]? = some (.lst p.2)
structure ItOk (K : PySem.W.Frag) (φ : List Addr) (G : Hp) (it : ItD) (J : It) : Prop where
  w : ∃ (Gd : Hp → Prop) (Yw : Nat → Hp → V → Hp → Prop), Walk J it.items.length Gd Yw ∧
    (∀ (Y : Env) φ' cs' H', Y.K = K → φ <+: φ' → SameT G (M Y.hd φ' cs' H') → W1 Y φ' cs' H' → grdOk it.grd cs' → Gd H') ∧
    (∀ (Y : Env) i H' x H'' φ' cs', Y.K = K → i < it.items.length → φ <+: φ' → SameT G (M Y.hd φ' cs' H') → W1 Y φ' cs' H' → grdOk it.grd cs' → Yw i H' x H'' →
      ∃ d, it.items[i]? = some d ∧ W1 Y φ' cs' H'' ∧ Ext Y.hd φ' cs' H' φ' cs' H'' ∧ R K φ' (M Y.hd φ' cs' H'') d x)
def tIt (Y : Env) (src : Slots → Cells → RsG ItD) : TI := fun σ H Rr => tG Y (ItOk Y.K) src σ H Rr
/-- seen as a sequence, with what must stay -/
def seqG (cs : Cells) (d : D) : Option (Bool × List D × List (Nat × List D)) := match d with
  | .lst ds => some (false, ds, [])
  | .frz ds => some (false, ds, [])
  | .tup ds => some (true, ds, [])
  | .ref n => match cs[n]? with
    | some (.lst ds) => some (false, ds, [(n, ds)])
    | _ => none
  | _ => none
theorem RA.inj {K : PySem.W.Frag} : True := trivial
def ItS : Bool → PySem.W.Frag → Addr → It
  | true, K, a => Itt K a
  | false, K, a => Itl K a
theorem walkS {K : PySem.W.Frag} {t : Bool} {a : Addr} {xs : List V} : Walk (ItS t K a) xs.length (fun H => SqG t K H a xs) (YAt xs) := by
  cases t
  · exact walk_list
  · exact walk_tup
theorem seqG_seqD {cs : Cells} {d : D} {t : Bool} {ds : List D} {g : List (Nat × List D)} (h : seqG cs d = some (t, ds, g)) : seqD cs d = some (t, ds) := by
  match d, h with
  | .lst _, h => cases h; rfl
  | .frz _, h => cases h; rfl
  | .tup _, h => cases h; rfl
  | .ref n, h =>
    simp only [seqG] at h
    split at h
    · rename_i hc
      cases h
      simp only [seqD, hc]
    · cases h
/-- what is a sequence now is one later -/
theorem seq_later {Y : Env} {G : Hp} {φ φ' : List Addr} {cs cs' : Cells} {H' : Hp} {d : D} {p : Addr} {t : Bool} {ds : List D} {gd : List (Nat × List D)} (e : seqG cs d = some (t, ds, gd)) (q1 : R Y.K φ G d (.ref p)) (pre : φ <+: φ') (s : SameT G (M Y.hd φ' cs' H')) (w' : W1 Y φ' cs' H') (gk : grdOk gd cs') :
    ∃ ys, SqG t Y.K H' p ys ∧ RA Y.K φ' (M Y.hd φ' cs' H') ds ys := by
  have q' := R.mono pre s d _ q1
  have e' : seqD cs' d = some (t, ds) := by
    match d, e with
    | .lst _, h => cases h; rfl
    | .frz _, h => cases h; rfl
    | .tup _, h => cases h; rfl
    | .ref n, h =>
      simp only [seqG] at h
      split at h
      · cases h
        have := gk (n, ds) List.mem_cons_self
        simp only [seqD, this]
      · cases h
  obtain ⟨b, ys, e1, g2, r2⟩ := seq_see w' e' q'
  cases e1
  exact ⟨ys, g2, r2⟩
section
variable {X : Cx} {Y : Env} {tg : Expr}
/-- a walk over a list or tuple -/
theorem pi_seqG {l : Expr} {tl : TE} (hl : PE X l tl) : PI X tg l (fun σ H Rr => tl σ H fun x H1 => ∃ t a xs, x = .ref a ∧ SqG t X.K H1 a xs ∧ Rr (ItS t X.K a) H1) := by
  refine ⟨fun pins s σ H Rr I h => ?_⟩
  refine thn (hl.run pins s σ H _ I h) fun v s1 ⟨x, H1, I1, r1, t, a, xs, e, hq, q⟩ => ?_
  subst e
  cases r1
  cases t with
  | false =>
    obtain ⟨its, rv, p, hz⟩ := I1.list hq
    refine wpAny_pyIter_list p.isList ?_
    refine ⟨s1.heap.objs.size, [s1.heap.objs.size], _, _, H1, rfl, I1.kept (t' := s1.toks) fun b o e => Heap.get?_push_of_some _ e, turn_list a _, ⟨_, Heap.get?_push_size _ rfl, rfl, rfl⟩, fun b hb => ?_, q⟩
    have e : b = s1.heap.objs.size := by simpa using hb
    subst e
    exact I1.fpOk (Nat.le_refl _) (I1.hok.fresh (Nat.le_refl _))
  | true =>
    obtain ⟨its, rv, p, hz⟩ := I1.tuple hq
    refine wpAny_pyIter_tuple (show s1.heap.IsTuple a its.toArray from p) ?_
    refine ⟨s1.heap.objs.size, [s1.heap.objs.size], _, _, H1, rfl, I1.kept (t' := s1.toks) fun b o e => Heap.get?_push_of_some _ e, turn_tuple a _, ⟨_, Heap.get?_push_size _ rfl, rfl, rfl⟩, fun b hb => ?_, q⟩
    have e : b = s1.heap.objs.size := by simpa using hb
    subst e
    exact I1.fpOk (Nat.le_refl _) (I1.hok.fresh (Nat.le_refl _))
theorem pi_weak {iter : Expr} {t t' : TI} (h : PI X tg iter t) (i : ∀ σ H Q, t' σ H Q → t σ H Q) : PI X tg iter t' := ⟨fun pins s σ H Q I w => h.run pins s σ H Q I (i _ _ _ w)⟩
theorem pi_weakI {iter : Expr} {t t' : TI} (h : PI X tg iter t) (i : ∀ pins s σ H Q, Inv X pins σ H s → t' σ H Q → t σ H Q) : PI X tg iter t' := ⟨fun pins s σ H Q I w => h.run pins s σ H Q I (i _ _ _ _ _ I w)⟩
variable {a b : Expr} {f g : Slots → Cells → Rs}
def srcSeq (d : D) (cs : Cells) : RsG ItD := match seqG cs d with
  | some (_, ds, gd) => some (.val ⟨ds, gd⟩, cs)
  | none => none
theorem pi_seqD (hK : Y.K = X.K) (ha : PE X a (tR Y f)) : PI X tg a (tIt Y fun sl cs => (f sl cs).bind srcSeq) := by
  refine pi_weak (pi_seqG ha) fun σ H Q h => ?_
  obtain ⟨sl, φ, cs, rs, w, ok⟩ := h
  refine tG.first rs w ok fun φ1 cs1 d x H1 e1 rs1 w1 q1 ok1 => ?_
  unfold srcSeq at ok1
  split at ok1
  · rename_i t ds gd e
    obtain ⟨p, xs, rfl, g1, r1⟩ := seq_see w1 (seqG_seqD e) q1
    have hlen := r1.length
    refine ⟨t, p, xs, rfl, by rw [← hK]; exact g1, OkG.now ok1 w1 ⟨fun H' => ∃ ys, SqG t Y.K H' p ys ∧ ys.length = ds.length, fun i H' x H'' => H'' = H' ∧ ∀ ys, SqG t Y.K H' p ys → ys[i]? = some x, ?_, ?_, ?_⟩⟩
    · show Walk _ ds.length _ _
      rw [← hK]
      cases t with
      | false =>
        exact ⟨fun i H' hi ⟨ys, h1, h2⟩ => ⟨ys, ys[i]'(by omega), h1, by simp [h2, hi]⟩, fun H' ⟨ys, h1, h2⟩ => ⟨ys, h1, by omega⟩, fun i H' x H'' hi _ y => y⟩
      | true =>
        exact ⟨fun i H' hi ⟨ys, h1, h2⟩ => ⟨ys, ys[i]'(by omega), h1, by simp [h2, hi]⟩, fun H' ⟨ys, h1, h2⟩ => ⟨ys, h1, by omega⟩, fun i H' x H'' hi _ y => y⟩
    · intro Y' φ' cs' H' hY pre s w' gk
      obtain ⟨ys, g2, r2⟩ := seq_later e (by rw [hY]; exact q1) pre s w' gk
      rw [hY] at g2
      exact ⟨ys, g2, r2.length⟩
    · intro Y' i H' x H'' φ' cs' hY hi pre s w' gk y
      obtain ⟨rfl, y⟩ := y
      obtain ⟨ys, g2, r2⟩ := seq_later e (by rw [hY]; exact q1) pre s w' gk
      rw [hY] at g2 r2
      obtain ⟨d', h1, h2⟩ := r2.got (y ys g2)
      exact ⟨d', h1, w', .refl _ _ _ _, h2⟩
  · exact (OkG.nope ok1).elim
def rngList (lo : Int) (n : Nat) : List D := (List.range n).map fun (i : Nat) => D.int (lo + (i : Int))
theorem itOk_range {K : PySem.W.Frag} {φ : List Addr} {G : Hp} {lo : Int} {n : Nat} : ItOk K φ G ⟨rngList lo n, []⟩ (Itr lo n) := by
  have hl : (rngList lo n).length = n := by simp [rngList]
  refine ⟨_, _, by show Walk _ (rngList lo n).length _ _; rw [hl]; exact walk_range, fun _ _ _ _ _ _ _ _ _ => trivial, fun Y i H' x H'' φ' cs' _ hi pre s w gk y => ?_⟩
  obtain ⟨rfl, rfl⟩ := y
  have hi : i < n := by simpa [rngList] using hi
  exact ⟨.int (lo + (i : Int)), by simp [rngList, hi], w, .refl _ _ _ _, rfl⟩
def srcRng1 (d : D) (cs : Cells) : RsG ItD := match d with
  | .int j => if -(2 ^ 62) ≤ j ∧ j < 2 ^ 62 then some (.val ⟨rngList 0 j.toNat, []⟩, cs) else none
  | _ => none
theorem pi_rng1D {p pos : Pos} (hg : Gl X "range") (hm : X.mg "range" = none) (ha : PE X a (tR Y f)) (hs : starEach [a] X.env = [(false, eval a X.env)]) : PI X tg (.Call (.Name "range" p) [a] [] pos) (tIt Y fun sl cs => (f sl cs).bind srcRng1) := by
  refine pi_weak (pi_range1 hg hm (pa_cons ha pa_nil hs) hs) fun σ H Q h => ?_
  obtain ⟨sl, φ, cs, rs, w, ok⟩ := h
  refine tG.first rs w ok fun φ1 cs1 d x H1 e1 rs1 w1 q1 ok1 => ?_
  unfold srcRng1 at ok1
  split at ok1
  · split at ok1
    · rename_i j c
      have q1 : x = .int j := q1
      subst q1
      exact ⟨j, rfl, c.1, c.2, OkG.now ok1 w1 itOk_range⟩
    · exact (OkG.nope ok1).elim
  · exact (OkG.nope ok1).elim
def srcRng2 (d e : D) (cs : Cells) : RsG ItD := match d, e with
  | .int i, .int j => if -(2 ^ 62) ≤ i ∧ i < 2 ^ 62 ∧ -(2 ^ 62) ≤ j ∧ j < 2 ^ 62 then some (.val ⟨rngList i (j - i).toNat, []⟩, cs) else none
  | _, _ => none
theorem pi_rng2D {p pos : Pos} (hg : Gl X "range") (hm : X.mg "range" = none) (ha : PE X a (tR Y f)) (hb : PE X b (tR Y g)) (hs : starEach [a, b] X.env = [(false, eval a X.env), (false, eval b X.env)]) (hs2 : starEach [b] X.env = [(false, eval b X.env)]) :
    PI X tg (.Call (.Name "range" p) [a, b] [] pos) (tIt Y fun sl cs => (f sl cs).bind fun x cs => (g sl cs).bind fun y cs => srcRng2 x y cs) := by
  refine pi_weak (pi_range2 hg hm (pa_cons ha (pa_cons hb pa_nil hs2) (by rw [hs, hs2])) hs hs2) fun σ H Q h => ?_
  obtain ⟨sl, φ, cs, rs, w, ok⟩ := h
  refine tG.first rs w ok fun φ1 cs1 d x H1 e1 rs1 w1 q1 ok1 => ?_
  refine tG.first rs1 w1 ok1 fun φ2 cs2 e y H2 e2 rs2 w2 q2 ok2 => ?_
  unfold srcRng2 at ok2
  split at ok2
  · split at ok2
    · rename_i i j c
      have q1 : x = .int i := q1
      have q2 : y = .int j := q2
      subst q1 q2
      exact ⟨i, j, rfl, c, OkG.now ok2 w2 itOk_range⟩
    · exact (OkG.nope ok2).elim
  · exact (OkG.nope ok2).elim
/-- pairs -/
def zipD (ds es : List D) : List D := (ds.zip es).map fun p => .tup [p.1, p.2]
def srcZip (d e : D) (cs : Cells) : RsG ItD := match seqG cs d, seqG cs e with
  | some (_, ds, g1), some (_, es, g2) => some (.val ⟨zipD ds es, g1 ++ g2⟩, cs)
  | _, _ => none
theorem walkZ {K : PySem.W.Frag} {ta tb : Bool} {a b : Addr} {n m k : Nat} (hk : k = min n m) : Walk (ItG K ta tb a b) k (fun H => (∃ xs, SqG ta K H a xs ∧ xs.length = n) ∧ ∃ ys, SqG tb K H b ys ∧ ys.length = m)
    (fun i H v H' => ∀ xs ys, SqG ta K H a xs → SqG tb K H b ys → xs.length = n → ys.length = m → YPair (fun i => xs[i]?) (fun i => ys[i]?) i H v H') := by
  subst hk
  refine ⟨fun i H hi ⟨⟨xs, h1, h2⟩, ys, h3, h4⟩ => ?_, fun H ⟨⟨xs, h1, h2⟩, ys, h3, h4⟩ => ?_, fun i H v H' hi _ y xs ys h1 h3 h2 h4 => ?_⟩
  · exact (walkG (n := min n m) (by rw [h2, h4])).goes i H hi ⟨h1, h3⟩
  · exact (walkG (n := min n m) (by rw [h2, h4])).stops H ⟨h1, h3⟩
  · exact (walkG (n := min n m) (by rw [h2, h4])).yields i H v H' hi ⟨h1, h3⟩ y
theorem pi_zipD (hK : Y.K = X.K) {p pos tpos : Pos} {elts : List Expr} {kk : Nat} (hg : Gl X "zip") (hm : X.mg "zip" = none) (ha : PE X a (tR Y f)) (hb : PE X b (tR Y g)) (hs : starEach [a, b] X.env = [(false, eval a X.env), (false, eval b X.env)]) (hs2 : starEach [b] X.env = [(false, eval b X.env)])
    (hz : PI X (.Tuple elts kk tpos) (.Call (.Name "zip" p) [a, b] [] pos) (iZipG X.K (tCons (tR Y f) (tCons (tR Y g) tNil)))) :
    PI X (.Tuple elts kk tpos) (.Call (.Name "zip" p) [a, b] [] pos) (tIt Y fun sl cs => (f sl cs).bind fun x cs => (g sl cs).bind fun y cs => srcZip x y cs) := by
  refine pi_weak hz fun σ H Q h => ?_
  obtain ⟨sl, φ, cs, rs, w, ok⟩ := h
  refine tG.first rs w ok fun φ1 cs1 d x H1 e1 rs1 w1 q1 ok1 => ?_
  refine tG.first rs1 w1 ok1 fun φ2 cs2 e y H2 e2 rs2 w2 q2 ok2 => ?_
  have q1 := e2.r q1
  unfold srcZip at ok2
  split at ok2
  · rename_i t1 ds g1 t2 es g2 f1 f2
    obtain ⟨pa, xs, rfl, s1, r1⟩ := seq_see w2 (seqG_seqD f1) q1
    obtain ⟨pb, ys, rfl, s2, r2⟩ := seq_see w2 (seqG_seqD f2) q2
    refine ⟨t1, t2, pa, pb, xs, ys, rfl, by rw [← hK]; exact s1, by rw [← hK]; exact s2, OkG.now ok2 w2 ⟨_, _, by rw [← hK]; exact walkZ (n := ds.length) (m := es.length) (by simp [zipD]), fun Y' φ' cs' H' hY pre s w' gk => ?_, fun Y' i H' x H'' φ' cs' hY hi pre s w' gk yy => ?_⟩⟩
    · obtain ⟨xs', h1, h2⟩ := seq_later f1 (by rw [hY]; exact q1) pre s w' fun p hp => gk p (List.mem_append_left _ hp)
      obtain ⟨ys', h3, h4⟩ := seq_later f2 (by rw [hY]; exact q2) pre s w' fun p hp => gk p (List.mem_append_right _ hp)
      rw [hY] at h1 h3
      exact ⟨⟨xs', h1, h2.length⟩, ys', h3, h4.length⟩
    · obtain ⟨xs', h1, h2⟩ := seq_later f1 (by rw [hY]; exact q1) pre s w' fun p hp => gk p (List.mem_append_left _ hp)
      obtain ⟨ys', h3, h4⟩ := seq_later f2 (by rw [hY]; exact q2) pre s w' fun p hp => gk p (List.mem_append_right _ hp)
      rw [hY] at h1 h2 h3 h4
      obtain ⟨T, vx, vy, rfl, hT, rfl, hvx, hvy⟩ := yy xs' ys' h1 h3 h2.length h4.length
      obtain ⟨dx, k1, k2⟩ := h2.got hvx
      obtain ⟨dy, k3, k4⟩ := h4.got hvy
      refine ⟨.tup [dx, dy], ?_, w'.new hT _, ext_new w'.cs hT _, T, [vx, vy], rfl, .inl (.inl ?_), ?_⟩
      · simp [zipD, List.getElem?_zip_eq_some, k1, k3]
      · rw [M_new w'.cs hT, upd_same]
      · have ex := ext_new w'.cs hT (.tup [vx, vy])
        exact ⟨vx, [vy], rfl, ex.r k2, vy, [], rfl, ex.r k4, rfl⟩
  · exact (OkG.nope ok2).elim
end
end EV

namespace EV
open PySem PySem.Spec PyProof.Rows L2 ZG
/-! ### targets -/
inductive Tg where
  | nm (i : Nat) | tp (is : List Nat)
def Tg.ix : Tg → List Nat
  | .nm i => [i]
  | .tp is => is
def setAll : List Nat → List D → Slots → Slots
  | i :: is, d :: ds, sl => setAll is ds (sl.set i (some d))
  | _, _, sl => sl
def setAllV : List Nat → List V → L2.St → L2.St
  | i :: is, d :: ds, sl => setAllV is ds (sl.set i (some d))
  | _, _, sl => sl
def setTg (t : Tg) (d : D) (sl : Slots) : Option Slots := match t with
  | .nm i => some (sl.set i (some d))
  | .tp is => match d with
    | .tup ds => if ds.length = is.length then some (setAll is ds sl) else none
    | _ => none
def gNames : List Nat → TGs
  | [] => gNil
  | i :: is => gCons (gName i) (gNames is)
def gTg (K : PySem.W.Frag) : Tg → TG
  | .nm i => gName i
  | .tp is => gTup K is.length (gNames is)
section
variable {Y : Env} {φ φ1 : List Addr} {cs cs1 : Cells} {H H1 : Hp}
theorem gNames_do : ∀ (is : List Nat) (xs : List V) (σ : L2.St) (H : Hp) (Q : L2.St → Hp → Prop), xs.length = is.length → Q (setAllV is xs σ) H → gNames is xs σ H Q
  | [], [], σ, H, Q, _, q => ⟨rfl, q⟩
  | i :: is, x :: xs, σ, H, Q, h, q => ⟨x, xs, rfl, gNames_do is xs _ H Q (by simpa using h) q⟩
theorem RS.setAll : ∀ {is : List Nat} {ds : List D} {xs : List V} {sl : Slots} {σ : L2.St}, RS Y φ (M Y.hd φ cs H) sl σ → RA Y.K φ (M Y.hd φ cs H) ds xs → RS Y φ (M Y.hd φ cs H) (setAll is ds sl) (setAllV is xs σ)
  | [], ds, xs, _, _, r, _ => by simpa [EV.setAll, setAllV] using r
  | i :: is, [], xs, _, _, r, h => by
    cases h
    simpa [EV.setAll, setAllV] using r
  | i :: is, d :: ds, xs, _, _, r, ⟨y, ys, e, q, t⟩ => by
    subst e
    exact RS.setAll (is := is) (r.set i q) t
/-- a target is set -/
theorem gTg_do {X : Cx} (hK : Y.K = X.K) {t : Tg} {d : D} {v : V} {sl sl' : Slots} {σ : L2.St} {Q : L2.St → Hp → Prop} (h : setTg t d sl = some sl') (rs : RS Y φ (M Y.hd φ cs H) sl σ) (q : R Y.K φ (M Y.hd φ cs H) d v)
    (k : ∀ σ', RS Y φ (M Y.hd φ cs H) sl' σ' → (∀ j, j ∉ t.ix → σ'[j]? = σ[j]?) → σ'.length = σ.length → Q σ' H) : gTg X.K t v σ H Q := by
  have out : ∀ (is : List Nat) (xs : List V) (σ : L2.St), (∀ j, j ∉ is → (setAllV is xs σ)[j]? = σ[j]?) ∧ (setAllV is xs σ).length = σ.length := by
    intro is
    induction is with
    | nil => intro xs σ; exact ⟨fun _ _ => by cases xs <;> rfl, by cases xs <;> rfl⟩
    | cons i is ih =>
      intro xs σ
      cases xs with
      | nil => exact ⟨fun _ _ => rfl, rfl⟩
      | cons x xs =>
        obtain ⟨h1, h2⟩ := ih xs (σ.set i (some x))
        refine ⟨fun j hj => ?_, by show (setAllV is xs _).length = _; rw [h2, List.length_set]⟩
        show (setAllV is xs _)[j]? = _
        rw [h1 j (fun z => hj (List.mem_cons_of_mem _ z)), List.getElem?_set_ne (fun z => hj (by rw [z]; exact List.mem_cons_self))]
  cases t with
  | nm i =>
    cases h
    exact k _ (rs.set i q) (fun j hj => List.getElem?_set_ne (fun z => hj (by rw [z]; exact List.mem_cons_self))) (by simp)
  | tp is =>
    simp only [setTg] at h
    split at h
    · rename_i ds
      split at h
      · rename_i c
        cases h
        obtain ⟨a, xs, rfl, g, r⟩ := q
        have hl := r.length
        exact ⟨a, xs, rfl, by rw [← hK]; exact (SameT.of (M_same Y.hd φ cs H)).tup g, by rw [hl]; exact c, gNames_do is xs σ H Q (by rw [hl]; exact c) (k _ (rs.setAll r) (out is xs σ).1 (out is xs σ).2)⟩
      · cases h
    · cases h
/-! ### wiping -/
theorem wipe_at (σ : L2.St) : ∀ (vs : List Nat) (j : Nat), (L2.wipe σ vs)[j]? = if j ∈ vs then (if j < σ.length then some none else none) else σ[j]?
  | [], j => by simp [L2.wipe]
  | v :: vs, j => by
    unfold L2.wipe
    by_cases c : v = j
    · subst c
      by_cases l : v < σ.length
      · rw [List.getElem?_set_self (by rw [wipe_length]; exact l)]
        simp [l]
      · rw [List.getElem?_eq_none (by rw [List.length_set, wipe_length]; omega)]
        simp [l]
    · rw [List.getElem?_set_ne c, wipe_at σ vs j]
      have : j ∈ v :: vs ↔ j ∈ vs := by simp [List.mem_cons, Ne.symm c]
      simp only [this]
theorem wipe_again {σ σ' : L2.St} {vs ix : List Nat} (hsub : ∀ i ∈ ix, i ∈ vs) (h : ∀ j, j ∉ ix → σ'[j]? = (L2.wipe σ vs)[j]?) (hl : σ'.length = (L2.wipe σ vs).length) : L2.wipe σ' vs = L2.wipe σ vs := by
  refine List.ext_getElem? fun j => ?_
  rw [wipe_at]
  by_cases c : j ∈ vs
  · rw [if_pos c, wipe_at, if_pos c, hl, wipe_length]
  · rw [if_neg c, h j fun z => c (hsub j z)]
end
/-! ### comprehensions -/
/-- nothing is raised there -/
def noX {α : Type} (r : RsG α) : RsG α := match r with
  | some (.val d, cs) => some (.val d, cs)
  | _ => none
abbrev Env.nox (Y : Env) : Env := { Y with EX := fun _ _ _ => False }
open Classical in
noncomputable def grd? {α : Type} (g : List (Nat × List D)) (cs : Cells) (r : RsG α) : RsG α := if grdOk g cs then r else none
@[simp] theorem grd_nil {α : Type} (cs : Cells) (r : RsG α) : grd? [] cs r = r := by
  unfold grd?
  rw [if_pos]
  intro p hp
  cases hp
/-- a turn: none where a test says no -/
def lcTurn (t : Tg) (vs : List Nat) (p : Slots → Cells → RsG Bool) (f : Slots → Cells → Rs) (sl : Slots) (x : D) (cs : Cells) : RsG (Option D) := match setTg t x (wipeD sl vs) with
  | none => none
  | some sl' => (noX (p sl' cs)).bind fun b cs => if b = true then (noX (f sl' cs)).bind fun d cs => some (.val (some d), cs) else some (.val none, cs)
noncomputable def lcLoop (turn : D → Cells → RsG (Option D)) (g : List (Nat × List D)) : List D → Cells → List D → RsG (List D)
  | [], cs, acc => grd? g cs (some (.val acc, cs))
  | x :: r, cs, acc => grd? g cs ((turn x cs).bind fun o cs => match o with
    | none => lcLoop turn g r cs acc
    | some d => if acc.length < sizeLine then lcLoop turn g r cs (acc ++ [d]) else none)
noncomputable def lcD (own : Bool) (t : Tg) (vs : List Nat) (src : Slots → Cells → RsG ItD) (p : Slots → Cells → RsG Bool) (f : Slots → Cells → Rs) : Slots → Cells → Rs := fun sl cs =>
  (src sl cs).bind fun it cs => (lcLoop (lcTurn t vs p f sl) it.grd it.items cs []).bind fun ds cs => mkL own ds cs
theorem grd_some {α : Type} {g : List (Nat × List D)} {cs : Cells} {r : RsG α} {z : Out α × Cells} (h : grd? g cs r = some z) : grdOk g cs ∧ r = some z := by
  unfold grd? at h
  split at h
  · rename_i c
    exact ⟨c, h⟩
  · cases h
section
variable {X : Cx} {Y : Env}
theorem noX_some {α : Type} {r : RsG α} {z : Out α × Cells} (h : noX r = some z) : ∃ d cs, z = (.val d, cs) ∧ r = some (.val d, cs) := by
  unfold noX at h
  split at h
  · rename_i d cs
    cases h
    exact ⟨d, cs, rfl, rfl⟩
  · cases h
/-- a turn that comes to an end -/
theorem turn_some {t : Tg} {vs : List Nat} {p : Slots → Cells → RsG Bool} {f : Slots → Cells → Rs} {sl : Slots} {x : D} {cs : Cells} {z : Out (Option D) × Cells} (h : lcTurn t vs p f sl x cs = some z) :
    ∃ sl' b cs2, setTg t x (wipeD sl vs) = some sl' ∧ p sl' cs = some (.val b, cs2) ∧ ((b = false ∧ z = (.val none, cs2)) ∨ (b = true ∧ ∃ d cs3, f sl' cs2 = some (.val d, cs3) ∧ z = (.val (some d), cs3))) := by
  unfold lcTurn at h
  split at h
  · cases h
  · rename_i sl' e
    cases e2 : noX (p sl' cs) with
    | none => rw [e2] at h; cases h
    | some y =>
      obtain ⟨b, cs2, rfl, e3⟩ := noX_some e2
      rw [e2, RsG.bind_val] at h
      cases b with
      | false =>
        rw [if_neg Bool.false_ne_true] at h
        cases h
        exact ⟨sl', false, cs2, e, e3, .inl ⟨rfl, rfl⟩⟩
      | true =>
        rw [if_pos rfl] at h
        cases e4 : noX (f sl' cs2) with
        | none => rw [e4] at h; cases h
        | some y =>
          obtain ⟨d, cs3, rfl, e5⟩ := noX_some e4
          rw [e4, RsG.bind_val] at h
          cases h
          exact ⟨sl', true, cs2, e, e3, .inr ⟨rfl, d, cs3, e5, rfl⟩⟩
theorem loop_grd {turn : D → Cells → RsG (Option D)} {g : List (Nat × List D)} {l : List D} {cs : Cells} {acc : List D} {z : Out (List D) × Cells} (h : lcLoop turn g l cs acc = some z) : grdOk g cs := by
  cases l with
  | nil => exact (grd_some h).1
  | cons x r => exact (grd_some h).1
def Env.hide (Y : Env) (p : Addr) : Env := { Y with EX := fun _ _ _ => False, hd := p :: Y.hd }
theorem lc_read (hK : Y.K = X.K) {own : Bool} {t : Tg} {vs : List Nat} {src : Slots → Cells → RsG ItD} {p : Slots → Cells → RsG Bool} {f : Slots → Cells → Rs} {tt : TT} {te : TE}
    (htt : ∀ D σ H Q, tRT (Y.hide D) p σ H Q → tt σ H Q) (hte : ∀ D σ H Q, tR (Y.hide D) f σ H Q → te σ H Q) (ht : ∀ i ∈ t.ix, i ∈ vs) {σ : L2.St} {H : Hp} {Q : VK} (h : tR Y (lcD own t vs src p f) σ H Q) :
    tLc (tIt Y src) (gTg X.K t) tt te vs σ H Q := by
  obtain ⟨sl, φ, cs, rs, w, ok⟩ := h
  refine tG.first rs w ok fun φ1 cs1 it J H1 e1 rs1 w1 q1 ok1 => ?_
  intro Dd hD
  obtain ⟨Gd, Yw, wk, hG, hY⟩ := q1.w
  have nh : Dd ∉ Y.hd := w1.cs.nhd hD
  cases hz : lcLoop (lcTurn t vs p f sl) it.grd it.items cs1 [] with
  | none =>
    rw [hz] at ok1
    exact (OkG.nope ok1).elim
  | some Z =>
    rw [hz] at ok1
    -- what has come so far
    refine lc_it wk (fun i Hi => ∃ φi csi acc xs, φ1 <+: φi ∧ SameT (M Y.hd φ1 cs1 H1) (M (Dd :: Y.hd) φi csi Hi) ∧ (∀ b ∈ Y.hd, Hi b = H1 b) ∧ W1 (Y.hide Dd) φi csi Hi ∧ Hi Dd = some (.lst xs) ∧ RA Y.K φi (M (Dd :: Y.hd) φi csi Hi) acc xs ∧
      lcLoop (lcTurn t vs p f sl) it.grd (it.items.drop i) csi acc = some Z) ?_ ?_ ?_ ?_
    · obtain ⟨c1, s1⟩ := cs_hide w1.cs hD (.lst [])
      exact ⟨φ1, cs1, [], [], List.prefix_refl _, s1, fun b m => upd_ne fun e => nh (by rw [← e]; exact m), ⟨c1, Y.kp.new _ _ _ w1.j hD⟩, upd_same, rfl, hz⟩
    · rintro i Hi hi ⟨φi, csi, acc, xs, pre, s, kh, wi, eD, ra, lp⟩
      exact hG (Y.hide Dd) φi csi Hi rfl pre s wi (loop_grd lp)
    · rintro i x Hi H' hi ⟨φi, csi, acc, xs, pre, s, kh, wi, eD, ra, lp⟩ yw
      obtain ⟨d, hd, w', e', q'⟩ := hY (Y.hide Dd) i Hi x H' φi csi rfl hi pre s wi (loop_grd lp) yw
      have hdrop : it.items.drop i = d :: it.items.drop (i + 1) := by
        obtain ⟨hlt, e⟩ := List.getElem?_eq_some_iff.mp hd
        rw [List.drop_eq_getElem_cons hlt, e]
      rw [hdrop] at lp
      have lp2 := (grd_some lp).2
      cases ht1 : lcTurn t vs p f sl d csi with
      | none => rw [ht1] at lp2; cases lp2
      | some z =>
        rw [ht1] at lp2
        obtain ⟨sl', b, cs2, g1, g2, g3⟩ := turn_some ht1
        have rs' : RS (Y.hide Dd) φi (M (Y.hide Dd).hd φi csi H') (wipeD sl vs) (L2.wipe σ vs) := by
          refine RS.wipe ⟨rs1.len, fun j d' hj => ?_⟩ vs
          obtain ⟨v, h1, h2⟩ := rs1.at_ j d' hj
          exact ⟨v, h1, e'.r (R.mono pre s d' v h2)⟩
        refine gTg_do (Y := Y.hide Dd) hK g1 rs' q' fun σ' rs2 hout hlen => ⟨wipe_again ht hout hlen, ?_⟩
        refine htt Dd σ' H' _ ⟨sl', φi, csi, rs2, w', ?_⟩
        rw [g2]
        intro b' φ2 H2 e2 w2 hb
        subst hb
        have eD' : H' Dd = some (.lst xs) := (e'.keep Dd List.mem_cons_self).trans eD
        rcases g3 with ⟨rfl, rfl⟩ | ⟨rfl, d2, cs3, g4, rfl⟩
        · rw [if_neg Bool.false_ne_true]
          have ee := e'.trans e2
          exact ⟨φ2, cs2, acc, xs, pre.trans ee.pre, s.trans ee.same, fun c m => (ee.keep c (List.mem_cons_of_mem _ m)).trans (kh c m), w2, (e2.keep Dd List.mem_cons_self).trans eD', RA.mono ee.pre ee.same _ _ ra, lp2⟩
        · rw [if_pos rfl]
          refine hte Dd σ' H2 _ ⟨sl', φ2, cs2, rs2.later e2, w2, ?_⟩
          rw [g4]
          intro y φ3 H3 e3 w3 r3
          have ee := (e'.trans e2).trans e3
          have eD3 : H3 Dd = some (.lst xs) := (ee.keep Dd List.mem_cons_self).trans eD
          have ra3 := RA.mono ee.pre ee.same _ _ ra
          rw [RsG.bind_val] at lp2
          dsimp only at lp2
          split at lp2
          · rename_i c
            refine ⟨xs, eD3, by rw [ra3.length]; exact c, φ3, cs3, acc ++ [d2], xs ++ [y], pre.trans ee.pre, ?_, fun c m => ?_, ⟨cs_puth w3.cs (fun x z => by rw [eD3] at z; cases z) _, Y.kp.lst _ _ _ _ w3.j eD3⟩, upd_same, ?_, lp2⟩
            · rw [M_puth]
              exact s.trans ee.same
            · rw [upd_ne fun e => nh (by rw [← e]; exact m)]
              exact (ee.keep c (List.mem_cons_of_mem _ m)).trans (kh c m)
            · rw [M_puth]
              exact ra3.app (.one r3)
          · cases lp2
    · rintro Hn ⟨φn, csn, acc, xs, pre, s, kh, wn, eD, ra, lp⟩
      rw [List.drop_length] at lp
      have lp := (grd_some lp).2
      cases lp
      rw [RsG.bind_val] at ok1
      unfold mkL at ok1
      cases own with
      | false =>
        have ok1 : OkV Y φ1 cs1 H1 (some (.val (.lst acc), csn)) Q := by simpa using ok1
        refine ok1 _ φn Hn ⟨pre, s.trans (same_show Dd), kh⟩ ⟨cs_show wn.cs, wn.j⟩ ⟨Dd, xs, rfl, M_mk (fun z => z.elim (fun l => ?_) nh) eD, RA.mono (List.prefix_refl _) (same_show Dd) _ _ ra⟩
        obtain ⟨n, c, h1, _⟩ := l
        exact (wn.cs.hs Dd List.mem_cons_self).2 (List.mem_of_getElem? h1)
      | true =>
        have ok1 : OkV Y φ1 cs1 H1 (some (.val (.ref csn.length), csn ++ [.lst acc])) Q := by simpa using ok1
        refine ok1 _ (φn ++ [Dd]) Hn ⟨pre.trans (List.prefix_append _ _), s.trans (same_showC wn.cs rfl nh), kh⟩ ⟨cs_showC wn.cs rfl nh ⟨xs, eD, ra⟩, wn.j⟩ ⟨Dd, rfl, ?_⟩
        rw [← wn.cs.len]
        simp
end
end EV

namespace EV
open PySem PySem.Spec PyProof.Rows L2 ZG
/-! ### statements -/
inductive Fl where
  | nx | ret (d : D) | bk | ct
inductive FV where
  | nx (σ : L2.St) | rt (v : V) | bk (σ : L2.St) | ct (σ : L2.St)
abbrev RsS := RsG (Fl × Slots)
def relS (Y : Env) (φ : List Addr) (G : Hp) : Fl × Slots → FV → Prop
  | (.nx, sl), .nx σ => RS Y φ G sl σ
  | (.ret d, _), .rt v => R Y.K φ G d v
  | (.bk, sl), .bk σ => RS Y φ G sl σ
  | (.ct, sl), .ct σ => RS Y φ G sl σ
  | _, _ => False
def endQ (E : Ends) : FV → Hp → Prop
  | .nx σ, H => E.nx σ H
  | .rt v, H => E.rt v H
  | .bk σ, H => E.bk σ H
  | .ct σ, H => E.ct σ H
abbrev OkS (Y : Env) (φ : List Addr) (cs : Cells) (H : Hp) (r : RsS) (E : Ends) : Prop := OkG Y (relS Y) φ cs H r (endQ E)
def tS (Y : Env) (f : Slots → Cells → RsS) : TS := fun E σ H => tG Y (relS Y) f σ H (endQ E)
def nxS (sl : Slots) (cs : Cells) : RsS := some (.val (.nx, sl), cs)
/-- one behind another -/
def seqS (f g : Slots → Cells → RsS) : Slots → Cells → RsS := fun sl cs => (f sl cs).bind fun r cs => match r with
  | (.nx, sl) => g sl cs
  | r => some (.val r, cs)
section
variable {X : Cx} {Y : Env} {st : Stmt} {rest : List Stmt} {pos : Pos} {f g : Slots → Cells → RsS}
theorem pss_nilD : PSs X [] (tS Y nxS) := by
  refine pss_weak pss_nil fun E σ H h => ?_
  obtain ⟨sl, φ, cs, rs, w, ok⟩ := h
  exact ok (.nx σ) φ H (.refl _ _ _ _) w rs
theorem pss_consD (h1 : PS X st (tS Y f)) (h2 : PSs X rest (tS Y g)) : PSs X (st :: rest) (tS Y (seqS f g)) := by
  refine pss_weak (pss_cons h1 h2) fun E σ H h => ?_
  obtain ⟨sl, φ, cs, rs, w, ok⟩ := h
  refine tG.first rs w ok fun φ1 cs1 d x H1 e1 rs1 w1 q1 ok1 => ?_
  match d, x, q1, ok1 with
  | (.nx, sl'), .nx σ', q1, ok1 => exact ⟨sl', φ1, cs1, q1, w1, ok1⟩
  | (.ret d, sl'), .rt v, q1, ok1 => exact ok1 (.rt v) φ1 H1 (.refl _ _ _ _) w1 q1
  | (.bk, sl'), .bk σ', q1, ok1 => exact ok1 (.bk σ') φ1 H1 (.refl _ _ _ _) w1 q1
  | (.ct, sl'), .ct σ', q1, ok1 => exact ok1 (.ct σ') φ1 H1 (.refl _ _ _ _) w1 q1
variable {e : Expr} {a : Slots → Cells → Rs} {p : Slots → Cells → RsG Bool}
theorem ps_exprD (he : PE X e (tR Y a)) (hs : swapsWith e none pos.line X.env = pure false) : PS X (.Expr e pos) (tS Y fun sl cs => (a sl cs).bind fun _ cs => nxS sl cs) := by
  refine ps_weak (ps_expr he hs) fun E σ H h => ?_
  obtain ⟨sl, φ, cs, rs, w, ok⟩ := h
  refine tG.first rs w ok fun φ1 cs1 d x H1 e1 rs1 w1 q1 ok1 => ?_
  exact ok1 (.nx σ) φ1 H1 (.refl _ _ _ _) w1 rs1
theorem ps_docD {x j pos'} : PS X (.Expr (.Constant (.str x) j pos') pos) (tS Y nxS) := by
  refine ps_weak ps_doc fun E σ H h => ?_
  obtain ⟨sl, φ, cs, rs, w, ok⟩ := h
  exact ok (.nx σ) φ H (.refl _ _ _ _) w rs
theorem ps_passD : PS X (.Pass pos) (tS Y nxS) := by
  refine ps_weak ps_pass fun E σ H h => ?_
  obtain ⟨sl, φ, cs, rs, w, ok⟩ := h
  exact ok (.nx σ) φ H (.refl _ _ _ _) w rs
theorem ps_contD : PS X (.Continue pos) (tS Y fun sl cs => some (.val (.ct, sl), cs)) := by
  refine ps_weak ps_continue fun E σ H h => ?_
  obtain ⟨sl, φ, cs, rs, w, ok⟩ := h
  exact ok (.ct σ) φ H (.refl _ _ _ _) w rs
theorem ps_brkD : PS X (.Break pos) (tS Y fun sl cs => some (.val (.bk, sl), cs)) := by
  refine ps_weak ps_break fun E σ H h => ?_
  obtain ⟨sl, φ, cs, rs, w, ok⟩ := h
  exact ok (.bk σ) φ H (.refl _ _ _ _) w rs
theorem ps_retD (he : PE X e (tR Y a)) : PS X (.Return (some e) pos) (tS Y fun sl cs => (a sl cs).bind fun d cs => some (.val (.ret d, sl), cs)) := by
  refine ps_weak (ps_ret he) fun E σ H h => ?_
  obtain ⟨sl, φ, cs, rs, w, ok⟩ := h
  refine tG.first rs w ok fun φ1 cs1 d x H1 e1 rs1 w1 q1 ok1 => ?_
  exact ok1 (.rt x) φ1 H1 (.refl _ _ _ _) w1 q1
theorem ps_retND : PS X (.Return none pos) (tS Y fun sl cs => some (.val (.ret .non, sl), cs)) := by
  refine ps_weak ps_retN fun E σ H h => ?_
  obtain ⟨sl, φ, cs, rs, w, ok⟩ := h
  exact ok (.rt .non) φ H (.refl _ _ _ _) w rfl
theorem ps_ifD {c : Expr} {as bs : List Stmt} (hc : PT X c (tRT Y p)) (ha : PSs X as (tS Y f)) (hb : PSs X bs (tS Y g)) : PS X (.If c as bs pos) (tS Y fun sl cs => (p sl cs).bind fun b cs => if b = true then f sl cs else g sl cs) := by
  refine ps_weak (ps_if hc ha hb) fun E σ H h => ?_
  obtain ⟨sl, φ, cs, rs, w, ok⟩ := h
  refine tG.first rs w ok fun φ1 cs1 d x H1 e1 rs1 w1 q1 ok1 => ?_
  subst q1
  cases x with
  | true => rw [if_pos rfl] at ok1 ⊢; exact ⟨sl, φ1, cs1, rs1, w1, ok1⟩
  | false => rw [if_neg Bool.false_ne_true] at ok1 ⊢; exact ⟨sl, φ1, cs1, rs1, w1, ok1⟩
/-! ### stores -/
def setS (i : Nat) (a : Slots → Cells → Rs) : Slots → Cells → RsS := fun sl cs => (a sl cs).bind fun d cs => nxS (sl.set i (some d)) cs
theorem tAsg_D {i : Nat} {te : TE} (i0 : ∀ σ H Q, tR Y a σ H Q → te σ H Q) {E : Ends} {σ : L2.St} {H : Hp} (h : tS Y (setS i a) E σ H) : tAsg te (gName i) E σ H := by
  obtain ⟨sl, φ, cs, rs, w, ok⟩ := h
  refine i0 _ _ _ (tG.first rs w ok fun φ1 cs1 d x H1 e1 rs1 w1 q1 ok1 => ?_)
  exact ok1 (.nx _) φ1 H1 (.refl _ _ _ _) w1 (rs1.set i q1)
theorem ps_setD {i : Nat} {x : Str} {pos' : Pos} (hN : X.N.Nodup) (hi : X.N[i]? = some x) (hx : Loc X.env.scope x) (he : PE X e (tR Y a)) (hs : swapsWith e (some (.Name x pos')) pos.line X.env = pure false) (hf : X.fn x = true ∨ X.env.scope.names.lookup x = some .local) :
    PS X (.Assign [.Name x pos'] e pos) (tS Y (setS i a)) := ps_weak (ps_set hN hi hx he hs hf) fun _ _ _ h => tAsg_D (fun _ _ _ h => h) h
def asgS (t : Tg) (a : Slots → Cells → Rs) : Slots → Cells → RsS := fun sl cs => (a sl cs).bind fun d cs => match setTg t d sl with
  | some sl' => nxS sl' cs
  | none => none
theorem ps_asgD (hK : Y.K = X.K) {t : Tg} {tg : Expr} (he : PE X e (tR Y a)) (hg : PG X tg (gTg X.K t)) (hs : swapsWithSole [tg] e pos.line X.env = pure false) (hw : swappedStores [tg] e X.env = pure none) (h1 : (assignEach [tg] X.env).map (·.2) = [assign tg X.env]) :
    PS X (.Assign [tg] e pos) (tS Y (asgS t a)) := by
  refine ps_weak (ps_asg he hg hs hw h1) fun E σ H h => ?_
  obtain ⟨sl, φ, cs, rs, w, ok⟩ := h
  refine tG.first rs w ok fun φ1 cs1 d x H1 e1 rs1 w1 q1 ok1 => ?_
  cases ht : setTg t d sl with
  | none => rw [ht] at ok1; exact (OkG.nope ok1).elim
  | some sl' =>
    rw [ht] at ok1
    exact gTg_do hK ht rs1 q1 fun σ' rs' _ _ => ok1 (.nx σ') φ1 H1 (.refl _ _ _ _) w1 rs'
/-- o[i] = e on a cell that is a list -/
def putD (o i v : D) (cs : Cells) : RsG Unit := match cellL cs o, i with
  | some (n, es), .int k => match ixN es.length k with
    | some j => some (.val (), cs.set n (.lst (es.set j v)))
    | none => none
  | _, _ => none
def subS (o i a : Slots → Cells → Rs) : Slots → Cells → RsS := fun sl cs => (a sl cs).bind fun v cs => (o sl cs).bind fun x cs => (i sl cs).bind fun y cs => (putD x y v cs).bind fun _ cs => nxS sl cs
theorem ps_subD {oe ie : Expr} {o i : Slots → Cells → Rs} {tpos : Pos} (he : PE X e (tR Y a)) (ho : PE X oe (tR Y o)) (hi : PE X ie (tR Y i))
    (hset : ∀ v, assign (.Subscript oe ie tpos) X.env v = (do
      let ov ← holding [v] (eval oe X.env)
      let iv ← holding [v, ov] (eval ie X.env)
      standAt tpos
      holding [v, ov, iv] (setItem ov iv v)
      release [v, ov, iv] []))
    (hs : swapsWithSole [.Subscript oe ie tpos] e pos.line X.env = pure false) (hw : swappedStores [.Subscript oe ie tpos] e X.env = pure none) (h1 : (assignEach [.Subscript oe ie tpos] X.env).map (·.2) = [assign (.Subscript oe ie tpos) X.env]) :
    PS X (.Assign [.Subscript oe ie tpos] e pos) (tS Y (subS o i a)) := by
  refine ps_weak (ps_asg he (pg_sub ho hi set_list hset) hs hw h1) fun E σ H h => ?_
  obtain ⟨sl, φ, cs, rs, w, ok⟩ := h
  refine tG.first rs w ok fun φ1 cs1 d x H1 e1 rs1 w1 q1 ok1 => ?_
  refine tG.first rs1 w1 ok1 fun φ2 cs2 d2 x2 H2 e2 rs2 w2 q2 ok2 => ?_
  refine tG.first rs2 w2 ok2 fun φ3 cs3 d3 x3 H3 e3 rs3 w3 q3 ok3 => ?_
  unfold putD at ok3
  split at ok3
  · rename_i n es k ec
    split at ok3
    · rename_i j ej
      obtain ⟨b, ys, rfl, ha, hn, hH, r⟩ := cell_see w3 ec (e3.r q2)
      refine ⟨b, ys, k, j, rfl, q3, hH, by rw [r.length]; exact ej, ?_⟩
      rw [RsG.bind_val] at ok3
      refine ok3 (.nx σ) φ3 _ (ext_put w3.cs ha hn rfl rfl _) (w3.putL ha hn hH (r.set j (e3.r (e2.r q1)))) (rs3.later (ext_put w3.cs ha hn rfl rfl _))
    · exact (OkG.nope ok3).elim
  · exact (OkG.nope ok3).elim
/-! ### for -/
noncomputable def forLoop (t : Tg) (body : Slots → Cells → RsS) (gd : List (Nat × List D)) : List D → Slots → Cells → RsS
  | [], sl, cs => grd? gd cs (nxS sl cs)
  | x :: r, sl, cs => grd? gd cs (match setTg t x sl with
    | none => none
    | some sl' => (body sl' cs).bind fun q cs => match q with
      | (.nx, sl) => forLoop t body gd r sl cs
      | (.ct, sl) => forLoop t body gd r sl cs
      | (.bk, sl) => nxS sl cs
      | (.ret d, sl) => some (.val (.ret d, sl), cs))
noncomputable def forS (t : Tg) (src : Slots → Cells → RsG ItD) (body : Slots → Cells → RsS) : Slots → Cells → RsS := fun sl cs => (src sl cs).bind fun it cs => forLoop t body it.grd it.items sl cs
theorem grd_ok {α β : Type} {rel : List Addr → Hp → α → β → Prop} {φ : List Addr} {cs : Cells} {H : Hp} {Q : β → Hp → Prop} {gd : List (Nat × List D)} {r : RsG α} {c : Cells} (h : OkG Y rel φ cs H (grd? gd c r) Q) : grdOk gd c ∧ OkG Y rel φ cs H r Q := by
  unfold grd? at h
  split at h
  · rename_i k
    exact ⟨k, h⟩
  · exact (OkG.nope h).elim
theorem ps_forD (hK : Y.K = X.K) (hp : PassesOwn (model X.prog X.w) X.A X.env X.xe) (hc : X.calm = true) {t : Tg} {src : Slots → Cells → RsG ItD} {tg iter : Expr} {body : List Stmt} (hi : PI X tg iter (tIt Y src)) (hg : PG X tg (gTg X.K t)) (hb : PSs X body (tS Y f))
    (hs : ∀ x, foldedSetIterable iter X.env x = pure x) : PS X (.For tg iter body [] pos) (tS Y (forS t src f)) := by
  refine ps_weak (ps_for hp hc hi hg hb hs) fun E σ H h => ?_
  obtain ⟨sl, φ, cs, rs, w, ok⟩ := h
  refine tG.first rs w ok fun φ1 cs1 it J H1 e1 rs1 w1 q1 ok1 => ?_
  obtain ⟨Gd, Yw, wk, hG, hY⟩ := q1.w
  refine for_it wk (fun i σi Hi => ∃ φi csi sli, Ext Y.hd φ1 cs1 H1 φi csi Hi ∧ W1 Y φi csi Hi ∧ RS Y φi (M Y.hd φi csi Hi) sli σi ∧ OkS Y φi csi Hi (forLoop t f it.grd (it.items.drop i) sli csi) E) ?_ ?_ ?_ ?_
  · exact ⟨φ1, cs1, sl, .refl _ _ _ _, w1, rs1, ok1⟩
  · rintro i σi Hi hi ⟨φi, csi, sli, ei, wi, rsi, oki⟩
    refine hG Y φi csi Hi rfl ei.pre ei.same wi ?_
    cases hd : it.items.drop i with
    | nil => rw [hd] at oki; exact (grd_ok oki).1
    | cons x r => rw [hd] at oki; exact (grd_ok oki).1
  · rintro i x σi Hi H' hi ⟨φi, csi, sli, ei, wi, rsi, oki⟩ yw
    have gk : grdOk it.grd csi := by
      cases hd : it.items.drop i with
      | nil => rw [hd] at oki; exact (grd_ok oki).1
      | cons x r => rw [hd] at oki; exact (grd_ok oki).1
    obtain ⟨d, hd, w', e', q'⟩ := hY Y i Hi x H' φi csi rfl hi ei.pre ei.same wi gk yw
    have hdrop : it.items.drop i = d :: it.items.drop (i + 1) := by
      obtain ⟨hlt, e⟩ := List.getElem?_eq_some_iff.mp hd
      rw [List.drop_eq_getElem_cons hlt, e]
    rw [hdrop] at oki
    have ok2 := (grd_ok oki).2
    cases ht : setTg t d sli with
    | none => rw [ht] at ok2; exact (OkG.nope ok2).elim
    | some sl' =>
      rw [ht] at ok2
      refine gTg_do hK ht (rsi.later e') q' fun σ' rs' _ _ => ?_
      refine ⟨sl', φi, csi, rs', w', (OkG.bind (rel := relS Y) (OkG.later e' ok2)).imp ?_⟩
      rintro y H2 ⟨φ2, cs2, q, e2, w2, r2, ok3⟩
      match q, y, r2, ok3 with
      | (.nx, sl2), .nx σ2, r2, ok3 => exact ⟨φ2, cs2, sl2, ei.trans (e'.trans e2), w2, r2, ok3⟩
      | (.ct, sl2), .ct σ2, r2, ok3 => exact ⟨φ2, cs2, sl2, ei.trans (e'.trans e2), w2, r2, ok3⟩
      | (.bk, sl2), .bk σ2, r2, ok3 => exact ok3 (.nx σ2) φ2 H2 (.refl _ _ _ _) w2 r2
      | (.ret d, sl2), .rt v, r2, ok3 => exact ok3 (.rt v) φ2 H2 (.refl _ _ _ _) w2 r2
  · rintro σi Hi ⟨φi, csi, sli, ei, wi, rsi, oki⟩
    rw [List.drop_length] at oki
    exact (grd_ok oki).2 (.nx σi) φi Hi (.refl _ _ _ _) wi rsi
/-! ### while -/
def whileLoop (p : Slots → Cells → RsG Bool) (body : Slots → Cells → RsS) : Nat → Slots → Cells → RsS
  | 0, _, _ => none
  | k + 1, sl, cs => (p sl cs).bind fun b cs => if b = true then (body sl cs).bind fun q cs => match q with
      | (.nx, sl) => whileLoop p body k sl cs
      | (.ct, sl) => whileLoop p body k sl cs
      | (.bk, sl) => nxS sl cs
      | (.ret d, sl) => some (.val (.ret d, sl), cs)
    else nxS sl cs
theorem ps_whileD (hp : PassesOwn (model X.prog X.w) X.A X.env X.xe) {c : Expr} {body : List Stmt} (hc : PT X c (tRT Y p)) (hb : PSs X body (tS Y f)) (k : Nat) : PS X (.While c body [] pos) (tS Y (whileLoop p f k)) := by
  refine ps_weak (ps_while hp hc hb) fun E σ H h => ?_
  obtain ⟨sl, φ, cs, rs, w, ok⟩ := h
  refine ⟨fun m σi Hi => ∃ φi csi sli, W1 Y φi csi Hi ∧ RS Y φi (M Y.hd φi csi Hi) sli σi ∧ OkS Y φi csi Hi (whileLoop p f m sli csi) E, ⟨k, φ, cs, sl, w, rs, ok⟩, ?_⟩
  rintro m σi Hi ⟨φi, csi, sli, wi, rsi, oki⟩
  cases m with
  | zero => exact (OkG.nope oki).elim
  | succ m =>
    refine tG.first rsi wi oki fun φ1 cs1 d x H1 e1 rs1 w1 q1 ok1 => ?_
    subst q1
    cases x with
    | false =>
      rw [if_neg Bool.false_ne_true] at ok1 ⊢
      exact ok1 (.nx σi) φ1 H1 (.refl _ _ _ _) w1 rs1
    | true =>
      rw [if_pos rfl] at ok1 ⊢
      refine ⟨fun σ' H' => ∃ φi csi sli, W1 Y φi csi H' ∧ RS Y φi (M Y.hd φi csi H') sli σ' ∧ OkS Y φi csi H' (whileLoop p f m sli csi) E, fun σ' H' q => ⟨m, Nat.lt_succ_self _, q⟩, ?_⟩
      refine ⟨sli, φ1, cs1, rs1, w1, (OkG.bind (rel := relS Y) ok1).imp ?_⟩
      rintro y H2 ⟨φ2, cs2, q, e2, w2, r2, ok3⟩
      match q, y, r2, ok3 with
      | (.nx, sl2), .nx σ2, r2, ok3 => exact ⟨φ2, cs2, sl2, w2, r2, ok3⟩
      | (.ct, sl2), .ct σ2, r2, ok3 => exact ⟨φ2, cs2, sl2, w2, r2, ok3⟩
      | (.bk, sl2), .bk σ2, r2, ok3 => exact ok3 (.nx σ2) φ2 H2 (.refl _ _ _ _) w2 r2
      | (.ret d, sl2), .rt v, r2, ok3 => exact ok3 (.rt v) φ2 H2 (.refl _ _ _ _) w2 r2
end
end EV

namespace EV
open PySem PySem.Spec PyProof.Rows L2 ZG
/-! ### dropping what nobody sees -/
mutual
def clean (n : Nat) : D → Bool
  | .ref m => decide (m < n)
  | .tup ds => cleanA n ds
  | .lst ds => cleanA n ds
  | .frz ds => cleanA n ds
  | .dct _ ds => cleanA n ds
  | .ins _ _ ds => cleanA n ds
  | _ => true
def cleanA (n : Nat) : List D → Bool
  | [] => true
  | d :: ds => clean n d && cleanA n ds
end
def cleanC (n : Nat) : Cell → Bool
  | .lst ds => cleanA n ds
  | .dct _ ds => cleanA n ds
  | .ins _ _ ds => cleanA n ds
  | .dead => true
@[simp] theorem cleanA_ints (n : Nat) (ns : List Int) : cleanA n (ns.map D.int) = true := by induction ns <;> simp_all [cleanA, clean]
@[simp] theorem cleanA_bls (n : Nat) (ns : List Bool) : cleanA n (ns.map D.bl) = true := by induction ns <;> simp_all [cleanA, clean]
@[simp] theorem cleanA_strs (n : Nat) (ns : List Str) : cleanA n (ns.map D.str) = true := by induction ns <;> simp_all [cleanA, clean]
theorem cleanA_iff (n : Nat) (ds : List D) : cleanA n ds = true ↔ ∀ d ∈ ds, clean n d = true := by
  induction ds with
  | nil => simp [cleanA]
  | cons d ds ih => simp [cleanA, ih]
def gcR (n : Nat) (r : Rs) : Rs := match r with
  | some (.val d, cs) => if clean n d = true ∧ (cs.take n).all (cleanC n) = true then some (.val d, cs.take n) else some (.val d, cs)
  | some (.exc x, cs) => if cleanA n x.ds = true ∧ (cs.take n).all (cleanC n) = true then some (.exc x, cs.take n) else some (.exc x, cs)
  | none => none
section
variable {K : PySem.W.Frag} {φ φ' : List Addr} {G G' : Hp}
mutual
theorem R.trim (pre : φ <+: φ') (s : SameT G G') : ∀ (d : D) (v : V), clean φ.length d = true → R K φ' G d v → R K φ G' d v
  | .non, _, _, h => h
  | .bl _, _, _, h => h
  | .int _, _, _, h => h
  | .str _, _, _, h => h
  | .tup ds, _, c, ⟨a, xs, e, h, r⟩ => ⟨a, xs, e, s.tup h, RA.trim pre s ds xs c r⟩
  | .lst ds, _, c, ⟨a, xs, e, h, r⟩ => ⟨a, xs, e, s _ _ h (fun _ z => nomatch z), RA.trim pre s ds xs c r⟩
  | .frz ds, _, c, ⟨a, xs, e, h, r⟩ => ⟨a, xs, e, s.lst h, RA.trim pre s ds xs c r⟩
  | .dct ks ds, _, c, ⟨a, xs, e, h, l, r⟩ => ⟨a, xs, e, s _ _ h (fun _ z => nomatch z), l, RA.trim pre s ds xs c r⟩
  | .ins k ks ds, _, c, ⟨a, C, dx, xs, e, hc, h, l, r⟩ => ⟨a, C, dx, xs, e, hc, s _ _ h (fun _ z => nomatch z), l, RA.trim pre s ds xs c r⟩
  | .st ks, _, c, ⟨a, S, n, e, h, q⟩ => ⟨a, S, n, e, s _ _ h (fun _ z => nomatch z), q⟩
  | .ref n, _, c, ⟨a, e, h⟩ => by
    refine ⟨a, e, ?_⟩
    have c : n < φ.length := of_decide_eq_true c
    obtain ⟨t, rfl⟩ := pre
    rw [List.getElem?_append_left c] at h
    exact h
  | .obj _, _, _, h => h
theorem RA.trim (pre : φ <+: φ') (s : SameT G G') : ∀ (ds : List D) (xs : List V), cleanA φ.length ds = true → RA K φ' G ds xs → RA K φ G' ds xs
  | [], _, _, h => h
  | d :: ds, _, c, ⟨y, ys, e, h, r⟩ => by
    have c : (clean φ.length d && cleanA φ.length ds) = true := c
    rw [Bool.and_eq_true] at c
    exact ⟨y, ys, e, R.trim pre s d y c.1 h, RA.trim pre s ds ys c.2 r⟩
end
end
section
variable {Y : Env} {φ φ' : List Addr} {cs cs' : Cells} {H H' : Hp}
theorem gc_step (w : W1 Y φ cs H) (e : Ext Y.hd φ cs H φ' cs' H') (w' : W1 Y φ' cs' H') (c : (cs'.take φ.length).all (cleanC φ.length) = true) :
    SameT (M Y.hd φ' cs' H') (M Y.hd φ (cs'.take φ.length) H') ∧ W1 Y φ (cs'.take φ.length) H' := by
  have hle : φ.length ≤ cs'.length := by
    rw [← w'.cs.len]
    exact List.IsPrefix.length_le e.pre
  have pre2 : ∀ {n : Nat} {a : Addr}, φ[n]? = some a → φ'[n]? = some a := fun h => pre_get e.pre h
  have s : SameT (M Y.hd φ' cs' H') (M Y.hd φ (cs'.take φ.length) H') := .of fun b o q => by
    obtain ⟨nl, eo⟩ := M_of q
    refine M_mk (fun z => nl (z.imp (fun l => ?_) id)) eo
    obtain ⟨n, d, h1, h2, h3⟩ := l
    rw [List.getElem?_take] at h2
    split at h2
    · exact ⟨n, d, pre2 h1, h2, h3⟩
    · cases h2
  refine ⟨s, ⟨⟨by simp [Nat.min_eq_left hle], w.cs.nd, fun n a d h1 h2 => ?_, fun b m => ⟨(w'.cs.hs b m).1, fun z => (w'.cs.hs b m).2 (List.IsPrefix.mem z e.pre)⟩⟩, w'.j⟩⟩
  have h2' := h2
  rw [List.getElem?_take] at h2
  split at h2
  · have ok := w'.cs.ok n a d (pre2 h1) h2
    have cd : cleanC φ.length d = true := List.all_eq_true.mp c d (List.mem_of_getElem? h2')
    cases d with
    | lst ds => obtain ⟨xs, e1, r⟩ := ok; exact ⟨xs, e1, RA.trim e.pre s _ _ cd r⟩
    | dct ks ds => obtain ⟨xs, e1, l, r⟩ := ok; exact ⟨xs, e1, l, RA.trim e.pre s _ _ cd r⟩
    | ins C ks ds => obtain ⟨C, dx, xs, hc, e1, o, l, r⟩ := ok; exact ⟨C, dx, xs, hc, e1, o, l, RA.trim e.pre s _ _ cd r⟩
    | dead => exact ok
  · cases h2
theorem ok_gc (w : W1 Y φ cs H) {r : Rs} {Q : VK} (h : OkV Y φ cs H (gcR cs.length r) Q) : OkV Y φ cs H r Q := by
  rw [← w.cs.len] at h
  match r, h with
  | some (.val d, cs'), h =>
    have h : OkV Y φ cs H (if clean φ.length d = true ∧ (cs'.take φ.length).all (cleanC φ.length) = true then some (.val d, cs'.take φ.length) else some (.val d, cs')) Q := h
    split at h
    · rename_i c
      intro v φ' H' e w' q
      obtain ⟨s, w2⟩ := gc_step w e w' c.2
      exact h v φ H' ⟨List.prefix_refl _, e.same.trans s, e.keep⟩ w2 (R.trim e.pre s d v c.1 q)
    · exact h
  | some (.exc x, cs'), h =>
    have h : OkV Y φ cs H (if cleanA φ.length x.ds = true ∧ (cs'.take φ.length).all (cleanC φ.length) = true then some (.exc x, cs'.take φ.length) else some (.exc x, cs')) Q := h
    split at h
    · rename_i c
      intro cl dx φ' H' e w' q
      obtain ⟨s, w2⟩ := gc_step w e w' c.2
      refine h cl dx φ H' ⟨List.prefix_refl _, e.same.trans s, e.keep⟩ w2 ⟨q.1, ?_⟩
      rcases q.2 with q | ⟨a, xs, h0, h1, h2, h3, h4⟩
      · exact .inl q
      · exact .inr ⟨a, xs, h0, h1, s _ _ h2 (fun _ z => nomatch z), h3, RA.trim e.pre s _ _ c.1 h4⟩
    · exact h
end
/-! ### defs -/
def finF (r : RsS) : Rs := r.bind fun q cs => match q with
  | (.nx, _) => some (.val .non, cs)
  | (.ret d, _) => some (.val d, cs)
  | _ => none
def initS (ds : List D) (n : Nat) : Slots := ds.map some ++ List.replicate (n - ds.length) none
def semOf (np n : Nat) (gc : Bool) (body : Slots → Cells → RsS) (ds : List D) (cs : Cells) : Rs :=
  if ds.length = np then (if gc = true then gcR cs.length (finF (body (initS ds n) cs)) else finF (body (initS ds n) cs)) else none
structure Gnd where
  K : PySem.W.Frag
  J : Hp → Prop
  kp : Keeps J
def Gnd.env (Z : Gnd) (E : XK) (hd : List Addr) : Env := ⟨Z.K, Z.J, E, Z.kp, hd⟩
def spD (Z : Gnd) (F : List D → Cells → Rs) : Sp := fun vs H Q E => ∃ hd φ cs ds, W1 (Z.env E hd) φ cs H ∧ RA Z.K φ (M hd φ cs H) ds vs ∧ OkV (Z.env E hd) φ cs H (F ds cs) Q
theorem startRS {Y : Env} {φ : List Addr} {G : Hp} {N : List Str} {ds : List D} {vs : List V} (h : RA Y.K φ G ds vs) : RS Y φ G (initS ds N.length) (L2.start N vs) := by
  have hl := h.length
  refine ⟨by simp [initS, L2.start, hl], fun i d hi => ?_⟩
  unfold initS at hi
  unfold L2.start
  by_cases c : i < ds.length
  · rw [List.getElem?_append_left (by simpa using c), List.getElem?_map] at hi
    rw [List.getElem?_append_left (by simpa [hl] using c), List.getElem?_map]
    cases e : ds[i]? with
    | none => rw [e] at hi; cases hi
    | some d' =>
      rw [e] at hi
      cases hi
      obtain ⟨v, h1, h2⟩ := h.get e
      exact ⟨v, by rw [h1]; rfl, h2⟩
  · rw [List.getElem?_append_right (by simpa using Nat.le_of_not_lt c), List.getElem?_replicate] at hi
    split at hi <;> cases hi
section
variable {P : Program} {w : World} {K : PySem.W.Frag} {mg : Str → Option Value} {base : Heap}
theorem fn_D (Z : Gnd) {x qual : Str} {st : Stmt} {f : Addr} {fd : FuncData} {N ps : List Str} {k : Nat} {gc : Bool} {body : Slots → Cells → RsS} (F : Fun Z.K x qual st f fd) (S : FnScope N ps (defScope st))
    (hb : ∀ (cdv : Value) (A : Around) (outer : List PySem.Env) (s : Shared) (H : Hp) (E : XK) (hd : List Addr), Room k (A.deeper (envOfC qual (defScope st) s.heap.objs.size f cdv)) → PSs (cxOf (L2.CX P w) P w Z.K mg base N qual (defScope st) f cdv A outer s H E) (defBody st) (tS (Z.env E hd) body)) :
    FnOk P w Z.K mg base (L2.CX P w) (k + 1) f fd ps (spD Z (semOf ps.length N.length gc body)) := by
  refine F.okX S (fun vs H Q E h => ?_) (fun cdv Ar outer s H vs Q E hr h => ?_)
  · obtain ⟨hd, φ, cs, ds, w, ra, ok⟩ := h
    unfold semOf at ok
    split at ok
    · rename_i c
      rw [ra.length, c]
    · exact (OkG.nope ok).elim
  · obtain ⟨hd, φ, cs, ds, w, ra, ok⟩ := h
    refine ⟨_, hb cdv Ar outer s H E hd hr, initS ds N.length, φ, cs, startRS ra, w, ?_⟩
    unfold semOf at ok
    split at ok
    · have ok2 : OkV (Z.env E hd) φ cs H (finF (body (initS ds N.length) cs)) Q := by
        split at ok
        · exact ok_gc w ok
        · exact ok
      refine (OkG.bind (rel := relS (Z.env E hd)) ok2).imp ?_
      rintro y H2 ⟨φ2, cs2, q, e2, w2, r2, ok3⟩
      match q, y, r2, ok3 with
      | (.nx, sl2), .nx σ2, r2, ok3 =>
        have ok3 : OkV (Z.env E hd) φ2 cs2 H2 (some (.val .non, cs2)) Q := ok3
        exact OkG.now (v := V.non) ok3 w2 rfl
      | (.ret d, sl2), .rt v, r2, ok3 =>
        have ok3 : OkV (Z.env E hd) φ2 cs2 H2 (some (.val d, cs2)) Q := ok3
        exact OkG.now (v := v) ok3 w2 r2
      | (.bk, sl2), .bk σ2, r2, ok3 => exact (OkG.nope ok3).elim
      | (.ct, sl2), .ct σ2, r2, ok3 => exact (OkG.nope ok3).elim
    · exact (OkG.nope ok).elim
/-- a call -/
theorem pe_callD {X : Cx} {Y : Env} {Z : Gnd} (hZ : Y = Z.env Y.EX Y.hd) {k : Nat} {f : Addr} {fd : FuncData} {ps : List Str} {F : List D → Cells → Rs} {x : Str} {p pos : Pos} {e : Expr} {es : List Expr} {A : Slots → Cells → RsG (List D)}
    (G : FnOk X.prog X.w X.K X.mg X.base (L2.CX X.prog X.w) k f fd ps (spD Z F)) (hr : Room k X.A) (hg : Gl X x) (hm : X.mg x = some (.ref f)) (hk : PySem.W.keepIn X.K (.ref f) = true) (hb : Binds X.K fd ps []) (tk : Takes X fun c d _ H => Y.EX c d H)
    (ha : PA X (e :: es) (tRA Y A)) (hdb : (x == ("__debug__" : Str)) = false) (he : starEach (e :: es) X.env = (false, eval e X.env) :: starEach es X.env) (hpl : (backTo pos (starEach es X.env)).any (·.1) = false) :
    PE X (.Call (.Name x p) (e :: es) [] pos) (tR Y fun sl cs => (A sl cs).bind F) := by
  refine pe_weak (pe_call G hr hg hm hk hb .nil (passes_call tk fun _ _ _ _ h => h) ha hdb he hpl) fun σ H Q h => ?_
  obtain ⟨sl, φ, cs, rs, w, ok⟩ := h
  refine tG.first rs w ok fun φ1 cs1 d x H1 e1 rs1 w1 q1 ok1 => ?_
  rw [hZ] at w1 q1 ok1
  show spD Z F (x ++ []) H1 Q Y.EX
  rw [List.append_nil]
  exact ⟨Y.hd, φ1, cs1, d, w1, q1, ok1⟩
theorem pe_call0D {X : Cx} {Y : Env} {Z : Gnd} (hZ : Y = Z.env Y.EX Y.hd) {k : Nat} {f : Addr} {fd : FuncData} {ps : List Str} {F : List D → Cells → Rs} {x : Str} {p pos : Pos}
    (G : FnOk X.prog X.w X.K X.mg X.base (L2.CX X.prog X.w) k f fd ps (spD Z F)) (hr : Room k X.A) (hg : Gl X x) (hm : X.mg x = some (.ref f)) (hk : PySem.W.keepIn X.K (.ref f) = true) (hb : Binds X.K fd ps []) (tk : Takes X fun c d _ H => Y.EX c d H)
    (hdb : (x == ("__debug__" : Str)) = false) : PE X (.Call (.Name x p) [] [] pos) (tR Y fun _ cs => F [] cs) := by
  refine pe_weak (pe_call0 G hr hg hm hk hb .nil (passes_call tk fun _ _ _ _ h => h) hdb) fun σ H Q h => ?_
  obtain ⟨sl, φ, cs, rs, w, ok⟩ := h
  rw [hZ] at w ok
  exact ⟨Y.hd, φ, cs, [], w, rfl, ok⟩
/-- raise of an own class without own __init__ -/
theorem ps_raiseD {X : Cx} {Y : Env} (hK : Y.K = X.K) {c : Nat} {C : Addr} (hC : clsA X.K c = some C) {x m : Str} {j : Nat} {p p2 p3 pos : Pos} (hc : X.calm = true) (tk : Takes X fun c d _ H => Y.EX c d H) (q : PySem.W.excIn X.K C [.type "ValueError", .type "Exception", .type "BaseException", .type "object"] "ValueError.__new__" = true)
    (gC : X.mg x = some (.ref C)) (kC : PySem.W.keepIn X.K (.ref C) = true) (h1 : PySem.W.subIn X.K (.ref C) (.type "BaseException") = some true) (h2 : PySem.W.typeIn X.K (.ref C) = some (.type "type")) (hg : Gl X x) (hdb : (x == ("__debug__" : Str)) = false) :
    PS X (.Raise (some (.Call (.Name x p) [.Constant (.str m) j p2] [] p3)) none pos) (tS Y fun _ cs => some (.exc ⟨c, [], []⟩, cs)) := by
  refine ps_weak (ps_raise hc tk (pmk_own PySem.F.excBase_ValueError q gC kC (raises_own h1 h2) hg hdb)) fun E σ H h => ?_
  obtain ⟨sl, φ, cs, rs, w, ok⟩ := h
  exact ok (.ref C) none φ H (.refl _ _ _ _) w ⟨⟨C, by rw [hK]; exact hC, rfl⟩, .inl ⟨rfl, rfl⟩⟩
end
end EV

namespace EV
open PySem PySem.Spec PyProof.Rows L2 ZG
/-! ### instances -/
def insD (cs : Cells) : D → Option (Nat × List Nat × List D)
  | .ins c ks ds => some (c, ks, ds)
  | .ref n => match cs[n]? with
    | some (.ins c ks ds) => some (c, ks, ds)
    | _ => none
  | _ => none
def lkN (k : Nat) : List Nat → List D → Option D
  | m :: ms, d :: ds => if m = k then some d else lkN k ms ds
  | _, _ => none
theorem fnames_nd : fnames.Nodup := by decide +kernel
theorem fnames_no : ("" : Str) ∉ fnames := by decide +kernel
theorem fstr_at {i : Nat} (h : i < fnames.length) : fstr i = fnames[i] := by
  unfold fstr
  rw [List.getD_eq_getElem?_getD, List.getElem?_eq_getElem h]
  rfl
theorem fstr_inj {i j : Nat} (hj : j < fnames.length) (h : fstr i = fstr j) : i = j := by
  by_cases hi : i < fnames.length
  · rw [fstr_at hi, fstr_at hj] at h
    exact (List.getElem_inj fnames_nd).mp h
  · have : fstr i = "" := by
      unfold fstr
      rw [List.getD_eq_getElem?_getD, List.getElem?_eq_none (by omega)]
      rfl
    rw [this, fstr_at hj] at h
    exact absurd (by rw [h]; exact List.getElem_mem hj) fnames_no
section
variable {Y : Env} {φ φ1 : List Addr} {cs cs1 : Cells} {H H1 : Hp} {r : Rs} {Q Q' : VK}
theorem ins_see (w : W1 Y φ cs H) {d : D} {v : V} {c : Nat} {ks : List Nat} {ds : List D} (h : insD cs d = some (c, ks, ds)) (q : R Y.K φ (M Y.hd φ cs H) d v) :
    ∃ a C dx xs, v = .ref a ∧ IOk Y.K c ks C ∧ H a = some (.ins C dx ((ks.map fstr).zip xs)) ∧ ks.length = ds.length ∧ RA Y.K φ (M Y.hd φ cs H) ds xs := by
  match d, h, q with
  | .ins c' ks' ds', h, ⟨a, C, dx, xs, e, hc, g, l, r⟩ =>
    have h : some (c', ks', ds') = some (c, ks, ds) := h
    cases h
    exact ⟨a, C, dx, xs, e, hc, (M_of g).2, l, r⟩
  | .ref n, h, ⟨a, e, hg⟩ =>
    simp only [insD] at h
    split at h
    · rename_i c' ks' ds' hc
      cases h
      obtain ⟨C, dx, xs, i, g, _, l, r⟩ := w.cs.ok n a _ hg hc
      exact ⟨a, C, dx, xs, e, i, g, l, r⟩
    · cases h
theorem lkN_see {K : PySem.W.Frag} {G : Hp} {k : Nat} (hk : k < fnames.length) : ∀ {ks : List Nat} {ds : List D} {xs : List V} {d : D}, RA K φ G ds xs → lkN k ks ds = some d → k ∈ ks ∧ ∃ v, ((ks.map fstr).zip xs).lookup (fstr k) = some v ∧ R K φ G d v
  | [], _, _, _, _, h => by simp [lkN] at h
  | m :: ms, [], _, _, _, h => by simp [lkN] at h
  | m :: ms, e :: ds, _, d, ⟨y, ys, rfl, q, r⟩, h => by
    simp only [lkN] at h
    by_cases c : m = k
    · subst c
      rw [if_pos rfl] at h
      cases h
      exact ⟨List.mem_cons_self, y, by simp [List.lookup], q⟩
    · rw [if_neg c] at h
      obtain ⟨i, v, h1, h2⟩ := lkN_see hk r h
      refine ⟨List.mem_cons_of_mem _ i, v, ?_, h2⟩
      have ne : fstr k ≠ fstr m := fun z => c (fstr_inj hk z.symm)
      have hb : (fstr k == fstr m) = false := beq_eq_false_iff_ne.mpr ne
      simp only [List.map_cons, List.zip_cons_cons, List.lookup, hb]
      exact h1
theorem lk_none {k : Nat} (hk : k < fnames.length) : ∀ {ks : List Nat} {xs : List V}, k ∉ ks → ((ks.map fstr).zip xs).lookup (fstr k) = none
  | [], _, _ => rfl
  | m :: ms, [], _ => rfl
  | m :: ms, x :: xs, h => by
    have ne : fstr k ≠ fstr m := fun z => h (by rw [fstr_inj hk z.symm]; exact List.mem_cons_self)
    have hb : (fstr k == fstr m) = false := beq_eq_false_iff_ne.mpr ne
    simp only [List.map_cons, List.zip_cons_cons, List.lookup, hb]
    exact lk_none hk fun z => h (List.mem_cons_of_mem _ z)
def atR (o : Option D) (cs : Cells) : Rs := match o with
  | some x => some (.val x, cs)
  | none => none
def fldD (k : Nat) (x : D) (cs : Cells) : Rs := match insD cs x with
  | some (_, ks, ds) => atR (lkN k ks ds) cs
  | none => none
end
section
variable {X : Cx} {Y : Env} {a b c : Expr} {pos : Pos} {f g : Slots → Cells → Rs}
theorem pe_fldD (hK : Y.K = X.K) {k : Nat} (hk : k < fnames.length) (ha : PE X a (tR Y f)) (hb : attributeBase a (fstr k) X.env (eval a X.env) = eval a X.env) : PE X (.Attribute a (fstr k) pos) (tR Y fun sl cs => (f sl cs).bind (fldD k)) := by
  refine pe_weak (pe_fld ha hb) fun σ H Q h => ?_
  obtain ⟨sl, φ, cs, rs, w, ok⟩ := h
  refine tG.first rs w ok fun φ1 cs1 d x H1 e1 rs1 w1 q1 ok1 => ?_
  unfold fldD at ok1
  split at ok1
  · rename_i cc ks ds e
    obtain ⟨p, C, dx, xs, rfl, i, g, l, r⟩ := ins_see w1 e q1
    cases e2 : lkN k ks ds with
    | none => rw [e2] at ok1; exact (OkG.nope ok1).elim
    | some d' =>
      rw [e2] at ok1
      obtain ⟨m, v, h1, h2⟩ := lkN_see hk r e2
      exact ⟨p, C, dx, _, v, rfl, g, by rw [← hK]; exact i.cl, by rw [← hK]; exact (i.no k m).1, h1, OkG.now ok1 w1 h2⟩
  · exact (OkG.nope ok1).elim
end
/-! stores -/
def putK (k : Nat) : List Nat → List Nat
  | [] => [k]
  | m :: ms => if m = k then m :: ms else m :: putK k ms
def putA {α : Type} (k : Nat) (x : α) : List Nat → List α → List α
  | [], _ => [x]
  | m :: ms, d :: ds => if m = k then x :: ds else d :: putA k x ms ds
  | _ :: _, [] => []
theorem putF_zip {k : Nat} (hk : k < fnames.length) (v : V) : ∀ {ks : List Nat} {xs : List V}, ks.length = xs.length → putF (fstr k) v ((ks.map fstr).zip xs) = ((putK k ks).map fstr).zip (putA k v ks xs)
  | [], [], _ => rfl
  | m :: ms, x :: xs, h => by
    simp only [List.map_cons, List.zip_cons_cons, putF, putK, putA]
    by_cases c : m = k
    · subst c
      rw [if_pos rfl, if_pos rfl, if_pos rfl]
      simp
    · have ne : fstr m ≠ fstr k := fun z => c (fstr_inj hk z)
      rw [if_neg ne, if_neg c, if_neg c]
      simp only [List.map_cons, List.zip_cons_cons, List.cons.injEq, true_and]
      exact putF_zip hk v (by simpa using h)
  | [], _ :: _, h => by simp at h
  | _ :: _, [], h => by simp at h
theorem RA.putA {K : PySem.W.Frag} {φ : List Addr} {G : Hp} {k : Nat} {d : D} {v : V} (q : R K φ G d v) : ∀ {ks : List Nat} {ds : List D} {xs : List V}, RA K φ G ds xs → RA K φ G (EV.putA k d ks ds) (EV.putA k v ks xs)
  | [], _, _, _ => ⟨v, [], rfl, q, rfl⟩
  | m :: ms, [], _, h => by cases h; exact rfl
  | m :: ms, e :: ds, _, ⟨y, ys, rfl, q1, r⟩ => by
    simp only [EV.putA]
    by_cases c : m = k
    · rw [if_pos c, if_pos c]
      exact ⟨v, ys, rfl, q, r⟩
    · rw [if_neg c, if_neg c]
      exact ⟨y, _, rfl, q1, RA.putA q r⟩
theorem putA_len {α : Type} (k : Nat) (x : α) : ∀ {ks : List Nat} {ds : List α}, ks.length = ds.length → (putK k ks).length = (putA k x ks ds).length
  | [], [], _ => rfl
  | m :: ms, d :: ds, h => by
    simp only [putK, putA]
    by_cases c : m = k
    · rw [if_pos c, if_pos c]
      simpa using h
    · rw [if_neg c, if_neg c]
      simp only [List.length_cons]
      rw [putA_len k x (by simpa using h)]
  | [], _ :: _, h => by simp at h
  | _ :: _, [], h => by simp at h
theorem putK_mem {k : Nat} : ∀ {ks : List Nat} {m : Nat}, m ∈ putK k ks → m = k ∨ m ∈ ks
  | [], m, h => by simp [putK] at h; exact .inl h
  | j :: js, m, h => by
    simp only [putK] at h
    by_cases c : j = k
    · rw [if_pos c] at h
      exact .inr h
    · rw [if_neg c] at h
      rcases List.mem_cons.mp h with h | h
      · exact .inr (by rw [h]; exact List.mem_cons_self)
      · exact (putK_mem h).imp id (List.mem_cons_of_mem _)
/-- what a class may have as attributes -/
def fputD (fl : Nat → Nat → Bool) (k : Nat) (x v : D) (cs : Cells) : RsG Unit := match x with
  | .ref n => match cs[n]? with
    | some (.ins c ks ds) => if fl c k = true ∧ ks.length < 1000 then some (.val (), cs.set n (.ins c (putK k ks) (putA k v ks ds))) else none
    | _ => none
  | _ => none
structure FlOk (K : PySem.W.Frag) (fl : Nat → Nat → Bool) : Prop where
  ok : ∀ c k C, fl c k = true → clsA K c = some C → NoAttr K C (fstr k) ∧ k < fnames.length
theorem W1.putI {Y : Env} {φ : List Addr} {cs : Cells} {H : Hp} (w : W1 Y φ cs H) {n : Nat} {a C dx : Addr} {c : Nat} {ks ks' : List Nat} {ds es : List D} {fs : List (Str × V)} {ys : List V} (ha : φ[n]? = some a) (hn : cs[n]? = some (.ins c ks ds)) (he : H a = some (.ins C dx fs)) (ho : H dx = some (.own a)) (i : IOk Y.K c ks' C) (l : ks'.length = es.length) (q : RA Y.K φ (M Y.hd φ cs H) es ys) :
    W1 Y φ (cs.set n (.ins c ks' es)) (upd H a (.ins C dx ((ks'.map fstr).zip ys))) := by
  have ne : dx ≠ a := fun z => by rw [z, he] at ho; cases ho
  exact ⟨cs_put w.cs ha hn rfl rfl _ (fun x z => by rw [he] at z; cases z) ⟨C, dx, ys, i, upd_same, (upd_ne ne).trans ho, l, q⟩, Y.kp.ins _ _ _ _ _ _ w.j he⟩
def sfldS (fl : Nat → Nat → Bool) (k : Nat) (o a : Slots → Cells → Rs) : Slots → Cells → RsS := fun sl cs => (a sl cs).bind fun v cs => (o sl cs).bind fun x cs => (fputD fl k x v cs).bind fun _ cs => nxS sl cs
section
variable {X : Cx} {Y : Env} {e oe : Expr} {pos p' : Pos} {o a : Slots → Cells → Rs}
theorem ps_sfldD (hK : Y.K = X.K) {fl : Nat → Nat → Bool} (hf : FlOk X.K fl) {k : Nat} (he : PE X e (tR Y a)) (ho : PE X oe (tR Y o)) (hs : swapsWith e (some (.Attribute oe (fstr k) p')) pos.line X.env = pure false) :
    PS X (.Assign [.Attribute oe (fstr k) p'] e pos) (tS Y (sfldS fl k o a)) := by
  refine ps_weak (ps_fld ho he hs) fun E σ H h => ?_
  obtain ⟨sl, φ, cs, rs, w, ok⟩ := h
  refine tG.first rs w ok fun φ1 cs1 d x H1 e1 rs1 w1 q1 ok1 => ?_
  refine tG.first rs1 w1 ok1 fun φ2 cs2 d2 x2 H2 e2 rs2 w2 q2 ok2 => ?_
  unfold fputD at ok2
  split at ok2
  · rename_i n
    split at ok2
    · rename_i c ks ds hc
      split at ok2
      · rename_i cond
        obtain ⟨p, rfl, hg⟩ := q2
        obtain ⟨C, dx, xs, i, g, ow, l, r⟩ := w2.cs.ok n p _ hg hc
        obtain ⟨no, lt⟩ := hf.ok c k C cond.1 (by rw [← hK]; exact i.at_)
        have lx := r.length
        refine ⟨p, C, dx, _, rfl, g, by rw [← hK]; exact i.cl, no, by rw [List.length_zip, List.length_map]; omega, ?_⟩
        rw [RsG.bind_val] at ok2
        have rr := RA.putA (k := k) (e2.r q1) (ks := ks) r
        have i' : IOk Y.K c (putK k ks) C := ⟨i.at_, i.cl, fun m hm => by
          rcases putK_mem hm with rfl | hm
          · exact ⟨by rw [hK]; exact no, lt⟩
          · exact i.no m hm⟩
        rw [putF_zip lt x (by omega)]
        refine ok2 (.nx σ) φ2 _ (ext_put w2.cs hg hc rfl rfl _) (w2.putI hg hc g ow i' (putA_len k d l) rr) (rs2.later (ext_put w2.cs hg hc rfl rfl _))
      · exact (OkG.nope ok2).elim
    · exact (OkG.nope ok2).elim
  · exact (OkG.nope ok2).elim
end
/-! calls of methods -/
section
variable {X : Cx} {Y : Env} {oe : Expr} {m : Str} {as : List Expr} {apos pos : Pos} {ta : TE} {t : TA}
theorem meth_ht {env : PySem.Env} (hbase : attributeBase oe m env (eval oe env) = eval oe env)
    (hfew : ((backTo pos (starEach as env)).all (fun x => !x.1) && (backToKw pos (keywordEach [] env)).all (fun x => x.1.isSome) && decide (as.length + ([] : List Keyword).length + (if ([] : List Keyword).isEmpty then 0 else 1) < 30)) = true)
    (hline : (apos.endLine == pos.line) = true) : eval (.Call (.Attribute oe m apos) as [] pos) env = (do
      let ov ← eval oe env
      standAt apos.atName
      let (f, first) ← holding [ov] (getMethod ov m (do return (← importBound oe env).getD true))
      callWith pos f first (backTo pos (starEach as env)) (backToKw pos (keywordEach [] env))) := by
  have hform : methodCallForm (as.length + ([] : List Keyword).length) (backTo pos (starEach as env)) (backToKw pos (keywordEach [] env)) = true := hfew
  have hpos : methodCallPos true oe env apos pos = pure pos := by unfold methodCallPos; simp [hline]
  rw [arm_eval_Call, hbase]
  unfold methodCall
  rw [hform, hpos]
  rfl
/-- o.m(..), whatever own class o is of -/
def tMX (X : Cx) (m : Str) (ta : TE) (t : TA) : TE := fun σ H Q => ta σ H fun x H1 => ∃ (a C dx : Addr) (fs : List (Str × V)) (f : Addr) (fd : FuncData) (ps : List Str) (sp : Sp) (CX : CXT) (E : XK) (k : Nat),
      x = .ref a ∧ H1 a = some (.ins C dx fs) ∧ Cls X.K C ∧ Meth X.K C m f ∧ FnOk X.prog X.w X.K X.mg X.base CX k f fd ps sp ∧ Room k X.A ∧ L2.Binds X.K fd ps [] ∧ Passes CX X E ∧ fs.lookup m = none ∧ t σ H1 fun vs H2 => sp (x :: vs) H2 Q E
theorem pe_methX {pl : Sem Bool} {e : Expr} {es : List Expr} (he : PE X oe ta) (ha : PA X (e :: es) t) (h1 : starEach (e :: es) X.env = (false, eval e X.env) :: starEach es X.env) (h2 : (backTo pos (starEach es X.env)).any (·.1) = false)
    (ht : eval (.Call (.Attribute oe m apos) (e :: es) [] pos) X.env = (do
      let ov ← eval oe X.env
      standAt apos.atName
      let (f, first) ← holding [ov] (getMethod ov m pl)
      callWith pos f first (backTo pos (starEach (e :: es) X.env)) (backToKw pos (keywordEach [] X.env)))) :
    PE X (.Call (.Attribute oe m apos) (e :: es) [] pos) (tMX X m ta t) := by
  refine ⟨fun pins s σ H Q I h => ?_⟩
  refine PySem.W.methodCall_KW (pl := pl) (thn (he.run pins s σ H _ I h) fun u s1 ⟨x, H1, I1, rx, a, C, dx, fs, f, fd, ps, sp, CX, E, k, ex, ea, c, hm, F, hr, hb, hx, l, q⟩ => ?_) ht
  subst ex
  obtain rfl : u = Value.ref a := rx
  refine getmeth_ok I1 ea c hm l ?_
  refine PySem.W.callWith_K (first := [.ref a]) (h₀ := X.base) I1.ok.mod.kin hm.kp (thn (ha.run pos pins s1 σ H1 _ I1 q) fun us s2 ⟨vs, H2, I2, r, q2⟩ => ⟨I2.kIn, ?_⟩) h1 h2
  exact run_fn (us := .ref a :: us) (vs := .ref a :: vs) F hr hb .nil hx I2 (.cons rfl r) (by rw [List.append_nil]; exact q2)
theorem pe_methX0 {pl : Sem Bool} (he : PE X oe ta)
    (ht : eval (.Call (.Attribute oe m apos) [] [] pos) X.env = (do
      let ov ← eval oe X.env
      standAt apos.atName
      let (f, first) ← holding [ov] (getMethod ov m pl)
      callWith pos f first (backTo pos (starEach [] X.env)) (backToKw pos (keywordEach [] X.env)))) :
    PE X (.Call (.Attribute oe m apos) [] [] pos) (tMX X m ta tNil) := by
  refine ⟨fun pins s σ H Q I h => ?_⟩
  refine PySem.W.methodCall_KW (pl := pl) (thn (he.run pins s σ H _ I h) fun u s1 ⟨x, H1, I1, rx, a, C, dx, fs, f, fd, ps, sp, CX, E, k, ex, ea, c, hm, F, hr, hb, hx, l, q⟩ => ?_) ht
  subst ex
  obtain rfl : u = Value.ref a := rx
  refine getmeth_ok I1 ea c hm l ?_
  refine PySem.W.callWith_K0 (first := [.ref a]) I1.kIn hm.kp ?_
  exact run_fn (us := [.ref a]) (vs := [.ref a]) F hr hb .nil hx I1 (.cons rfl .nil) q
/-- over data: the class's method by its number -/
structure MtOk (Z : Gnd) (X : Cx) (k : Nat) (sem : Nat → List D → Cells → Rs) (mt : Nat → Nat → Option Nat) : Prop where
  ok : ∀ c j i C, mt c j = some i → clsA X.K c = some C → ∃ f fd ps, FnOk X.prog X.w X.K X.mg X.base (L2.CX X.prog X.w) k f fd ps (spD Z (sem i)) ∧ Meth X.K C (fstr j) f ∧ L2.Binds X.K fd ps [] ∧ j < fnames.length
def mclD (mt : Nat → Nat → Option Nat) (sem : Nat → List D → Cells → Rs) (j : Nat) (o : Slots → Cells → Rs) (A : Slots → Cells → RsG (List D)) : Slots → Cells → Rs := fun sl cs => (o sl cs).bind fun x cs => match insD cs x with
  | some (c, ks, _) => if ks.contains j then none else match mt c j with
    | some i => (A sl cs).bind fun ds cs => sem i (x :: ds) cs
    | none => none
  | none => none
variable {o : Slots → Cells → Rs} {A : Slots → Cells → RsG (List D)}
theorem mcl_read {Z : Gnd} {k : Nat} {sem : Nat → List D → Cells → Rs} {mt : Nat → Nat → Option Nat} {Y : Env} (hZ : Y = Z.env Y.EX Y.hd) (hK : Z.K = X.K) (hr : Room k X.A) (tk : Takes X fun c d _ H => Y.EX c d H) (mo : MtOk Z X k sem mt) {j : Nat} {t : TA} (i0 : ∀ σ H Q, tRA Y A σ H Q → t σ H Q)
    {σ : L2.St} {H : Hp} {Q : VK} (h : tR Y (mclD mt sem j o A) σ H Q) : tMX X (fstr j) (tR Y o) t σ H Q := by
  have hYK : Y.K = X.K := by rw [hZ]; exact hK
  obtain ⟨sl, φ, cs, rs, w, ok⟩ := h
  refine tG.first rs w ok fun φ1 cs1 d x H1 e1 rs1 w1 q1 ok1 => ?_
  split at ok1
  · rename_i c ks ds0 e
    split at ok1
    · exact (OkG.nope ok1).elim
    · rename_i hno
      split at ok1
      · rename_i i em
        obtain ⟨p, C, dx, xs, rfl, io, g, l, r⟩ := ins_see w1 e q1
        obtain ⟨f, fd, ps, F, hm, hb, lt⟩ := mo.ok c j i C em (by rw [← hYK]; exact io.at_)
        refine ⟨p, C, dx, _, f, fd, ps, _, _, Y.EX, k, rfl, g, by rw [← hYK]; exact io.cl, hm, F, hr, hb, passes_call tk fun _ _ _ _ h => h, lk_none lt (by simpa using hno), ?_⟩
        refine i0 _ _ _ (tG.first rs1 w1 ok1 fun φ2 cs2 ds2 vs H2 e2 rs2 w2 q2 ok2 => ?_)
        have qx : R Y.K φ2 (M Y.hd φ2 cs2 H2) d (.ref p) := e2.r q1
        rw [hZ] at w2 q2 ok2 qx
        exact ⟨Y.hd, φ2, cs2, d :: ds2, w2, ⟨.ref p, vs, rfl, qx, q2⟩, ok2⟩
      · exact (OkG.nope ok1).elim
  · exact (OkG.nope ok1).elim
end
end EV

namespace EV
open PySem PySem.Spec PyProof.Rows L2 ZG
/-! ### making instances -/
/-- C() of a class without an __init__ of its own -/
structure Mk0 (K : PySem.W.Frag) (C : Addr) : Prop where
  makes : PySem.W.makesIn K C = true
  init : PySem.W.findIn K (.ref C) "__init__" = some (some (.builtin "object.__init__"))
  kp : PySem.W.keepIn K (.ref C) = true
section
variable {X : Cx} {C : Addr} {pins : List (Addr × Obj)} {σ : L2.St} {H : Hp} {s : Shared} {Q : VK}
theorem run_make0 (M : Mk0 X.K C) (I : Inv X pins σ H s) (h : ∀ x dx, H x = none → H dx = none → dx ≠ x → Q (.ref x) (upd (upd H dx (.own x)) x (.ins C dx []))) :
    wpAny (model X.prog X.w) X.A (call (.ref C) []) (EP X pins σ Q) X.xe s := by
  have hq := h (s.heap.objs.size + 1) s.heap.objs.size (I.hok.fresh (Nat.le_succ _)) (I.hok.fresh (Nat.le_refl _)) (Nat.ne_of_lt (Nat.lt_succ_self _))
  have I2 := Inv.made (C := C) I
  have Y := PySem.W.makes_of (M := model X.prog X.w) I.kIn M.makes
  have hobj : ((s.heap.push PySem.W.emptyDict).push (PySem.W.instObj C s.heap.objs.size)).get? (s.heap.objs.size + 1) = some (PySem.W.instObj C s.heap.objs.size) := by
    have := Heap.get?_push_size (s.heap.push PySem.W.emptyDict) (o := PySem.W.instObj C s.heap.objs.size) rfl
    rwa [Heap.size_push] at this
  have t1 : PySem.W.Looks (model X.prog X.w) ((s.heap.push PySem.W.emptyDict).push (PySem.W.instObj C s.heap.objs.size)) (typeOf (.ref (s.heap.objs.size + 1))) (.ref C) := (PySem.W.Looks.ld hobj).andThen .now
  have t2 : PySem.W.Looks (model X.prog X.w) ((s.heap.push PySem.W.emptyDict).push (PySem.W.instObj C s.heap.objs.size)) (isInstance (.ref (s.heap.objs.size + 1)) (.type "object")) true := t1.andThen (Y.top.keeps fun b o e => Heap.get?_push_of_some _ (Heap.get?_push_of_some _ e))
  refine wpAny_call (make_map0 I.kIn M.makes M.init (fun self => PySem.W.Looks.of_pure (PySem.W.oi_bind self)) ?_)
  refine codeAny_call_builtin PySem.W.oi_plain PySem.W.entry_oi (@PySem.W.check_slot (model X.prog X.w) _ _ _ "object.__init__" "object" "__init__" (.ref (s.heap.objs.size + 1)) [] [] _ PySem.W.oi_kind PySem.W.oi_split t2 (PySem.W.oi_args (.ref (s.heap.objs.size + 1))) ?_)
  rw [PySem.W.oi_run]
  refine wpAny_pure ?_
  exact And.intro rfl ⟨V.ref (s.heap.objs.size + 1), _, I2, rfl, hq⟩
theorem pe_make00 {x : Str} {p pos : Pos} (M : Mk0 X.K C) (hg : Gl X x) (hm : X.mg x = some (.ref C)) (hdb : (x == ("__debug__" : Str)) = false) :
    PE X (.Call (.Name x p) [] [] pos) (fun _ H Q => ∀ x dx, H x = none → H dx = none → dx ≠ x → Q (.ref x) (upd (upd H dx (.own x)) x (.ins C dx []))) := by
  refine ⟨fun pins s σ H Q I h => ?_⟩
  refine wpAny_Call_Name_kw (ld_glob I hg hm ?_ hdb)
  exact PySem.W.callWith_K0 I.kIn M.kp (run_make0 M I h)
end
/-- what is made: kept as a cell, or for good -/
def doneI (own : Bool) (n : Nat) (d : D) (cs : Cells) : Rs := match d with
  | .non => if own = true then some (.val (.ref n), cs) else match cs[n]? with
    | some (.ins c ks ds) => some (.val (.ins c ks ds), cs.set n .dead)
    | _ => none
  | _ => none
def newD (own : Bool) (sem : List D → Cells → Rs) (c : Nat) (ds : List D) (cs : Cells) : Rs := gcR cs.length ((sem (.ref cs.length :: ds) (cs ++ [.ins c [] []])).bind (doneI own cs.length))
def new0 (own : Bool) (c : Nat) (cs : Cells) : Rs := if own = true then some (.val (.ref cs.length), cs ++ [.ins c [] []]) else some (.val (.ins c [] []), cs)
section
variable {Y : Env} {φ : List Addr} {cs : Cells} {H : Hp} {Q : VK}
theorem made_w (w : W1 Y φ cs H) {c : Nat} {C x dx : Addr} (i : IOk Y.K c [] C) (hx : H x = none) (hd : H dx = none) (ne : dx ≠ x) :
    Ext Y.hd φ cs H (φ ++ [x]) (cs ++ [.ins c [] []]) (upd (upd H dx (.own x)) x (.ins C dx [])) ∧ W1 Y (φ ++ [x]) (cs ++ [.ins c [] []]) (upd (upd H dx (.own x)) x (.ins C dx [])) := by
  have w1 : W1 Y φ cs (upd H dx (.own x)) := w.new hd _
  have e1 := ext_new w.cs hd (.own x)
  have hx1 : (upd H dx (.own x)) x = none := (upd_ne (Ne.symm ne)).trans hx
  refine ⟨e1.trans (ext_cell w1.cs rfl hx1 _), cs_cell w1.cs rfl hx1 _ ⟨C, dx, [], i, upd_same, ?_, rfl, rfl⟩, Y.kp.new _ _ _ w1.j hx1⟩
  rw [upd_ne ne, upd_same]
theorem fin_made {own : Bool} {n : Nat} {d : D} {x : Addr} {v : V} (w : W1 Y φ cs H) (hx : φ[n]? = some x) (q : R Y.K φ (M Y.hd φ cs H) d v) (h : OkV Y φ cs H (doneI own n d cs) Q) : v = .non ∧ Q (.ref x) H := by
  unfold doneI at h
  split at h
  · refine ⟨q, ?_⟩
    split at h
    · exact OkG.now h w ⟨x, rfl, hx⟩
    · split at h
      · rename_i c ks ds hc
        obtain ⟨C, dx, xs, i, g, ow, l, r⟩ := w.cs.ok n x _ hx hc
        have ex := ext_freeze (hd := Y.hd) (n := n) cs φ H
        refine h _ φ H ex ⟨cs_freeze w.cs, w.j⟩ ⟨x, C, dx, xs, rfl, i, M_mk ?_ g, l, ex.ra r⟩
        rintro (z | z)
        · exact notLiv_frozen w.cs hx z
        · exact (w.cs.hs x z).2 (List.mem_of_getElem? hx)
      · exact (OkG.nope h).elim
  · exact (OkG.nope h).elim
end
/-- what making asks -/
structure NwOk (Z : Gnd) (X : Cx) (k : Nat) (F : List D → Cells → Rs) (c : Nat) (C : Addr) : Prop where
  io : IOk X.K c [] C
  own : ∃ f fd ps, FnOk X.prog X.w X.K X.mg X.base (L2.CX X.prog X.w) k f fd ps (spD Z F) ∧ Mk X.K C f ∧ L2.Binds X.K fd ps []
section
variable {X : Cx} {Y : Env} {Z : Gnd} {k : Nat} {F : List D → Cells → Rs} {c : Nat} {C : Addr} {own : Bool} {A : Slots → Cells → RsG (List D)}
theorem new_read (hZ : Y = Z.env Y.EX Y.hd) (hK : Z.K = X.K) {t : TA} (io : IOk X.K c [] C) (i0 : ∀ σ H Q, tRA Y A σ H Q → t σ H Q) {σ : L2.St} {H : Hp} {Q : VK} (h : tR Y (fun sl cs => (A sl cs).bind (newD own F c)) σ H Q) : tMake C (spD Z F) [] Y.EX t σ H Q := by
  have hYK : Y.K = X.K := by rw [hZ]; exact hK
  obtain ⟨sl, φ, cs, rs, w, ok⟩ := h
  refine i0 _ _ _ (tG.first rs w ok fun φ1 cs1 ds vs H1 e1 rs1 w1 q1 ok1 => ?_)
  intro x dx hx hd ne
  obtain ⟨ex, w2⟩ := made_w w1 (c := c) (C := C) (by rw [hYK]; exact io) hx hd ne
  have ok2 := OkG.later ex (ok_gc w1 ok1)
  have hn : (φ1 ++ [x])[cs1.length]? = some x := by rw [← w1.cs.len]; simp
  have q2 := ex.ra q1
  refine ⟨Y.hd, φ1 ++ [x], cs1 ++ [.ins c [] []], .ref cs1.length :: ds, by rw [← hZ]; exact w2, ⟨.ref x, vs ++ [], rfl, ⟨x, rfl, hn⟩, ?_⟩, ?_⟩
  · rw [List.append_nil]
    have : Z.K = Y.K := hK.trans hYK.symm
    rw [this]
    exact q2
  · rw [← hZ]
    refine (OkG.bind (rel := R Y.K) ok2).imp ?_
    rintro v H2 ⟨φ2, cs2, d, e2, w3, q3, ok3⟩
    exact fin_made w3 (pre_get e2.pre hn) q3 ok3
variable {x : Str} {p pos : Pos}
theorem pe_newD (hZ : Y = Z.env Y.EX Y.hd) (hK : Z.K = X.K) (N : NwOk Z X k F c C) (hr : Room (k + 1) X.A) (hg : Gl X x) (hm : X.mg x = some (.ref C)) (tk : Takes X fun c d _ H => Y.EX c d H) {e : Expr} {es : List Expr} (ha : PA X (e :: es) (tRA Y A))
    (hdb : (x == ("__debug__" : Str)) = false) (he : starEach (e :: es) X.env = (false, eval e X.env) :: starEach es X.env) (hpl : (backTo pos (starEach es X.env)).any (·.1) = false) :
    PE X (.Call (.Name x p) (e :: es) [] pos) (tR Y fun sl cs => (A sl cs).bind (newD own F c)) := by
  obtain ⟨f, fd, ps, F', M, B⟩ := N.own
  exact pe_weak (pe_make M F' hr hg hm B .nil (passes_call tk fun _ _ _ _ h => h) ha hdb he hpl) fun σ H Q h => new_read hZ hK N.io (fun _ _ _ h => h) h
theorem pe_newD0 (hZ : Y = Z.env Y.EX Y.hd) (hK : Z.K = X.K) (N : NwOk Z X k F c C) (hr : Room (k + 1) X.A) (hg : Gl X x) (hm : X.mg x = some (.ref C)) (tk : Takes X fun c d _ H => Y.EX c d H)
    (hdb : (x == ("__debug__" : Str)) = false) : PE X (.Call (.Name x p) [] [] pos) (tR Y fun _ cs => newD own F c [] cs) := by
  obtain ⟨f, fd, ps, F', M, B⟩ := N.own
  refine pe_weak (pe_make0 M F' hr hg hm B .nil (passes_call tk fun _ _ _ _ h => h) hdb) fun σ H Q h => ?_
  refine new_read (A := fun _ cs => some (.val [], cs)) (t := tNil) hZ hK N.io (fun σ H Q h => ?_) h
  obtain ⟨sl, φ, cs, rs, w, ok⟩ := h
  exact OkG.now ok w rfl
theorem pe_new0D (hK : Y.K = X.K) (io : IOk X.K c [] C) (M : Mk0 X.K C) (hg : Gl X x) (hm : X.mg x = some (.ref C)) (hdb : (x == ("__debug__" : Str)) = false) : PE X (.Call (.Name x p) [] [] pos) (tR Y fun _ cs => new0 own c cs) := by
  refine pe_weak (pe_make00 M hg hm hdb) fun σ H Q h => ?_
  obtain ⟨sl, φ, cs, rs, w, ok⟩ := h
  intro x dx hx hd ne
  obtain ⟨ex, w2⟩ := made_w w (c := c) (C := C) (by rw [hK]; exact io) hx hd ne
  have hn : (φ ++ [x])[cs.length]? = some x := by rw [← w.cs.len]; simp
  unfold new0 at ok
  split at ok
  · exact ok (.ref x) _ _ ex w2 ⟨x, rfl, hn⟩
  · have e1 := ext_new w.cs hd (.own x)
    have w1 := w.new hd (.own x)
    have hx1 : (upd H dx (.own x)) x = none := (upd_ne (Ne.symm ne)).trans hx
    have e2 := ext_new w1.cs hx1 (.ins C dx [])
    refine ok (.ref x) φ _ (e1.trans e2) (w1.new hx1 _) ⟨x, C, dx, [], rfl, by rw [hK]; exact io, ?_, rfl, rfl⟩
    rw [M_new w1.cs hx1, upd_same]
    rfl
end
end EV

namespace EV
open PySem PySem.Spec PyProof.Rows L2 ZG
/-! ### type(x) is T -/
def typD (cs : Cells) (d : D) : Option String := tyD cs d
theorem typ_see {Y : Env} {φ : List Addr} {cs : Cells} {H : Hp} (w : W1 Y φ cs H) {d : D} {v : V} {n : String} (h : tyD cs d = some n) (q : R Y.K φ (M Y.hd φ cs H) d v) : TyB Y.K H v n := by
  have s := SameT.of (M_same Y.hd φ cs H)
  match d, h, q with
  | .non, h, q => cases h; cases q; exact .non
  | .bl b, h, q => cases h; cases q; exact .bl b
  | .int i, h, q => cases h; cases q; exact .int i
  | .str x, h, q => cases h; cases q; exact .str x
  | .tup ds, h, ⟨a, xs, e, g, r⟩ => cases h; subst e; exact .tup (s.tup g)
  | .lst ds, h, ⟨a, xs, e, g, r⟩ => cases h; subst e; exact .lst (SqL.of (M_of g).2)
  | .frz ds, h, ⟨a, xs, e, g, r⟩ => cases h; subst e; exact .lst (s.lst g)
  | .dct ks ds, h, ⟨a, xs, e, g, l, r⟩ => cases h; subst e; exact .dK (M_of g).2
  | .ref m, h, ⟨a, e, g⟩ =>
    subst e
    simp only [tyD] at h
    split at h
    · rename_i ds hc
      cases h
      obtain ⟨xs, e1, r⟩ := w.cs.ok m a _ g hc
      exact .lst (SqL.of e1)
    · rename_i ks ds hc
      cases h
      obtain ⟨xs, e1, _, r⟩ := w.cs.ok m a _ g hc
      exact .dK e1
    · cases h
def tyiD (neg : Bool) (m : String) (d : D) (cs : Cells) : Rs := match tyD cs d with
  | some n => some (.val (.bl (if neg = true then !decide (n = m) else decide (n = m))), cs)
  | none => none
section
variable {X : Cx} {Y : Env} {a : Expr} {pos p p2 p3 : Pos} {f : Slots → Cells → Rs}
theorem pe_tyiD (hK : Y.K = X.K) {neg : Bool} {m : String} {mx : Str} (hmx : bootBuiltins mx = some (.type m)) (ha : PE X a (tR Y f)) (hg : Gl X "type") (h1 : X.mg "type" = none) (hg2 : Gl X mx) (h2 : X.mg mx = none) (hn : mx ≠ "__name__") (hd : (mx == ("__debug__" : Str)) = false)
    (hs : starEach [a] X.env = [(false, eval a X.env)]) :
    PE X (.Compare (.Call (.Name "type" p) [a] [] p2) [if neg = true then .IsNot else .Is] [.Name mx p3] pos) (tR Y fun sl cs => (f sl cs).bind (tyiD neg m)) := by
  have base : PE X (.Call (.Name "type" p) [a] [] p2) (tCB (rTyp X.K) (tCons (tR Y f) tNil)) := pe_callTy call_type1 hg h1 (by decide +kernel) (pa_cons ha pa_nil hs) (by decide) (by decide) hs (by rfl)
  have nm : PE X (.Name mx p3) (tC (.ty m)) := pe_bltn (v := .ty m) hg2 h2 hmx rfl hn hd
  cases neg with
  | false =>
    refine pe_weak (pe_cmpR op_isTyB base nm rfl) fun σ H Q h => ?_
    obtain ⟨sl, φ, cs, rs, w, ok⟩ := h
    refine tG.first rs w ok fun φ1 cs1 d x H1 e1 rs1 w1 q1 ok1 => ?_
    unfold tyiD at ok1
    split at ok1
    · rename_i n ht
      exact ⟨x, n, rfl, by rw [← hK]; exact typ_see w1 ht q1, n, m, rfl, rfl, OkG.now ok1 w1 rfl⟩
    · exact (OkG.nope ok1).elim
  | true =>
    refine pe_weak (pe_cmpR op_notTyB base nm rfl) fun σ H Q h => ?_
    obtain ⟨sl, φ, cs, rs, w, ok⟩ := h
    refine tG.first rs w ok fun φ1 cs1 d x H1 e1 rs1 w1 q1 ok1 => ?_
    unfold tyiD at ok1
    split at ok1
    · rename_i n ht
      exact ⟨x, n, rfl, by rw [← hK]; exact typ_see w1 ht q1, n, m, rfl, rfl, OkG.now ok1 w1 rfl⟩
    · exact (OkG.nope ok1).elim
end
section
variable {X : Cx} {Y : Env} {a : Expr} {pos p p2 p3 : Pos} {f : Slots → Cells → Rs}
theorem tyi_read (hK : Y.K = X.K) {neg : Bool} {m : String} {σ : L2.St} {H : Hp} {Q : VK} (h : tR Y (fun sl cs => (f sl cs).bind (tyiD neg m)) σ H Q) :
    tOp (if neg = true then rNT else (fun x y H Q => ∃ a b, x = .ty a ∧ y = .ty b ∧ Q (.bl (decide (a = b))) H)) (tCB (rTyp X.K) (tCons (tR Y f) tNil)) (tC (.ty m)) σ H Q := by
  obtain ⟨sl, φ, cs, rs, w, ok⟩ := h
  refine tG.first rs w ok fun φ1 cs1 d x H1 e1 rs1 w1 q1 ok1 => ?_
  unfold tyiD at ok1
  split at ok1
  · rename_i n ht
    refine ⟨x, n, rfl, by rw [← hK]; exact typ_see w1 ht q1, ?_⟩
    cases neg with
    | false => exact ⟨n, m, rfl, rfl, OkG.now ok1 w1 rfl⟩
    | true => exact ⟨n, m, rfl, rfl, OkG.now ok1 w1 rfl⟩
  · exact (OkG.nope ok1).elim
theorem pt_tyiD (hK : Y.K = X.K) {neg : Bool} {m : String} {mx : Str} (hmx : bootBuiltins mx = some (.type m)) (ha : PE X a (tR Y f)) (hg : Gl X "type") (h1 : X.mg "type" = none) (hg2 : Gl X mx) (h2 : X.mg mx = none) (hn : mx ≠ "__name__") (hd : (mx == ("__debug__" : Str)) = false)
    (hs : starEach [a] X.env = [(false, eval a X.env)]) :
    PT X (.Compare (.Call (.Name "type" p) [a] [] p2) [if neg = true then .IsNot else .Is] [.Name mx p3] pos) (tRT Y fun sl cs => ((f sl cs).bind (tyiD neg m)).bind blD) := by
  have base : PE X (.Call (.Name "type" p) [a] [] p2) (tCB (rTyp X.K) (tCons (tR Y f) tNil)) := pe_callTy call_type1 hg h1 (by decide +kernel) (pa_cons ha pa_nil hs) (by decide) (by decide) hs (by rfl)
  have nm : PE X (.Name mx p3) (tC (.ty m)) := pe_bltn (v := .ty m) hg2 h2 hmx rfl hn hd
  cases neg with
  | false => exact pt_weak (pt_cmpR op_isTyB base nm rfl) fun σ H Q h => tTest_D (f := fun sl cs => (f sl cs).bind (tyiD false m)) (fun Q h => tyi_read hK h) h
  | true => exact pt_weak (pt_cmpR op_notTyB base nm rfl) fun σ H Q h => tTest_D (f := fun sl cs => (f sl cs).bind (tyiD true m)) (fun Q h => tyi_read hK h) h
end
/-! ### own classes and isinstance -/
structure TyI (K : PySem.W.Frag) (C : Addr) : Prop where
  cl : Cls K C
  ha : PySem.W.findIn K (.ref C) "__class__" = some (some (.builtin "object.__class__"))
  hn : PySem.W.specialIn K (.builtin "object.__class__") "__get__" = some (some (.builtin "getset_descriptor.__get__"))
  htk : PySem.W.takesIn K (.builtin "object.__class__") = some true
  hm : PySem.W.mroIn K C (.type "object") = some true
structure KdOk (K : PySem.W.Frag) (kn : Nat → Bool) : Prop where
  ty : ∀ c C, kn c = true → clsA K c = some C → TyI K C
  bo : ∀ c C, kn c = true → clsA K c = some C → ∀ m ∈ asksD, PySem.W.kitOne K (.ref C) (.type m) = some false
  ob : ∀ c C, kn c = true → clsA K c = some C → ∀ n ∈ kindsD, PySem.W.kitOne K (.type n) (.ref C) = some false
  oo : ∀ c C c' C', kn c = true → clsA K c = some C → kn c' = true → clsA K c' = some C' → PySem.W.kitOne K (.ref C) (.ref C') = some (decide (c = c'))
def clB (K : PySem.W.Frag) (C : Addr) : Bool := PySem.W.plainGet K C Str.empty && PySem.W.hasDictIn K C && PySem.W.plainOver K C && decide (PySem.W.findIn K (.ref C) "__setattr__" = some (some (.builtin "object.__setattr__")))
theorem clB_ok {K : PySem.W.Frag} {C : Addr} (h : clB K C = true) : Cls K C := by
  unfold clB at h
  simp only [Bool.and_eq_true, decide_eq_true_eq] at h
  exact ⟨h.1.1.1, h.1.1.2, h.1.2, h.2⟩
def tyIB (K : PySem.W.Frag) (C : Addr) : Bool := clB K C && decide (PySem.W.findIn K (.ref C) "__class__" = some (some (.builtin "object.__class__"))) && decide (PySem.W.specialIn K (.builtin "object.__class__") "__get__" = some (some (.builtin "getset_descriptor.__get__"))) && decide (PySem.W.takesIn K (.builtin "object.__class__") = some true) && decide (PySem.W.mroIn K C (.type "object") = some true)
theorem tyIB_ok {K : PySem.W.Frag} {C : Addr} (h : tyIB K C = true) : TyI K C := by
  unfold tyIB at h
  simp only [Bool.and_eq_true, decide_eq_true_eq] at h
  exact ⟨clB_ok h.1.1.1.1, h.1.1.1.2, h.1.1.2, h.1.2, h.2⟩
/-- what is known of the kinds, by a look -/
def kdB (K : PySem.W.Frag) (l : List Nat) : Bool := l.all fun c => match clsA K c with
  | some C => tyIB K C && (asksD.all fun m => decide (PySem.W.kitOne K (.ref C) (.type m) = some false)) && (kindsD.all fun n => decide (PySem.W.kitOne K (.type n) (.ref C) = some false)) &&
      l.all fun c' => match clsA K c' with
        | some C' => decide (PySem.W.kitOne K (.ref C) (.ref C') = some (decide (c = c')))
        | none => false
  | none => false
theorem kdB_ok {K : PySem.W.Frag} {l : List Nat} (h : kdB K l = true) : KdOk K (fun c => l.contains c) := by
  unfold kdB at h
  rw [List.all_eq_true] at h
  have at_ : ∀ c C, l.contains c = true → clsA K c = some C → (tyIB K C && (asksD.all fun m => decide (PySem.W.kitOne K (.ref C) (.type m) = some false)) && (kindsD.all fun n => decide (PySem.W.kitOne K (.type n) (.ref C) = some false)) &&
      l.all fun c' => match clsA K c' with
        | some C' => decide (PySem.W.kitOne K (.ref C) (.ref C') = some (decide (c = c')))
        | none => false) = true := by
    intro c C hc hC
    have := h c (by simpa using hc)
    rw [hC] at this
    exact this
  refine ⟨fun c C hc hC => ?_, fun c C hc hC m hm => ?_, fun c C hc hC n hn => ?_, fun c C c' C' hc hC hc' hC' => ?_⟩
  · have := at_ c C hc hC
    simp only [Bool.and_eq_true] at this
    exact tyIB_ok this.1.1.1
  · have := at_ c C hc hC
    simp only [Bool.and_eq_true, List.all_eq_true, decide_eq_true_eq] at this
    exact this.1.1.2 m hm
  · have := at_ c C hc hC
    simp only [Bool.and_eq_true, List.all_eq_true, decide_eq_true_eq] at this
    exact this.1.2 n hn
  · have := at_ c C hc hC
    rw [Bool.and_eq_true, List.all_eq_true] at this
    have := this.2 c' (by simpa using hc')
    rw [hC'] at this
    exact of_decide_eq_true this
/-- the kind of a value: a built-in class's name, or an own class -/
def kndD (kn : Nat → Bool) (cs : Cells) (d : D) : Option (Sum String Nat) := match tyD cs d with
  | some n => some (.inl n)
  | none => match insD cs d with
    | some (c, _, _) => if kn c = true then some (.inr c) else none
    | none => none
def kdV (K : PySem.W.Frag) : Sum String Nat → Value → Prop
  | .inl n, t => t = .type n ∧ n ∈ kindsD
  | .inr c, t => ∃ C, clsA K c = some C ∧ t = .ref C
theorem knd_see {Y : Env} {φ : List Addr} {cs : Cells} {H : Hp} {kn : Nat → Bool} (ko : KdOk Y.K kn) (w : W1 Y φ cs H) {d : D} {v : V} {n : Sum String Nat} (h : kndD kn cs d = some n) (q : R Y.K φ (M Y.hd φ cs H) d v) : ∃ t, TyX Y.K H v t ∧ kdV Y.K n t ∧ ∀ c, n = .inr c → kn c = true := by
  unfold kndD at h
  split at h
  · rename_i m e
    cases h
    exact ⟨_, ty_see w e q, ⟨rfl, tyD_mem e⟩, fun c z => nomatch z⟩
  · split at h
    · rename_i c ks ds e
      split at h
      · rename_i k
        cases h
        obtain ⟨a, C, dx, xs, rfl, i, g, l, r⟩ := ins_see w e q
        have t := ko.ty c C k i.at_
        exact ⟨_, .base (.ins g t.cl t.ha t.hn t.htk t.hm), ⟨C, i.at_, rfl⟩, fun c' z => by cases z; exact k⟩
      · cases h
    · cases h
def askK : Sum String Nat → Sum String Nat → Bool
  | .inl n, .inl m => isTy n m
  | .inr c, .inr c' => decide (c = c')
  | _, _ => false
theorem ask_ok {K : PySem.W.Frag} {kn : Nat → Bool} (ko : KdOk K kn) {n m : Sum String Nat} {t u : Value} (hn : kdV K n t) (kn1 : ∀ c, n = .inr c → kn c = true) (hm : match m with | .inl m => u = .type m ∧ m ∈ asksD | .inr c => kn c = true ∧ ∃ C, clsA K c = some C ∧ u = .ref C) :
    PySem.W.kitOne K t u = some (askK n m) := by
  cases n with
  | inl n =>
    obtain ⟨rfl, hn⟩ := hn
    cases m with
    | inl m =>
      obtain ⟨rfl, hm⟩ := hm
      exact kit_ty (isTy_ok n hn m hm)
    | inr c =>
      obtain ⟨kc, C, hC, rfl⟩ := hm
      exact ko.ob c C kc hC n hn
  | inr c =>
    obtain ⟨C, hC, rfl⟩ := hn
    cases m with
    | inl m =>
      obtain ⟨rfl, hm⟩ := hm
      exact ko.bo c C (kn1 c rfl) hC m hm
    | inr c' =>
      obtain ⟨kc, C', hC', rfl⟩ := hm
      exact ko.oo c C c' C' (kn1 c rfl) hC kc hC'
def isxD (kn : Nat → Bool) (m : Sum String Nat) (d : D) (cs : Cells) : Rs := match kndD kn cs d with
  | some n => some (.val (.bl (askK n m)), cs)
  | none => none
section
variable {X : Cx} {Y : Env} {a : Expr} {pos p p2 p3 : Pos} {f : Slots → Cells → Rs} {kn : Nat → Bool}
/-- isinstance(x, m), m a built-in class -/
theorem pe_isbD (hK : Y.K = X.K) (ko : KdOk X.K kn) {m : String} {mx : Str} (hm : m ∈ asksD) (hmx : bootBuiltins mx = some (.type m)) (ha : PE X a (tR Y f)) (hg : Gl X "isinstance") (h1 : X.mg "isinstance" = none) (hg2 : Gl X mx) (h2 : X.mg mx = none) (hn : mx ≠ "__name__") (hd : (mx == ("__debug__" : Str)) = false)
    (hs : starEach [a, .Name mx p2] X.env = [(false, eval a X.env), (false, eval (.Name mx p2) X.env)]) :
    PE X (.Call (.Name "isinstance" p) [a, .Name mx p2] [] pos) (tR Y fun sl cs => (f sl cs).bind (isxD kn (.inl m))) := by
  refine pe_weak (pe_callB call_isi hg h1 (by decide +kernel) (pa_cons ha (pa_cons (pe_bltn (v := .ty m) hg2 h2 hmx rfl hn hd) pa_nil) hs) (by decide) (by decide) hs (by rfl)) fun σ H Q h => ?_
  obtain ⟨sl, φ, cs, rs, w, ok⟩ := h
  refine tG.first rs w ok fun φ1 cs1 d x H1 e1 rs1 w1 q1 ok1 => ?_
  unfold isxD at ok1
  split at ok1
  · rename_i n ht
    obtain ⟨t, ty, kv, k1⟩ := knd_see (by rw [hK]; exact ko) w1 ht q1
    rw [hK] at ty kv
    exact ⟨x, .ty m, _, _, _, rfl, .ty m, ty, ask_ok ko (m := .inl m) kv k1 ⟨rfl, hm⟩, OkG.now ok1 w1 rfl⟩
  · exact (OkG.nope ok1).elim
/-- isinstance(x, C), C an own class -/
theorem pe_isoD (hK : Y.K = X.K) (ko : KdOk X.K kn) {c : Nat} {C : Addr} {mx : Str} (kc : kn c = true) (hC : clsA X.K c = some C) (ha : PE X a (tR Y f)) (hg : Gl X "isinstance") (h1 : X.mg "isinstance" = none) (hg2 : Gl X mx) (h2 : X.mg mx = some (.ref C)) (hd : (mx == ("__debug__" : Str)) = false)
    (hs : starEach [a, .Name mx p2] X.env = [(false, eval a X.env), (false, eval (.Name mx p2) X.env)]) :
    PE X (.Call (.Name "isinstance" p) [a, .Name mx p2] [] pos) (tR Y fun sl cs => (f sl cs).bind (isxD kn (.inr c))) := by
  refine pe_weak (pe_callB call_isi hg h1 (by decide +kernel) (pa_cons ha (pa_cons (pe_glob (v := .ref C) hg2 h2 rfl hd) pa_nil) hs) (by decide) (by decide) hs (by rfl)) fun σ H Q h => ?_
  obtain ⟨sl, φ, cs, rs, w, ok⟩ := h
  refine tG.first rs w ok fun φ1 cs1 d x H1 e1 rs1 w1 q1 ok1 => ?_
  unfold isxD at ok1
  split at ok1
  · rename_i n ht
    obtain ⟨t, ty, kv, k1⟩ := knd_see (by rw [hK]; exact ko) w1 ht q1
    rw [hK] at ty kv
    exact ⟨x, .ref C, _, _, _, rfl, .own C, ty, ask_ok ko (m := .inr c) kv k1 ⟨kc, C, hC, rfl⟩, OkG.now ok1 w1 rfl⟩
  · exact (OkG.nope ok1).elim
theorem kitAny_kd {K : PySem.W.Frag} (ko : KdOk K kn) {n : Sum String Nat} {t : Value} (kv : kdV K n t) (k1 : ∀ c, n = .inr c → kn c = true) : ∀ ms : List (Str × String × Pos), (∀ q ∈ ms, q.2.1 ∈ asksD) → PySem.W.kitAny K t (ms.map fun q => Value.type q.2.1) = some ((ms.map fun q => q.2.1).any fun m => askK n (.inl m))
  | [], _ => kitAny_nil
  | q :: ms, h => by
    have ih := kitAny_kd ko kv k1 ms fun q' hq => h q' (List.mem_cons_of_mem _ hq)
    refine kitAny_cons (b := askK n (.inl q.2.1)) (ask_ok ko (m := .inl q.2.1) kv k1 ⟨rfl, h q List.mem_cons_self⟩) (fun e => ?_) (fun e => ?_)
    · rw [ih, List.map_cons, List.any_cons, e, Bool.false_or]
    · rw [List.map_cons, List.any_cons, e, Bool.true_or]
def isxsD (kn : Nat → Bool) (ms : List String) (d : D) (cs : Cells) : Rs := match kndD kn cs d with
  | some n => some (.val (.bl (ms.any fun m => askK n (.inl m))), cs)
  | none => none
theorem knd_new {Y : Env} {φ : List Addr} {cs : Cells} {H : Hp} (w : W1 Y φ cs H) : True := trivial
theorem pe_isbsD (hK : Y.K = X.K) (ko : KdOk X.K kn) {ms : List (Str × String × Pos)} {p p2 : Pos} {x1} (hm : ∀ q ∈ ms, q.2.1 ∈ asksD) (hms : ∀ q ∈ ms, Gl X q.1 ∧ X.mg q.1 = none ∧ bootBuiltins q.1 = some (.type q.2.1) ∧ q.1 ≠ "__name__" ∧ (q.1 == ("__debug__" : Str)) = false)
    (hl : ms.length ≤ 16) (ha : PE X a (tR Y f)) (hg : Gl X "isinstance") (h1 : X.mg "isinstance" = none) (hs : ∀ es, starEach (a :: es) X.env = (false, eval a X.env) :: starEach es X.env) :
    PE X (.Call (.Name "isinstance" p) [a, .Tuple (ms.map fun q => .Name q.1 q.2.2) x1 p2] [] pos) (tR Y fun sl cs => (f sl cs).bind (isxsD kn (ms.map fun q => q.2.1))) := by
  refine pe_weak (pe_callB call_isiT hg h1 (by decide +kernel) (pa_cons ha (pa_cons (pe_tup (pa_bts ms hms)) pa_nil rfl) (hs _)) (by decide) (by decide) (hs _) (by rfl)) fun σ H Q h => ?_
  obtain ⟨sl, φ, cs, rs, w, ok⟩ := h
  refine tG.first rs w ok fun φ1 cs1 d x H1 e1 rs1 w1 q1 ok1 => ?_
  unfold isxsD at ok1
  split at ok1
  · rename_i n ht
    refine ⟨by rw [List.length_map]; exact Nat.le_trans hl (by decide), fun p hp => ?_⟩
    obtain ⟨t, ty, kv, k1⟩ := knd_see (by rw [hK]; exact ko) (w1.new hp (.tup (ms.map fun q => V.ty q.2.1))) ht ((ext_new w1.cs hp _).r q1)
    rw [hK] at ty kv
    exact ⟨x, p, _, _, _, _, rfl, upd_same, paired_ty ms, ty, kitAny_kd ko kv k1 ms hm, OkG.now (OkG.later (ext_new w1.cs hp _) ok1) (w1.new hp _) rfl⟩
  · exact (OkG.nope ok1).elim
end
/-! ### stars -/
def starL (d : D) (ds : List D) (cs : Cells) : RsG (List D) := match seqD cs d with
  | some (_, es) => some (.val (es ++ ds), cs)
  | none => none
section
variable {X : Cx} {Y : Env} {e : Expr} {es : List Expr} {p : Pos} {f : Slots → Cells → Rs} {A : Slots → Cells → RsG (List D)}
/-- *e: what it holds is read at once -/
def starV (f : Slots → Cells → Rs) (A : Slots → Cells → RsG (List D)) : Slots → Cells → RsG (List D) := fun sl cs => (f sl cs).bind fun d cs => match seqD cs d with
  | some (_, xs) => (A sl cs).bind fun ds cs => some (.val (xs ++ ds), cs)
  | none => none
theorem pa_starD (hK : Y.K = X.K) (he : PE X e (tR Y f)) (ha : PA X es (tRA Y A)) (hs : starEach (.Starred e p :: es) X.env = (true, eval e X.env) :: starEach es X.env) : PA X (.Starred e p :: es) (tRA Y (starV f A)) := by
  refine pa_weak (StX.pa_star he ha hs) fun σ H Q h => ?_
  obtain ⟨sl, φ, cs, rs, w, ok⟩ := h
  refine tG.first rs w ok fun φ1 cs1 d x H1 e1 rs1 w1 q1 ok1 => ?_
  split at ok1
  · rename_i t xs e2
    obtain ⟨a, ys, rfl, g, r⟩ := seq_see w1 e2 q1
    refine ⟨a, ys, rfl, by rw [← hK]; cases t; exact .inr g; exact .inl g, tG.first rs1 w1 ok1 fun φ2 cs2 ds zs H2 e2' rs2 w2 q2 ok2 => ?_⟩
    exact OkG.now ok2 w2 ((e2'.ra r).app q2)
  · exact (OkG.nope ok1).elim
end
end EV

namespace EV
open PySem PySem.Spec PyProof.Rows L2 ZG
/-! ### what a call tells, or how it refuses: a lambda that is handed in -/
section
variable {K : PySem.W.Frag} {φ : List Addr} {cs : Cells} {H H1 : Hp}
theorem ext_N (e : LamX.ExtN H H1) : Ext [] φ cs H φ cs H1 := by
  refine ⟨List.prefix_refl _, fun b o q n => ?_, fun b m => nomatch m⟩
  obtain ⟨nl, q⟩ := M_of q
  exact M_mk nl (e b o q n)
theorem cs_N (h : Cs K [] φ H cs) (e : LamX.ExtN H H1) : Cs K [] φ H1 cs := by
  refine ⟨h.len, h.nd, fun n a c e1 e2 => ?_, fun b m => nomatch m⟩
  have ok := h.ok n a c e1 e2
  obtain ⟨o, q, nt⟩ := ok.nt
  exact ok.keep (List.prefix_refl _) (ext_N e).same ((e _ _ q nt).trans q.symm) fun dx q => e _ _ q fun ps z => by cases z
end
def howD (hw : Nat → Option Str) (f : Slots → Cells → Rs) : Slots → Cells → Rs := fun sl cs => match f sl cs with
  | some (.val d, cs') => some (.val (.lst [.str "told", d]), cs')
  | some (.exc x, cs') => match hw x.cls with
    | some w => if x.ks = [] then some (.val (.lst [.str w]), cs') else none
    | none => none
  | none => none
/-- what is made of what a lambda comes to; kd: the word of a class -/
def THow (kd : Addr → Option Str) : (XK → Hp → VK → Prop) → Hp → VK → Prop := fun tl H Q =>
  tl (fun cls d H' => ∃ C w, cls = .ref C ∧ kd C = some w ∧ d = none ∧ ∀ H2 l, Same H' H2 → H' l = none → H2 l = some (.lst [.str w]) → Q (.ref l) H2) H
    (fun v H' => 2 ≤ sizeLine ∧ ∀ l, H' l = none → Q (.ref l) (upd H' l (.lst [.str "told", v])))
structure HowOk (Z : Gnd) (k : Nat) (hw : Nat → Option Str) (hd : List Addr) (X : Cx) : Prop where
  hd : hd = []
  room : Room (k + 3) X.A
  ex : ∃ (g c P : Addr) (pg : Arguments) (bg : List Stmt) (sg : Scope) (dV kV doc pm cdv ct oc : Value) (an od : Option Addr) (osl : Array (Option Value)) (Ng : List Str) (kd : Addr → Option Str),
    X.mg "_law_how" = some (.ref g) ∧ PySem.W.keepIn X.K (.ref g) = true ∧ X.K.lookup g = some ⟨oc, od, .func (PySem.W.fnOf "_law_how" "_law_how" pg bg sg dV kV doc pm an cdv ct), osl⟩ ∧ PySem.W.codeIn X.K cdv "_law_how" = true ∧
    L2.Binds X.K (PySem.W.fnOf "_law_how" "_law_how" pg bg sg dV kV doc pm an cdv ct) ["deed"] [] ∧ FnScope Ng ["deed"] sg ∧ Ng[0]? = some ("deed" : Str) ∧ Vis sg "deed" ∧
    LamX.GivesTo X Ng "_law_how" sg g cdv bg "deed" (X.env.qual ++ "<lambda>") (THow kd) ∧ LamX.TabB X.base X.mg c P ∧ X.env.code = .ref c ∧ Z.J = LamX.Tabs [(P, X.env.qual ++ "<lambda>")] ∧
    ∀ m w C, hw m = some w → clsA Z.K m = some C → kd C = some w
section
variable {Z : Gnd} {k : Nat} {hw : Nat → Option Str} {X : Cx} {E : XK}
theorem how_tr {kd : Addr → Option Str} {f : Slots → Cells → Rs} {T : List (Addr × Str)} (hJ : Z.J = LamX.Tabs T) (hk : ∀ m w C, hw m = some w → clsA Z.K m = some C → kd C = some w) {σ : L2.St} {H : Hp} {Q : VK}
    (h : tR (Z.env E []) (howD hw f) σ H Q) : LamX.tLam T (THow kd) (fun E' => tR (Z.env E' []) f) σ H Q := by
  obtain ⟨sl, φ, cs, rs, w, ok⟩ := h
  have j : Z.J H := w.j
  rw [hJ] at j
  refine ⟨j, fun H1 eN T1 => ?_⟩
  have e1 : Ext [] φ cs H φ cs H1 := ext_N eN
  have w1 : ∀ E', W1 (Z.env E' []) φ cs H1 := fun E' => ⟨cs_N w.cs eN, by show Z.J H1; rw [hJ]; exact T1⟩
  have ok1 : OkV (Z.env E []) φ cs H1 (howD hw f sl cs) Q := ok.later e1
  refine ⟨sl, φ, cs, ?_, w1 _, ?_⟩
  · have r1 := rs.later e1
    exact ⟨r1.len, r1.2⟩
  · unfold howD at ok1
    match hr : f sl cs, ok1 with
    | some (.val d, cs'), ok1 =>
      intro v φ' H' e2 w2 q2
      refine ⟨by decide, fun l hl => ?_⟩
      have w3 : W1 (Z.env E []) φ' cs' H' := ⟨w2.cs, w2.j⟩
      have ex : Ext [] φ' cs' H' φ' cs' (upd H' l (.lst [.str "told", v])) := ext_new w3.cs hl _
      refine ok1 _ φ' _ (e2.trans ex) (w3.new hl _) ?_
      have hM : M [] φ' cs' (upd H' l (.lst [.str "told", v])) = upd (M [] φ' cs' H') l (.lst [.str "told", v]) := M_new w3.cs hl _
      show R Z.K φ' (M [] φ' cs' (upd H' l (.lst [.str "told", v]))) _ _
      have q3 : R Z.K φ' (M [] φ' cs' (upd H' l (.lst [.str "told", v]))) d v := ex.r q2
      refine ⟨l, [.str "told", v], rfl, ?_, ⟨_, _, rfl, rfl, _, _, rfl, q3, rfl⟩⟩
      rw [hM]
      exact upd_same
    | some (.exc x, cs'), ok1 =>
      intro c dx φ' H' e2 w2 q2
      obtain ⟨⟨C, hC, rfl⟩, hd⟩ := q2
      have ok1 : OkV (Z.env E []) φ cs H1 (match hw x.cls with
        | some w => if x.ks = [] then some (.val (.lst [.str w]), cs') else none
        | none => none) Q := ok1
      cases hw' : hw x.cls with
      | none => rw [hw'] at ok1; exact ok1.elim
      | some wd =>
        rw [hw'] at ok1
        dsimp only at ok1
        split at ok1
        · rename_i hks
          refine ⟨C, wd, rfl, hk _ _ _ hw' hC, ?_, fun H2 l s2 hl hl2 => ?_⟩
          · rcases hd with ⟨_, z⟩ | ⟨a, xs, n, _⟩
            · exact z
            · exact absurd hks n
          · have eN2 : LamX.ExtN H' H2 := LamX.ExtN.of s2
            have j2 : Z.J H' := w2.j
            rw [hJ] at j2
            have w3 : W1 (Z.env E []) φ' cs' H2 := ⟨cs_N w2.cs eN2, by show Z.J H2; rw [hJ]; exact j2.ext s2⟩
            refine ok1 _ φ' H2 (e2.trans (ext_N eN2)) w3 ?_
            have nl : ¬ (Liv φ' cs' l ∨ l ∈ ([] : List Addr)) := fun z => z.elim (fun z => w2.cs.there z hl) (fun z => nomatch z)
            exact ⟨l, [.str wd], rfl, M_mk nl hl2, ⟨_, _, rfl, rfl, rfl⟩⟩
        · exact ok1.elim
    | none, ok1 => exact ok1.elim
end
end EV

namespace EV
open PySem PySem.Spec PyProof.Rows L2 ZG
/-! ### repr of data -/
def rpOk (p : PyData) : Bool := p.showable && !p.hasDict && decide (p.depth ≤ 100) && decide (p.shown.length ≤ sizeLine)
def reprD (d : D) (cs : Cells) : Rs := match toPy cs d with
  | some p => if rpOk p = true then some (.val (.str p.shown), cs) else none
  | none => none
section
variable {X : Cx} {Y : Env} {f : Slots → Cells → Rs} {a : Expr} {p pos : Pos}
theorem call_reprD (hg : X.A.guards = some []) (hu : X.A.units + 110 < cLine) : CallR X (.builtin "repr") (fun xs H Q => ∃ v p, xs = [v] ∧ Dp X.K H v p ∧ rpOk p = true ∧ Q (.str p.shown) H) := by
  intro pins s σ H xs us Q I r h
  obtain ⟨v, p, rfl, hd, ok, q⟩ := h
  obtain ⟨u, rfl, ru⟩ := vals1 r
  unfold rpOk at ok
  simp only [Bool.and_eq_true, decide_eq_true_eq, Bool.not_eq_true'] at ok
  obtain ⟨⟨⟨o1, o2⟩, o3⟩, o4⟩ := ok
  obtain ⟨as, rd⟩ := Dp.reads I p v u hd ru
  have fin : ∀ (t : Tok) (h' : Heap) (tk : Tok), (∀ b o, s.heap.get? b = some o → h'.get? b = some o) → EP X pins σ Q (.str p.shown t) { s with heap := h', toks := tk } := fun t h' tk hk => ⟨.str p.shown, H, I.kept hk, ⟨t, rfl⟩, q⟩
  have fin0 : ∀ (t tk : Tok), EP X pins σ Q (.str p.shown t) { s with toks := tk } := fun t tk => ⟨.str p.shown, H, I.tok _, ⟨t, rfl⟩, q⟩
  cases hd with
  | non =>
    cases ru
    exact PySem.P.repr_of_none (fin0 _ _)
  | bl b =>
    cases ru
    refine PySem.P.repr_of_bool ?_
    have := fin0 s.toks (s.toks + 1)
    simp only [PyData.shown] at this
    exact this
  | int i =>
    obtain ⟨t, rfl⟩ := ru
    refine PySem.P.repr_of_int (by simpa [PyData.showable] using o1) ?_
    have := fin0 s.toks (s.toks + 1)
    simp only [PyData.shown] at this
    exact this
  | str x =>
    obtain ⟨t, rfl⟩ := ru
    refine PySem.P.repr_of_str ?_ (by simpa [PyData.shown] using o4)
    have := fin0 s.toks (s.toks + 1)
    simp only [PyData.shown] at this
    exact this
  | lst _ _ =>
    cases ru
    exact repr_of_reads' rd o1 (PyData.noDict_hsm o2) hg (by omega) (fun _ _ e => e) (fun h' u tk hk => fin u h' tk hk) o4
  | tup _ _ =>
    cases ru
    exact repr_of_reads' rd o1 (PyData.noDict_hsm o2) hg (by omega) (fun _ _ e => e) (fun h' u tk hk => fin u h' tk hk) o4
theorem pe_reprD (hK : Y.K = X.K) (hG : X.A.guards = some []) (hu : X.A.units + 110 < cLine) (ha : PE X a (tR Y f)) (hg : Gl X "repr") (h1 : X.mg "repr" = none) (hs : starEach [a] X.env = (false, eval a X.env) :: starEach [] X.env) :
    PE X (.Call (.Name "repr" p) [a] [] pos) (tR Y fun sl cs => (f sl cs).bind reprD) := by
  refine pe_weak (pe_callB (call_reprD hG hu) hg h1 (by decide +kernel) (pa_cons ha pa_nil hs) (by decide) (by decide) hs (by rfl)) fun σ H Q h => ?_
  obtain ⟨sl, φ, cs, rs, w, ok⟩ := h
  refine tG.first rs w ok fun φ1 cs1 d x H1 e1 rs1 w1 q1 ok1 => ?_
  unfold reprD at ok1
  split at ok1
  · rename_i p hp
    split at ok1
    · rename_i c
      exact ⟨x, p, rfl, by rw [← hK]; exact dp_of w1 d x p hp q1, c, OkG.now ok1 w1 rfl⟩
    · exact (OkG.nope ok1).elim
  · exact (OkG.nope ok1).elim
end
end EV

namespace EV
open PySem PySem.Spec PyProof.Rows L2 ZG
/-! ### the small language -/
inductive Mt where
  | append | extend | insert | reverse | pop
mutual
inductive E where
  | var (i : Nat) | int (i : Int) | str (x : Str) | bl (b : Bool) | non | con (i : Nat)
  | tup (es : Es) | lst (own : Bool) (es : Es)
  | bin (own : Bool) (o : Operator) (a b : E) | neg (a : E) | not (a : E) | and (es : Es) | or (es : Es)
  | cmp (o : CmpOp) (a b : E) | chn (o o' : CmpOp) (a b c : E) | ife (c a b : E)
  | ix (a b : E) | sl (own : Bool) (a : E) (lo hi : Ep)
  | isi (a : E) (m : String) | isis (a : E) (ms : List String) | iso (a : E) (c : Nat) | tyi (neg : Bool) (a : E) (m : String)
  | fld (a : E) (k : Nat) | mcl (j : Nat) (o : E) (es : Es) | new (own : Bool) (c : Nat) (es : Es)
  | blt (n : String) (own : Bool) (es : Es) | tlt (n : String) (own : Bool) (es : Es)
  | mth (m : Mt) (o : E) (es : Es)
  | call (i : Nat) (es : Es) | how (e : E) | rp (e : E) | dl (k v : Int)
  | lc (own : Bool) (vs : List Nat) (t : Tg) (s : Sr) (c : Ep) (e : E)
inductive Es where
  | nil | cons (e : E) (es : Es) | star (e : E) (es : Es)
inductive Ep where
  | no | yes (e : E)
inductive Sr where
  | seq (a : E) | rng1 (a : E) | rng2 (a b : E) | zip (a b : E)
end
mutual
inductive S where
  | expr (e : E) | doc | pas | cont | brk | ret (e : E) | retN
  | ite (c : E) (a b : Ss) | set (i : Nat) (e : E) | asg (t : Tg) (e : E) | sub (o i e : E)
  | for (t : Tg) (s : Sr) (b : Ss) | while (k : Nat) (c : E) (b : Ss) | raise (c : Nat) | sfld (k : Nat) (o e : E) | nev
inductive Ss where
  | nil | cons (s : S) (ss : Ss)
end
/-! ### what it means -/
structure Sem2 where
  v : Slots → Cells → Rs
  t : Slots → Cells → RsG Bool
def dft (v : Slots → Cells → Rs) : Sem2 := ⟨v, fun sl cs => (v sl cs).bind truR⟩
/-- what is known of the classes -/
structure Ci where
  mt : Nat → Nat → Option Nat
  ini : Nat → Option (Option Nat)
  fl : Nat → Nat → Bool
  kn : Nat → Bool
  rz : Nat → Bool
  hw : Nat → Option Str
structure Tb where
  sem : Nat → List D → Cells → Rs
  con : Nat → D
  ci : Ci
def listV : List Sem2 → Slots → Cells → RsG (List D)
  | [], _, cs => some (.val [], cs)
  | e :: es, sl, cs => (e.v sl cs).bind fun d cs => (listV es sl cs).bind fun ds cs => some (.val (d :: ds), cs)
def andV : List Sem2 → Slots → Cells → Rs
  | [], _, _ => none
  | [e], sl, cs => e.v sl cs
  | e :: es, sl, cs => (e.v sl cs).bind fun d cs => match truD cs d with
    | some true => andV es sl cs
    | some false => some (.val d, cs)
    | none => none
def orV : List Sem2 → Slots → Cells → Rs
  | [], _, _ => none
  | [e], sl, cs => e.v sl cs
  | e :: es, sl, cs => (e.v sl cs).bind fun d cs => match truD cs d with
    | some false => orV es sl cs
    | some true => some (.val d, cs)
    | none => none
def andT : List Sem2 → Slots → Cells → RsG Bool
  | [], _, _ => none
  | [e], sl, cs => e.t sl cs
  | e :: es, sl, cs => (e.t sl cs).bind fun k cs => if k = true then andT es sl cs else some (.val false, cs)
def orT : List Sem2 → Slots → Cells → RsG Bool
  | [], _, _ => none
  | [e], sl, cs => e.t sl cs
  | e :: es, sl, cs => (e.t sl cs).bind fun k cs => if k = true then some (.val true, cs) else orT es sl cs
def Mt.f : Mt → D → List D → Cells → Rs
  | .append => appendD
  | .extend => extendD
  | .insert => insertD
  | .reverse => reverseD
  | .pop => popD
def tstO (c : Option Sem2) : Slots → Cells → RsG Bool := match c with
  | none => fun _ cs => some (.val true, cs)
  | some c => c.t
def Es.isNil : Es → Bool
  | .nil => true
  | _ => false
def newS (T : Tb) (own : Bool) (c : Nat) (isNil : Bool) (A : Slots → Cells → RsG (List D)) : Slots → Cells → Rs := match T.ci.ini c with
  | some (some i) => fun sl cs => (A sl cs).bind (newD own (T.sem i) c)
  | some none => if isNil = true then fun _ cs => new0 own c cs else fun _ _ => none
  | none => fun _ _ => none
mutual
noncomputable def ev (T : Tb) : E → Sem2
  | .var i => dft fun sl cs => match sl[i]? with | some (some d) => some (.val d, cs) | _ => none
  | .int i => dft fun _ cs => some (.val (.int i), cs)
  | .str x => dft fun _ cs => some (.val (.str x), cs)
  | .bl b => dft fun _ cs => some (.val (.bl b), cs)
  | .non => dft fun _ cs => some (.val .non, cs)
  | .con i => dft fun _ cs => some (.val (T.con i), cs)
  | .tup es => dft fun sl cs => (evl T es sl cs).bind mkT
  | .lst own es => dft fun sl cs => (evl T es sl cs).bind (mkL1 own)
  | .bin own o a b => dft fun sl cs => ((ev T a).v sl cs).bind fun x cs => ((ev T b).v sl cs).bind fun y cs => binD own o x y cs
  | .neg a => dft fun sl cs => ((ev T a).v sl cs).bind negD
  | .not a => ⟨fun sl cs => (((ev T a).v sl cs).bind truR).bind fun b cs => bB (!b) cs, fun sl cs => ((ev T a).t sl cs).bind notB⟩
  | .and es => ⟨andV (evs T es), andT (evs T es)⟩
  | .or es => ⟨orV (evs T es), orT (evs T es)⟩
  | .cmp o a b => ⟨fun sl cs => ((ev T a).v sl cs).bind fun x cs => ((ev T b).v sl cs).bind fun y cs => cmpD o x y cs, fun sl cs => (((ev T a).v sl cs).bind fun x cs => ((ev T b).v sl cs).bind fun y cs => cmpD o x y cs).bind blD⟩
  | .chn o o' a b c => ⟨chnD (ev T a).v (ev T b).v (ev T c).v o o', fun sl cs => (chnD (ev T a).v (ev T b).v (ev T c).v o o' sl cs).bind blD⟩
  | .ife c a b => ⟨fun sl cs => ((ev T c).t sl cs).bind fun k cs => if k = true then (ev T a).v sl cs else (ev T b).v sl cs, fun _ _ => none⟩
  | .ix a b => dft fun sl cs => ((ev T a).v sl cs).bind fun x cs => ((ev T b).v sl cs).bind fun y cs => ixD x y cs
  | .sl own a lo hi => dft fun sl cs => ((ev T a).v sl cs).bind fun x cs => (partD (evp T lo) sl cs).bind fun l cs => (partD (evp T hi) sl cs).bind fun u cs => slD own x l u cs
  | .isi a m => dft fun sl cs => ((ev T a).v sl cs).bind (isxD T.ci.kn (.inl m))
  | .isis a ms => dft fun sl cs => ((ev T a).v sl cs).bind (isxsD T.ci.kn ms)
  | .iso a c => dft fun sl cs => ((ev T a).v sl cs).bind (isxD T.ci.kn (.inr c))
  | .tyi neg a m => ⟨fun sl cs => ((ev T a).v sl cs).bind (tyiD neg m), fun sl cs => (((ev T a).v sl cs).bind (tyiD neg m)).bind blD⟩
  | .fld a k => dft fun sl cs => ((ev T a).v sl cs).bind (fldD k)
  | .mcl j o es => dft (mclD T.ci.mt T.sem j (ev T o).v (evl T es))
  | .new own c es => dft (newS T own c (es.isNil) (evl T es))
  | .blt n own es => dft fun sl cs => (evl T es sl cs).bind (bltD n own)
  | .tlt n own es => dft fun sl cs => (evl T es sl cs).bind (tltD n own)
  | .mth m o es => dft (bmR "list" (ev T o).v (evl T es) m.f)
  | .call i es => dft fun sl cs => (evl T es sl cs).bind (T.sem i)
  | .how e => dft (howD T.ci.hw (ev T e).v)
  | .rp e => dft fun sl cs => ((ev T e).v sl cs).bind reprD
  | .dl k v => dft fun _ cs => some (.val (.dct [.inl k] [.int v]), cs)
  | .lc own vs t s c e => dft (lcD own t vs (evi T s) (tstO (evo T c)) (ev T e).v)
noncomputable def evs (T : Tb) : Es → List Sem2
  | .nil => []
  | .cons e es => ev T e :: evs T es
  | .star _ es => dft (fun _ _ => none) :: evs T es
noncomputable def evl (T : Tb) : Es → Slots → Cells → RsG (List D)
  | .nil => fun _ cs => some (.val [], cs)
  | .cons e es => fun sl cs => ((ev T e).v sl cs).bind fun d cs => (evl T es sl cs).bind fun ds cs => some (.val (d :: ds), cs)
  | .star e es => starV (ev T e).v (evl T es)
noncomputable def evp (T : Tb) : Ep → Option (Slots → Cells → Rs)
  | .no => none
  | .yes e => some (ev T e).v
noncomputable def evo (T : Tb) : Ep → Option Sem2
  | .no => none
  | .yes e => some (ev T e)
noncomputable def evi (T : Tb) : Sr → Slots → Cells → RsG ItD
  | .seq a => fun sl cs => ((ev T a).v sl cs).bind srcSeq
  | .rng1 a => fun sl cs => ((ev T a).v sl cs).bind srcRng1
  | .rng2 a b => fun sl cs => ((ev T a).v sl cs).bind fun x cs => ((ev T b).v sl cs).bind fun y cs => srcRng2 x y cs
  | .zip a b => fun sl cs => ((ev T a).v sl cs).bind fun x cs => ((ev T b).v sl cs).bind fun y cs => srcZip x y cs
end
mutual
noncomputable def rn (T : Tb) : S → Slots → Cells → RsS
  | .expr e => fun sl cs => ((ev T e).v sl cs).bind fun _ cs => nxS sl cs
  | .doc => nxS
  | .pas => nxS
  | .cont => fun sl cs => some (.val (.ct, sl), cs)
  | .brk => fun sl cs => some (.val (.bk, sl), cs)
  | .ret e => fun sl cs => ((ev T e).v sl cs).bind fun d cs => some (.val (.ret d, sl), cs)
  | .retN => fun sl cs => some (.val (.ret .non, sl), cs)
  | .ite c a b => fun sl cs => ((ev T c).t sl cs).bind fun k cs => if k = true then rns T a sl cs else rns T b sl cs
  | .set i e => setS i (ev T e).v
  | .asg t e => asgS t (ev T e).v
  | .sub o i e => subS (ev T o).v (ev T i).v (ev T e).v
  | .for t s b => forS t (evi T s) (rns T b)
  | .while k c b => whileLoop (ev T c).t (rns T b) k
  | .raise c => fun _ cs => some (.exc ⟨c, [], []⟩, cs)
  | .sfld k o e => sfldS T.ci.fl k (ev T o).v (ev T e).v
  | .nev => fun _ _ => none
noncomputable def rns (T : Tb) : Ss → Slots → Cells → RsS
  | .nil => nxS
  | .cons s ss => seqS (rn T s) (rns T ss)
end
/-! ### whose text it is -/
def nst : Expr → Bool
  | .Starred .. => false
  | _ => true
theorem nst_star {e : Expr} (h : nst e = true) (es : List Expr) (env : PySem.Env) : starEach (e :: es) env = (false, eval e env) :: starEach es env := by
  cases e <;> first | rfl | cases h
def nsts : List Expr → Bool
  | [] => true
  | e :: es => nst e && nsts es
theorem nsts_flags {env : PySem.Env} {pos : Pos} : ∀ {es : List Expr}, nsts es = true → (backTo pos (starEach es env)).any (·.1) = false
  | [], _ => rfl
  | e :: es, h => by
    have h : (nst e && nsts es) = true := h
    rw [Bool.and_eq_true] at h
    rw [nst_star h.1]
    show (false || (backTo pos (starEach es env)).any (·.1)) = false
    rw [nsts_flags h.2]
    rfl
theorem nsts_all {env : PySem.Env} {pos : Pos} : ∀ {es : List Expr}, nsts es = true → (backTo pos (starEach es env)).all (fun x => !x.1) = true
  | [], _ => rfl
  | e :: es, h => by
    have h : (nst e && nsts es) = true := h
    rw [Bool.and_eq_true] at h
    rw [nst_star h.1]
    show (!false && (backTo pos (starEach es env)).all (fun x => !x.1)) = true
    rw [nsts_all h.2]
    rfl
/-- no set display, no slice, no comprehension, no super() call -/
def nset : Expr → Bool
  | .Set .. => false
  | _ => true
theorem nset_mark {e : Expr} (h : nset e = true) (o : CmpOp) : behindInMarks o e = false := by
  cases e <;> first | rfl | cases h
theorem nset_last {b c : Expr} (h : nset c = true) (o o' : CmpOp) : lastMarks [o, o'] [b, c] = false := by
  show behindInMarks o' c = false
  exact nset_mark h o'
theorem nset_fold {e : Expr} (h : nset e = true) (env : PySem.Env) (x : Value) : foldedSetIterable e env x = pure x := by
  cases e <;> first | rfl | cases h
def nslice : Expr → Bool
  | .Slice .. => false
  | _ => true
theorem nslice_ix {e : Expr} (h : nslice e = true) : PlainIx e := by
  intro o i
  cases e <;> first | rfl | cases h
def ncomp : Expr → Bool
  | .ListComp .. => false
  | .SetComp .. => false
  | .DictComp .. => false
  | _ => true
theorem ncomp_swap {e : Expr} (h : ncomp e = true) (t : Option Expr) (l : Nat) (env : PySem.Env) : swapsWith e t l env = pure false := by
  cases e <;> first | rfl | cases h
def nsup : Expr → Bool
  | .Call .. => false
  | _ => true
theorem nsup_base {e : Expr} (h : nsup e = true) (m : Str) (env : PySem.Env) (w : Sem Value) : attributeBase e m env w = w := by
  cases e <;> first | rfl | cases h
def plainT : Expr → Bool
  | .UnaryOp .Not _ _ => false
  | .BoolOp .. => false
  | .IfExp .. => false
  | .Compare .. => false
  | _ => true
theorem plainT_is {e : Expr} (h : plainT e = true) (env : PySem.Env) : ∀ whole, isTrue e env whole = (do let v ← whole; standAt e.pos; holding [v] (truthy v)) := by
  intro whole
  cases e <;> first | rfl | (rename_i o _ _; cases o <;> first | rfl | cases h) | cases h
/-- a name's kind -/
def visB (sc : Scope) (x : Str) : Bool := decide (sc.names.lookup x = some .local) || decide (sc.names.lookup x = some .cell) || decide (sc.names.lookup x = some .free)
theorem visB_vis {sc : Scope} {x : Str} (h : visB sc x = true) : Vis sc x := by
  unfold visB at h
  simp only [Bool.or_eq_true, decide_eq_true_eq] at h
  rcases h with (h | h) | h
  · exact .inl h
  · exact .inr (.inl h)
  · exact .inr (.inr h)
def locB (sc : Scope) (fnB : Str → Bool) (x : Str) : Bool := (decide (sc.names.lookup x = some .local) || decide (sc.names.lookup x = some .cell)) && (fnB x || decide (sc.names.lookup x = some .local))
theorem locB_loc {sc : Scope} {fnB : Str → Bool} {x : Str} (h : locB sc fnB x = true) : Loc sc x ∧ (fnB x = true ∨ sc.names.lookup x = some .local) := by
  unfold locB at h
  simp only [Bool.or_eq_true, Bool.and_eq_true, decide_eq_true_eq] at h
  exact ⟨h.1, h.2⟩
def glB (sc : Scope) (x : Str) : Bool := decide (sc.names.lookup x = some .globalImplicit) && decide (x ≠ "__debug__") && decide (x ≠ "__name__")
structure GlOk (X : Cx) (x : Str) : Prop where
  g : L2.Gl X x
  d : (x == ("__debug__" : Str)) = false
  n : x ≠ "__name__"
theorem glB_gl {X : Cx} {x : Str} (h : glB X.env.scope x = true) : GlOk X x := by
  unfold glB at h
  simp only [Bool.and_eq_true, decide_eq_true_eq] at h
  exact ⟨h.1.1, beq_eq_false_iff_ne.mpr h.1.2, h.2⟩
/-- the names of built-ins -/
def fnNames : List String := ["len", "abs", "max", "min", "sum", "all", "any", "sorted"]
def tyNames : List String := ["int", "str", "list", "tuple"]
def allNames : List String := fnNames ++ tyNames ++ ["bool", "dict", "isinstance", "range", "zip", "enumerate", "set", "repr", "reversed", "type"]
theorem fn_boot : ∀ n ∈ fnNames, bootBuiltins (n : Str) = some (.builtin n) := by decide +kernel
theorem ty_boot : ∀ n ∈ asksD, bootBuiltins (n : Str) = some (.type n) := by decide +kernel
theorem ty_boot2 : ∀ n ∈ tyNames, bootBuiltins (n : Str) = some (.type n) := by decide +kernel
end EV

namespace EV
open PySem PySem.Spec PyProof.Rows L2 ZG
/-- o in o.m(..): no super() -/
def nsupM : Expr → Bool
  | .Call (.Name f _) _ _ _ => decide (f ≠ "super")
  | .Call .. => true
  | _ => true
theorem nsupM_base {e : Expr} (h : nsupM e = true) (m : Str) (env : PySem.Env) (w : Sem Value) : attributeBase e m env w = w := by
  cases e
  case Call f as ks pos =>
    cases f
    case Name id p =>
      cases as with
      | nil =>
        cases ks with
        | nil =>
          have h : decide (id ≠ "super") = true := h
          have hb : (id != ("super" : Str)) = true := by
            simp only [decide_eq_true_eq] at h
            simpa using h
          unfold attributeBase
          dsimp only
          rw [hb]
          simp
        | cons _ _ => rfl
      | cons _ _ => rfl
    all_goals rfl
  all_goals rfl
structure TrQ where
  N : List Str
  fn : Nat → Option Str
  con : Nat → Option Str
  ci : Ci
  lw : Bool
  rp : Bool
def trNames (N : List Str) (sc : Scope) (fnB : Str → Bool) : List Nat → List Expr → Bool
  | [], [] => true
  | i :: is, .Name x _ :: es => decide (N[i]? = some x) && locB sc fnB x && trNames N sc fnB is es
  | _, _ => false
def trT (N : List Str) (sc : Scope) (fnB : Str → Bool) (t : Tg) (e : Expr) : Bool := match t, e with
  | .nm i, .Name x _ => decide (N[i]? = some x) && locB sc fnB x
  | .tp is, .Tuple es _ _ => trNames N sc fnB is es
  | _, _ => false
def trTys (sc : Scope) : List String → List Expr → Bool
  | [], [] => true
  | m :: ms, .Name t _ :: es => decide (t = (m : Str)) && decide (m ∈ asksD) && glB sc t && trTys sc ms es
  | _, _ => false
def Mt.nm : Mt → Str
  | .append => "append"
  | .extend => "extend"
  | .insert => "insert"
  | .reverse => "reverse"
  | .pop => "pop"
def Mt.noArg : Mt → Bool
  | .reverse => true
  | .pop => true
  | _ => false
def ownOf (N : List Str) (vs : List Nat) : List (Str × Nat) := vs.map fun i => (N.getD i "", i)
def blkFn (scope : Scope) : Str → Bool := fun x => scope.names.lookup x == some .cell
mutual
def tr (q : TrQ) : E → Scope → (Str → Bool) → Expr → Bool
  | .var i, sc, _, e => match e with
    | .Name x _ => decide (q.N[i]? = some x) && visB sc x && decide (x ≠ "__debug__") && decide (x ≠ "__classdict__")
    | _ => false
  | .int i, _, _, e => match e with
    | .Constant (.int j) _ _ => decide (i = j)
    | _ => false
  | .str x, _, _, e => match e with
    | .Constant (.str y) _ _ => decide (x = y)
    | _ => false
  | .bl x, _, _, e => match e with
    | .Constant (.bool y) _ _ => decide (x = y)
    | _ => false
  | .non, _, _, e => match e with
    | .Constant .none _ _ => true
    | _ => false
  | .con i, sc, _, e => match e with
    | .Name x _ => decide (q.con i = some x) && glB sc x
    | _ => false
  | .iso a c, sc, fnB, e => match e with
    | .Call (.Name f _) [x, .Name t _] [] _ => decide (f = "isinstance") && glB sc f && decide (cnames[c]? = some t) && q.ci.kn c && glB sc t && nst x && tr q a sc fnB x
    | _ => false
  | .tyi neg a m, sc, fnB, e => match e with
    | .Compare (.Call (.Name f _) [x] [] _) [o] [.Name t _] _ => decide (f = "type") && glB sc f && decide (o = (if neg = true then .IsNot else .Is)) && decide (t = (m : Str)) && decide (m ∈ asksD) && glB sc t && nst x && tr q a sc fnB x
    | _ => false
  | .fld a k, sc, fnB, e => match e with
    | .Attribute x n _ => decide (fnames[k]? = some n) && nsupM x && tr q a sc fnB x
    | _ => false
  | .mcl j o es, sc, fnB, e => match e with
    | .Call (.Attribute o' n ap) as [] cp => decide (fnames[j]? = some n) && nsupM o' && (ap.endLine == cp.line) && nsts as && decide (as.length < 29) && tr q o sc fnB o' && trs q es sc fnB as
    | _ => false
  | .new _ c es, sc, fnB, e => match e with
    | .Call (.Name f _) as [] _ => decide (cnames[c]? = some f) && glB sc f && nsts as && trs q es sc fnB as
    | _ => false
  | .tup es, sc, fnB, e => match e with
    | .Tuple as _ _ => trs q es sc fnB as
    | _ => false
  | .lst _ es, sc, fnB, e => match e with
    | .List as _ => trs q es sc fnB as
    | _ => false
  | .bin _ o a b, sc, fnB, e => match e with
    | .BinOp l o' r _ => decide (o = o') && tr q a sc fnB l && tr q b sc fnB r
    | _ => false
  | .neg a, sc, fnB, e => match e with
    | .UnaryOp .USub x _ => tr q a sc fnB x
    | _ => false
  | .not a, sc, fnB, e => match e with
    | .UnaryOp .Not x _ => tr q a sc fnB x
    | _ => false
  | .and es, sc, fnB, e => match e with
    | .BoolOp .And as _ => !as.isEmpty && nsts as && trs q es sc fnB as
    | _ => false
  | .or es, sc, fnB, e => match e with
    | .BoolOp .Or as _ => !as.isEmpty && nsts as && trs q es sc fnB as
    | _ => false
  | .cmp o a b, sc, fnB, e => match e with
    | .Compare l [o'] [r] _ => decide (o = o') && nset r && tr q a sc fnB l && tr q b sc fnB r
    | _ => false
  | .chn o1 o2 a b c, sc, fnB, e => match e with
    | .Compare l [p1, p2] [m, r] _ => decide (o1 = p1) && decide (o2 = p2) && nset r && tr q a sc fnB l && tr q b sc fnB m && tr q c sc fnB r
    | _ => false
  | .ife c a b, sc, fnB, e => match e with
    | .IfExp t l r _ => tr q c sc fnB t && tr q a sc fnB l && tr q b sc fnB r
    | _ => false
  | .ix a b, sc, fnB, e => match e with
    | .Subscript x y _ => nslice y && tr q a sc fnB x && tr q b sc fnB y
    | _ => false
  | .sl _ a lo hi, sc, fnB, e => match e with
    | .Subscript x (.Slice l h none _) _ => tr q a sc fnB x && trp q lo sc fnB l && trp q hi sc fnB h
    | _ => false
  | .isi a m, sc, fnB, e => match e with
    | .Call (.Name f _) [x, .Name t _] [] _ => decide (f = "isinstance") && glB sc f && decide (t = (m : Str)) && decide (m ∈ asksD) && glB sc t && nst x && tr q a sc fnB x
    | _ => false
  | .isis a ms, sc, fnB, e => match e with
    | .Call (.Name f _) [x, .Tuple ts _ _] [] _ => decide (f = "isinstance") && glB sc f && decide (ms.length ≤ 16) && trTys sc ms ts && nst x && tr q a sc fnB x
    | _ => false
  | .blt n _ es, sc, fnB, e => match e with
    | .Call (.Name f _) as [] _ => decide (f = (n : Str)) && decide (n ∈ fnNames) && glB sc f && !as.isEmpty && nsts as && trs q es sc fnB as
    | _ => false
  | .tlt n _ es, sc, fnB, e => match e with
    | .Call (.Name f _) as [] _ => decide (f = (n : Str)) && decide (n ∈ tyNames) && glB sc f && !as.isEmpty && nsts as && trs q es sc fnB as
    | _ => false
  | .mth m o es, sc, fnB, e => match e with
    | .Call (.Attribute o' nm ap) as [] cp => decide (nm = m.nm) && nsupM o' && (ap.endLine == cp.line) && nsts as && decide (as.length < 29) && decide (as.isEmpty = m.noArg) && tr q o sc fnB o' && trs q es sc fnB as
    | _ => false
  | .dl k v, _, _, e => match e with
    | .Dict [some (.Constant (.int a) _ _)] [.Constant (.int b) _ _] _ => decide (k = a) && decide (v = b)
    | _ => false
  | .how a, sc, fnB, e => match e with
    | .Call (.Name f _) [.Lambda ⟨[], [], none, [], [], none, []⟩ body scope _] [] _ => q.lw && fnB "" && decide (f = "_law_how") && glB sc f && LamX.lamSB sc scope && tr q a scope (fun _ => false) body
    | _ => false
  | .rp a, sc, fnB, e => match e with
    | .Call (.Name f _) [x] [] _ => q.rp && fnB "" && decide (f = "repr") && glB sc f && nst x && tr q a sc fnB x
    | _ => false
  | .call i es, sc, fnB, e => match e with
    | .Call (.Name f _) as [] _ => decide (q.fn i = some f) && glB sc f && nsts as && trs q es sc fnB as
    | _ => false
  | .lc _ vs t s c elt, sc, fnB, e => match e with
    | .ListComp el [⟨tg, iter, ifs, isa⟩] scope _ => decide (isa = 0 ∧ blkFn scope "" = false) && blkC q.N sc scope (ownOf q.N vs) && nset iter && t.ix.all (fun i => decide (i ∈ vs)) && trT q.N (L2.relS scope sc) (blkFn scope) t tg && tri q s sc fnB tg iter && tro q c (L2.relS scope sc) (blkFn scope) ifs && tr q elt (L2.relS scope sc) (blkFn scope) el
    | _ => false
def trs (q : TrQ) : Es → Scope → (Str → Bool) → List Expr → Bool
  | .nil, _, _, as => as.isEmpty
  | .cons x xs, sc, fnB, as => match as with
    | a :: as => nst a && tr q x sc fnB a && trs q xs sc fnB as
    | _ => false
  | .star x xs, sc, fnB, as => match as with
    | .Starred a _ :: as => tr q x sc fnB a && trs q xs sc fnB as
    | _ => false
def trp (q : TrQ) : Ep → Scope → (Str → Bool) → Option Expr → Bool
  | .no, _, _, o => o.isNone
  | .yes x, sc, fnB, o => match o with
    | some a => tr q x sc fnB a
    | none => false
def tro (q : TrQ) : Ep → Scope → (Str → Bool) → List Expr → Bool
  | .no, _, _, o => o.isEmpty
  | .yes x, sc, fnB, o => match o with
    | [a] => tr q x sc fnB a
    | _ => false
def tri (q : TrQ) : Sr → Scope → (Str → Bool) → Expr → Expr → Bool
  | .seq a, sc, fnB, _, e => tr q a sc fnB e
  | .rng1 a, sc, fnB, _, e => match e with
    | .Call (.Name f _) [x] [] _ => decide (f = "range") && glB sc f && nst x && tr q a sc fnB x
    | _ => false
  | .rng2 a b, sc, fnB, _, e => match e with
    | .Call (.Name f _) [x, y] [] _ => decide (f = "range") && glB sc f && nst x && nst y && tr q a sc fnB x && tr q b sc fnB y
    | _ => false
  | .zip a b, sc, fnB, tg, e => match tg, e with
    | .Tuple _ _ _, .Call (.Name f _) [x, y] [] _ => decide (f = "zip") && glB sc f && nst x && nst y && tr q a sc fnB x && tr q b sc fnB y
    | _, _ => false
end
/-- what is known of a class that is raised -/
def ExFact (K : PySem.W.Frag) (mg : Str → Option Value) (c : Nat) (x : Str) : Prop := ∃ C, mg x = some (.ref C) ∧ clsA K c = some C ∧ PySem.W.excIn K C [.type "ValueError", .type "Exception", .type "BaseException", .type "object"] "ValueError.__new__" = true ∧ PySem.W.keepIn K (.ref C) = true ∧
    PySem.W.subIn K (.ref C) (.type "BaseException") = some true ∧ PySem.W.typeIn K (.ref C) = some (.type "type")
/-- what is known of the classes of instances -/
structure ClOk (X : Cx) (Z : Gnd) (k : Nat) (T : Tb) : Prop where
  mt : MtOk Z X k T.sem T.ci.mt
  nw : ∀ c x i, T.ci.ini c = some (some i) → cnames[c]? = some x → ∃ C, X.mg x = some (.ref C) ∧ NwOk Z X k (T.sem i) c C
  n0 : ∀ c x, T.ci.ini c = some none → cnames[c]? = some x → ∃ C, X.mg x = some (.ref C) ∧ IOk X.K c [] C ∧ Mk0 X.K C
  fl : FlOk X.K T.ci.fl
  kd : KdOk X.K T.ci.kn
  kg : ∀ c x, T.ci.kn c = true → cnames[c]? = some x → ∃ C, X.mg x = some (.ref C) ∧ clsA X.K c = some C
/-- the state of things around a piece of code -/
structure Good (q : TrQ) (T : Tb) (Z : Gnd) (k : Nat) (sc : Scope) (fnB : Str → Bool) (Y : Env) (X : Cx) : Prop where
  hZ : Y = Z.env Y.EX Y.hd
  hK : Z.K = X.K
  calm : X.calm = true
  room : Room (k + 1) X.A
  nd : X.N.Nodup
  hN : X.N = q.N
  hsc : X.env.scope = sc
  hfn : X.fn = fnB
  takes : Takes X (fun c d _ H => Y.EX c d H)
  blt : ∀ n ∈ allNames, X.mg (n : Str) = none
  fns : ∀ i x, q.fn i = some x → ∃ f fd ps, FnOk X.prog X.w X.K X.mg X.base (L2.CX X.prog X.w) k f fd ps (spD Z (T.sem i)) ∧ X.mg x = some (.ref f) ∧ PySem.W.keepIn X.K (.ref f) = true ∧ L2.Binds X.K fd ps []
  cons : ∀ i x, q.con i = some x → ∃ u v, X.mg x = some u ∧ RelV v u ∧ ∀ φ G, R Z.K φ G (T.con i) v
  ciq : T.ci = q.ci
  exc : ∀ c x, q.ci.rz c = true → cnames[c]? = some x → ExFact X.K X.mg c x
  cl : ClOk X Z k T
  hw : q.lw = true → fnB "" = true → HowOk Z k q.ci.hw Y.hd X
  rp : q.rp = true → fnB "" = true → X.A.guards = some []
section
variable {q : TrQ} {T : Tb} {Z : Gnd} {k : Nat} {sc : Scope} {fnB : Str → Bool} {Y : Env} {X : Cx}
theorem Good.yK (g : Good q T Z k sc fnB Y X) : Y.K = X.K := by
  have := congrArg Env.K g.hZ
  exact this.trans g.hK
theorem Good.u (g : Good q T Z k sc fnB Y X) : X.A.units + 65 < cLine := by
  have := g.room.un
  omega
theorem Good.gl (g : Good q T Z k sc fnB Y X) {x : Str} (h : glB sc x = true) : GlOk X x := glB_gl (by rw [g.hsc]; exact h)
/-- within a comprehension -/
theorem Good.blk (g : Good q T Z k sc fnB Y X) (D : Addr) (scope : Scope) (h0 : blkFn scope "" = false) (s : Shared) (H : Hp) (C : Addr) (cl : List (Str × Addr)) (fp : List Addr) :
    Good q T Z k (L2.relS scope sc) (blkFn scope) (Y.hide D) (X.blk s H scope (compEnvC scope cl C X.env) fp) := by
  refine ⟨?_, g.hK, g.calm, g.room, g.nd, g.hN, by rw [← g.hsc]; rfl, rfl, takes0, g.blt, g.fns, g.cons, g.ciq, g.exc, ⟨⟨g.cl.mt.ok⟩, fun c x i h1 h2 => (g.cl.nw c x i h1 h2).imp fun C h => ⟨h.1, h.2.io, h.2.own⟩, g.cl.n0, g.cl.fl, g.cl.kd, g.cl.kg⟩, (fun _ z => by rw [h0] at z; cases z), fun _ z => by rw [h0] at z; cases z⟩
  rw [g.hZ]
  rfl
/-- within a lambda that is handed in -/
theorem Good.lam (g : Good q T Z k sc fnB Y X) {A : Around} {outer : List PySem.Env} {s : Shared} {H : Hp} {E : XK} {scope : Scope} {f c' : Addr} (r : Room (k + 1) (A.deeper (LamX.lamEnv X scope s.heap.objs.size f c'))) :
    Good q T Z k scope (fun _ => false) (Z.env E []) (LamX.lamCx X A outer s H E scope f c') :=
  ⟨rfl, g.hK, rfl, r, g.nd, g.hN, rfl, rfl, takes_of rfl rfl rfl rfl, g.blt, g.fns, g.cons, g.ciq, g.exc, ⟨⟨g.cl.mt.ok⟩, fun c x i h1 h2 => (g.cl.nw c x i h1 h2).imp fun C h => ⟨h.1, h.2.io, h.2.own⟩, g.cl.n0, g.cl.fl, g.cl.kd, g.cl.kg⟩, (fun _ z => nomatch z), fun _ z => nomatch z⟩
theorem trNames_pg (g : Good q T Z k sc fnB Y X) : ∀ {is : List Nat} {es : List Expr}, trNames q.N sc fnB is es = true → PGs X es (gNames is) ∧ (assignEach es X.env).length = is.length ∧ (assignEach es X.env).findIdx? (·.1) = none
  | [], [], _ => ⟨pgs_nil, rfl, rfl⟩
  | i :: is, .Name x p :: es, h => by
    have h : (decide (q.N[i]? = some x) && locB sc fnB x && trNames q.N sc fnB is es) = true := h
    simp only [Bool.and_eq_true, decide_eq_true_eq] at h
    obtain ⟨⟨h1, h2⟩, h3⟩ := h
    obtain ⟨a, b, c⟩ := trNames_pg g h3
    obtain ⟨l1, l2⟩ := locB_loc h2
    refine ⟨pgs_cons (pg_name g.nd (by rw [g.hN]; exact h1) (by rw [g.hsc]; exact l1) (by rw [g.hsc, g.hfn]; exact l2)) a rfl, ?_, ?_⟩
    · show (assignEach es X.env).length + 1 = _
      rw [b]
      rfl
    · show ((false, assign (.Name x p) X.env) :: assignEach es X.env).findIdx? (·.1) = none
      rw [List.findIdx?_cons, c]
      rfl
  | [], _ :: _, h => by simp [trNames] at h
  | _ :: _, [], h => by simp [trNames] at h
theorem trT_pg (g : Good q T Z k sc fnB Y X) {t : Tg} {e : Expr} (h : trT q.N sc fnB t e = true) : PG X e (gTg X.K t) := by
  unfold trT at h
  split at h
  · simp only [Bool.and_eq_true, decide_eq_true_eq] at h
    obtain ⟨l1, l2⟩ := locB_loc h.2
    exact pg_name g.nd (by rw [g.hN]; exact h.1) (by rw [g.hsc]; exact l1) (by rw [g.hsc, g.hfn]; exact l2)
  · obtain ⟨a, b, c⟩ := trNames_pg g h
    exact pg_tup g.calm a b c
  · cases h
theorem trTys_ms (g : Good q T Z k sc fnB Y X) : ∀ {ms : List String} {es : List Expr}, trTys sc ms es = true → ∃ l : List (Str × String × Pos), es = l.map (fun q => .Name q.1 q.2.2) ∧ ms = l.map (fun q => q.2.1) ∧ (∀ q ∈ l, q.2.1 ∈ asksD) ∧
    ∀ q ∈ l, L2.Gl X q.1 ∧ X.mg q.1 = none ∧ bootBuiltins q.1 = some (.type q.2.1) ∧ q.1 ≠ "__name__" ∧ (q.1 == ("__debug__" : Str)) = false
  | [], [], _ => ⟨[], rfl, rfl, (fun _ h => nomatch h), fun _ h => nomatch h⟩
  | m :: ms, .Name t p :: es, h => by
    have h : (decide (t = (m : Str)) && decide (m ∈ asksD) && glB sc t && trTys sc ms es) = true := h
    simp only [Bool.and_eq_true, decide_eq_true_eq] at h
    obtain ⟨⟨⟨h1, h2⟩, h3⟩, h4⟩ := h
    obtain ⟨l, e1, e2, e3, e4⟩ := trTys_ms g h4
    have gg := g.gl h3
    have inA : m ∈ allNames := by
      have hh : ∀ m ∈ asksD, m ∈ allNames := by decide +kernel
      exact hh m h2
    refine ⟨(t, m, p) :: l, by rw [e1]; rfl, by rw [e2]; rfl, fun q hq => ?_, fun q hq => ?_⟩
    · rcases List.mem_cons.mp hq with rfl | hq
      · exact h2
      · exact e3 q hq
    · rcases List.mem_cons.mp hq with rfl | hq
      · subst h1
        exact ⟨gg.g, g.blt m inA, ty_boot m h2, gg.n, gg.d⟩
      · exact e4 q hq
  | [], _ :: _, h => by simp [trTys] at h
  | _ :: _, [], h => by simp [trTys] at h
/-- what is shown of an expression -/
structure Both (X : Cx) (Y : Env) (e : Expr) (s : Sem2) : Prop where
  v : PE X e (tR Y s.v)
  t : PT X e (tRT Y s.t)
theorem both_dft (g : Good q T Z k sc fnB Y X) {e : Expr} {v : Slots → Cells → Rs} (h : PE X e (tR Y v)) (hp : plainT e = true) : Both X Y e (dft v) := ⟨h, pt_truD g.yK h (plainT_is hp X.env)⟩
theorem pt_none {e : Expr} : PT X e (tRT Y fun _ _ => none) := ⟨fun _ _ _ _ _ _ ⟨_, _, _, _, _, ok⟩ => (OkG.nope ok).elim⟩
/-- what is shown of a list of expressions -/
structure Many (X : Cx) (Y : Env) (as : List Expr) (A : Slots → Cells → RsG (List D)) (l : List Sem2) : Prop where
  a : PA X as (tRA Y A)
  av : nsts as = true → as ≠ [] → ∀ pos, PE X (.BoolOp .And as pos) (tR Y (andV l)) ∧ PW X (.BoolOp .And as pos) (tRT Y (andT l))
  ov : nsts as = true → as ≠ [] → ∀ pos, PE X (.BoolOp .Or as pos) (tR Y (orV l)) ∧ PW X (.BoolOp .Or as pos) (tRT Y (orT l))
theorem many_nil : Many X Y [] (fun _ cs => some (.val [], cs)) [] := ⟨pa_nilD, fun _ h => absurd rfl h, fun _ h => absurd rfl h⟩
theorem many_cons (g : Good q T Z k sc fnB Y X) {a : Expr} {as : List Expr} {s : Sem2} {A : Slots → Cells → RsG (List D)} {l : List Sem2} (hl : as.length = l.length) (h : Both X Y a s) (m : Many X Y as A l) (hs : nst a = true) : Many X Y (a :: as) (fun sl cs => (s.v sl cs).bind fun d cs => (A sl cs).bind fun ds cs => some (.val (d :: ds), cs)) (s :: l) := by
  refine ⟨pa_consD h.v m.a (nst_star hs as X.env), fun hn _ pos => ?_, fun hn _ pos => ?_⟩
  · cases as with
    | nil =>
      cases l with
      | nil => exact ⟨pe_one h.v, pw_and1 h.t⟩
      | cons _ _ => cases hl
    | cons b as =>
      cases l with
      | nil => cases hl
      | cons s2 l =>
        have hn : (nst a && nsts (b :: as)) = true := hn
        rw [Bool.and_eq_true] at hn
        obtain ⟨x, y⟩ := m.av hn.2 (by simp) pos
        exact ⟨pe_andD g.yK h.v x, pw_andD h.t y⟩
  · cases as with
    | nil =>
      cases l with
      | nil => exact ⟨pe_one h.v, pw_or1 h.t⟩
      | cons _ _ => cases hl
    | cons b as =>
      cases l with
      | nil => cases hl
      | cons s2 l =>
        have hn : (nst a && nsts (b :: as)) = true := hn
        rw [Bool.and_eq_true] at hn
        obtain ⟨x, y⟩ := m.ov hn.2 (by simp) pos
        exact ⟨pe_orD g.yK h.v x, pw_orD h.t y⟩
theorem many_star (g : Good q T Z k sc fnB Y X) {a : Expr} {p : Pos} {as : List Expr} {s s' : Sem2} {A : Slots → Cells → RsG (List D)} {l : List Sem2} (h : Both X Y a s) (m : Many X Y as A l) : Many X Y (.Starred a p :: as) (starV s.v A) (s' :: l) := by
  refine ⟨pa_starD g.yK h.v m.a rfl, fun hn => ?_, fun hn => ?_⟩
  · cases hn
  · cases hn
theorem mth_pe (g : Good q T Z k sc fnB Y X) {m : Mt} {o : Expr} {nm : Str} {ap cp : Pos} {as : List Expr} {f : Slots → Cells → Rs} {A : Slots → Cells → RsG (List D)} (ho : PE X o (tR Y f)) (ha : PA X as (tRA Y A)) (h1 : nm = m.nm) (h2 : nsupM o = true) (h3 : (ap.endLine == cp.line) = true) (h4 : nsts as = true)
    (h5 : as.length < 29) (h6 : as.isEmpty = m.noArg) (hA : as = [] → A = fun _ cs => some (.val [], cs)) : PE X (.Call (.Attribute o nm ap) as [] cp) (tR Y (bmR "list" f A m.f)) := by
  subst h1
  have hb := nsupM_base h2 m.nm X.env (eval o X.env)
  have few : ∀ {e : Expr} {es : List Expr}, nsts (e :: es) = true → (e :: es).length < 29 → ((backTo cp (starEach (e :: es) X.env)).all (fun x => !x.1) && (backToKw cp (keywordEach [] X.env)).all (fun x => x.1.isSome)
      && decide ((e :: es).length + ([] : List Keyword).length + (if ([] : List Keyword).isEmpty then 0 else 1) < 30)) = true := fun {e es} h h' => by
    rw [nsts_all h]
    show (true && true && decide _) = true
    simp only [Bool.true_and, decide_eq_true_eq]
    simp only [List.length_nil, List.isEmpty_nil, if_true]
    omega
  cases as with
  | nil =>
    rw [hA rfl]
    cases m with
    | reverse => exact pe_bm0D g.yK PySem.F.plainAttrs_list PySem.F.slot_list_reverse PySem.F.type_list_reverse reverse_D ho hb h3
    | pop => exact pe_bm0D g.yK PySem.F.plainAttrs_list PySem.F.slot_list_pop PySem.F.type_list_pop pop_D ho hb h3
    | append => cases h6
    | extend => cases h6
    | insert => cases h6
  | cons e es =>
    have h4' : (nst e && nsts es) = true := h4
    rw [Bool.and_eq_true] at h4'
    cases m with
    | append => exact pe_bmD g.yK PySem.F.plainAttrs_list PySem.F.slot_list_append PySem.F.type_list_append append_D ho ha hb (few h4 h5) h3 (nst_star h4'.1 es X.env) (nsts_flags h4'.2)
    | extend => exact pe_bmD g.yK PySem.F.plainAttrs_list PySem.F.slot_list_extend PySem.F.type_list_extend extend_D ho ha hb (few h4 h5) h3 (nst_star h4'.1 es X.env) (nsts_flags h4'.2)
    | insert => exact pe_bmD g.yK PySem.F.plainAttrs_list PySem.F.slot_list_insert PySem.F.type_list_insert insert_D ho ha hb (few h4 h5) h3 (nst_star h4'.1 es X.env) (nsts_flags h4'.2)
    | reverse => cases h6
    | pop => cases h6
end
end EV

namespace EV
open PySem PySem.Spec PyProof.Rows L2 ZG
theorem pts_weak {X : Cx} {e : List Expr} {t t' : TT} (h : PTs X e t) (i : ∀ σ H Q, t' σ H Q → t σ H Q) : PTs X e t' := ⟨fun pins s σ H Q I w => h.run pins s σ H Q I (i _ _ _ w)⟩
section
variable {q : TrQ} {T : Tb} {Z : Gnd} {k : Nat}
theorem andB {a b : Bool} (h : (a && b) = true) : a = true ∧ b = true := by
  rw [Bool.and_eq_true] at h
  exact h
theorem inFn {n : String} (h : n ∈ fnNames) : n ∈ allNames := by
  have hh : ∀ m ∈ fnNames, m ∈ allNames := by decide +kernel
  exact hh n h
theorem inTy {n : String} (h : n ∈ tyNames) : n ∈ allNames := by
  have hh : ∀ m ∈ tyNames, m ∈ allNames := by decide +kernel
  exact hh n h
theorem inAs {n : String} (h : n ∈ asksD) : n ∈ allNames := by
  have hh : ∀ m ∈ asksD, m ∈ allNames := by decide +kernel
  exact hh n h
theorem pe_none {e : Expr} : PE X e (tR Y fun _ _ => none) := ⟨fun _ _ _ _ _ _ ⟨_, _, _, _, _, ok⟩ => (OkG.nope ok).elim⟩
theorem new_pe (g : Good q T Z k sc fnB Y X) {own : Bool} {c : Nat} {f : Str} {p pos : Pos} {as : List Expr} {isNil : Bool} {A : Slots → Cells → RsG (List D)} (h1 : cnames[c]? = some f) (h2 : glB sc f = true) (h3 : nsts as = true) (ha : PA X as (tRA Y A)) (hn : as = [] → isNil = true ∧ A = fun _ cs => some (.val [], cs)) (hn2 : isNil = true → as = []) :
    PE X (.Call (.Name f p) as [] pos) (tR Y (newS T own c isNil A)) := by
  have g1 := g.gl h2
  unfold newS
  cases hi : T.ci.ini c with
  | none => exact pe_none
  | some o =>
    cases o with
    | some i =>
      obtain ⟨C, m1, N⟩ := g.cl.nw c _ i hi h1
      cases as with
      | nil =>
        rw [(hn rfl).2]
        exact pe_newD0 g.hZ g.hK N g.room g1.g m1 g.takes g1.d
      | cons a as =>
        obtain ⟨h7, h8⟩ := andB (show (nst a && nsts as) = true from h3)
        exact pe_newD g.hZ g.hK N g.room g1.g m1 g.takes ha g1.d (nst_star h7 _ _) (nsts_flags h8)
    | none =>
      dsimp only
      cases isNil with
      | false => exact pe_none
      | true =>
        have := hn2 rfl
        subst this
        obtain ⟨C, m1, io, M0⟩ := g.cl.n0 c _ hi h1
        exact pe_new0D g.yK io M0 g1.g m1 g1.d
theorem tyi_bl {neg : Bool} {m : String} {d : D} {cs cs' : Cells} {d' : D} (h : tyiD neg m d cs = some (.val d', cs')) : ∃ b, d' = .bl b := by
  unfold tyiD at h
  split at h
  · cases h
    exact ⟨_, rfl⟩
  · cases h
mutual
theorem both : ∀ (E : E) {sc : Scope} {fnB : Str → Bool} {Y : Env} {X : Cx} {e : Expr}, Good q T Z k sc fnB Y X → tr q E sc fnB e = true → Both X Y e (ev T E)
  | .var i, sc, fnB, Y, X, e, g, h => by
    simp only [tr] at h
    split at h
    · obtain ⟨h, h4⟩ := andB h
      obtain ⟨h, h3⟩ := andB h
      obtain ⟨h1, h2⟩ := andB h
      simp only [decide_eq_true_eq] at h1 h3 h4
      simp only [ev]
      exact both_dft g (pe_varD (by rw [g.hN]; exact h1) (by rw [g.hsc]; exact visB_vis h2) (beq_eq_false_iff_ne.mpr h3) (beq_eq_false_iff_ne.mpr h4)) rfl
    · cases h
  | .int i, sc, fnB, Y, X, e, g, h => by
    simp only [tr] at h
    split at h
    · simp only [decide_eq_true_eq] at h
      subst h
      simp only [ev]
      exact both_dft g (pe_conD pe_int fun _ _ => rfl) rfl
    · cases h
  | .str i, sc, fnB, Y, X, e, g, h => by
    simp only [tr] at h
    split at h
    · simp only [decide_eq_true_eq] at h
      subst h
      simp only [ev]
      exact both_dft g (pe_conD pe_str fun _ _ => rfl) rfl
    · cases h
  | .bl i, sc, fnB, Y, X, e, g, h => by
    simp only [tr] at h
    split at h
    · simp only [decide_eq_true_eq] at h
      subst h
      simp only [ev]
      exact both_dft g (pe_conD pe_bl fun _ _ => rfl) rfl
    · cases h
  | .non, sc, fnB, Y, X, e, g, h => by
    simp only [tr] at h
    split at h
    · simp only [ev]
      exact both_dft g (pe_conD pe_non fun _ _ => rfl) rfl
    · cases h
  | .con i, sc, fnB, Y, X, e, g, h => by
    simp only [tr] at h
    split at h
    · obtain ⟨h1, h2⟩ := andB h
      simp only [decide_eq_true_eq] at h1
      obtain ⟨u, v, m1, m2, m3⟩ := g.cons i _ h1
      simp only [ev]
      exact both_dft g (pe_conD (pe_glob (g.gl h2).g m1 m2 (g.gl h2).d) fun φ G => by rw [show Y.K = Z.K from g.yK.trans g.hK.symm]; exact m3 φ G) rfl
    · cases h
  | .tup es, sc, fnB, Y, X, e, g, h => by
    simp only [tr] at h
    split at h
    · simp only [ev]
      exact both_dft g (pe_tupD (many es g h).1.a) rfl
    · cases h
  | .lst own es, sc, fnB, Y, X, e, g, h => by
    simp only [tr] at h
    split at h
    · simp only [ev]
      exact both_dft g (pe_lstD (many es g h).1.a) rfl
    · cases h
  | .bin own o a b, sc, fnB, Y, X, e, g, h => by
    simp only [tr] at h
    split at h
    · obtain ⟨h, h3⟩ := andB h
      obtain ⟨h1, h2⟩ := andB h
      simp only [decide_eq_true_eq] at h1
      subst h1
      simp only [ev]
      exact both_dft g (pe_binD g.yK (both a g h2).v (both b g h3).v) rfl
    · cases h
  | .neg a, sc, fnB, Y, X, e, g, h => by
    simp only [tr] at h
    split at h
    · simp only [ev]
      exact both_dft g (pe_negD (both a g h).v) rfl
    · cases h
  | .not a, sc, fnB, Y, X, e, g, h => by
    simp only [tr] at h
    split at h
    · simp only [ev]
      exact ⟨pe_notD g.yK (both a g h).v, pt_notD (both a g h).t⟩
    · cases h
  | .and es, sc, fnB, Y, X, e, g, h => by
    simp only [tr] at h
    split at h
    · obtain ⟨h, h2⟩ := andB h
      obtain ⟨h1, h3⟩ := andB h
      simp only [ev]
      obtain ⟨x, y⟩ := (many es g h2).1.av h3 (by intro c; subst c; cases h1) _
      exact ⟨x, y.pt⟩
    · cases h
  | .or es, sc, fnB, Y, X, e, g, h => by
    simp only [tr] at h
    split at h
    · obtain ⟨h, h2⟩ := andB h
      obtain ⟨h1, h3⟩ := andB h
      simp only [ev]
      obtain ⟨x, y⟩ := (many es g h2).1.ov h3 (by intro c; subst c; cases h1) _
      exact ⟨x, y.pt⟩
    · cases h
  | .cmp o a b, sc, fnB, Y, X, e, g, h => by
    simp only [tr] at h
    split at h
    · obtain ⟨h, h4⟩ := andB h
      obtain ⟨h, h3⟩ := andB h
      obtain ⟨h1, h2⟩ := andB h
      simp only [decide_eq_true_eq] at h1
      subst h1
      simp only [ev]
      exact ⟨pe_cmpD g.yK g.u (both a g h3).v (both b g h4).v (nset_mark h2 _), pt_cmpD g.yK g.u (both a g h3).v (both b g h4).v (nset_mark h2 _)⟩
    · cases h
  | .chn o o' a b c, sc, fnB, Y, X, e, g, h => by
    simp only [tr] at h
    split at h
    · obtain ⟨h, h6⟩ := andB h
      obtain ⟨h, h5⟩ := andB h
      obtain ⟨h, h4⟩ := andB h
      obtain ⟨h, h3⟩ := andB h
      obtain ⟨h1, h2⟩ := andB h
      simp only [decide_eq_true_eq] at h1 h2
      subst h1 h2
      simp only [ev]
      exact ⟨pe_chnD g.yK g.u (both a g h4).v (both b g h5).v (both c g h6).v (nset_last h3 _ _), pt_chnD g.yK g.u (both a g h4).v (both b g h5).v (both c g h6).v (nset_last h3 _ _)⟩
    · cases h
  | .ife c a b, sc, fnB, Y, X, e, g, h => by
    simp only [tr] at h
    split at h
    · obtain ⟨h, h3⟩ := andB h
      obtain ⟨h1, h2⟩ := andB h
      simp only [ev]
      exact ⟨pe_ifD (both c g h1).t (both a g h2).v (both b g h3).v, pt_none⟩
    · cases h
  | .ix a b, sc, fnB, Y, X, e, g, h => by
    simp only [tr] at h
    split at h
    · obtain ⟨h, h3⟩ := andB h
      obtain ⟨h1, h2⟩ := andB h
      simp only [ev]
      exact both_dft g (pe_ixD g.yK (both a g h2).v (both b g h3).v (nslice_ix h1)) rfl
    · cases h
  | .sl own a lo hi, sc, fnB, Y, X, e, g, h => by
    simp only [tr] at h
    split at h
    · obtain ⟨h, h3⟩ := andB h
      obtain ⟨h1, h2⟩ := andB h
      simp only [ev]
      exact both_dft g (pe_slD g.yK (both a g h1).v (part lo g h2) (part hi g h3)) rfl
    · cases h
  | .isi a m, sc, fnB, Y, X, e, g, h => by
    simp only [tr] at h
    split at h
    · obtain ⟨h, h7⟩ := andB h
      obtain ⟨h, h6⟩ := andB h
      obtain ⟨h, h5⟩ := andB h
      obtain ⟨h, h4⟩ := andB h
      obtain ⟨h, h3⟩ := andB h
      obtain ⟨h1, h2⟩ := andB h
      simp only [decide_eq_true_eq] at h1 h3 h4
      subst h1 h3
      have g1 := g.gl h2
      have g2 := g.gl h5
      simp only [ev]
      rw [g.ciq]
      exact both_dft g (pe_isbD g.yK (by rw [← g.ciq]; exact g.cl.kd) h4 (ty_boot m h4) (both a g h7).v g1.g (g.blt "isinstance" (by decide +kernel)) g2.g (g.blt m (inAs h4)) g2.n g2.d (nst_star h6 _ _)) rfl
    · cases h
  | .isis a ms, sc, fnB, Y, X, e, g, h => by
    simp only [tr] at h
    split at h
    · obtain ⟨h, h6⟩ := andB h
      obtain ⟨h, h5⟩ := andB h
      obtain ⟨h, h4⟩ := andB h
      obtain ⟨h, h3⟩ := andB h
      obtain ⟨h1, h2⟩ := andB h
      simp only [decide_eq_true_eq] at h1 h3
      subst h1
      have g1 := g.gl h2
      obtain ⟨l, e1, e2, e3, e4⟩ := trTys_ms g h4
      subst e1 e2
      simp only [ev]
      rw [g.ciq]
      exact both_dft g (pe_isbsD g.yK (by rw [← g.ciq]; exact g.cl.kd) e3 e4 (by simpa using h3) (both a g h6).v g1.g (g.blt "isinstance" (by decide +kernel)) (fun es => nst_star h5 es _)) rfl
    · cases h
  | .blt n own es, sc, fnB, Y, X, e, g, h => by
    simp only [tr] at h
    split at h
    · rename_i f p as pos
      obtain ⟨h, h6⟩ := andB h
      obtain ⟨h, h5⟩ := andB h
      obtain ⟨h, h4⟩ := andB h
      obtain ⟨h, h3⟩ := andB h
      obtain ⟨h1, h2⟩ := andB h
      simp only [decide_eq_true_eq] at h1 h2
      subst h1
      have g1 := g.gl h3
      simp only [ev]
      have m := (many es g h6).1.a
      cases as with
      | nil => cases h4
      | cons a as =>
        obtain ⟨h7, h8⟩ := andB (show (nst a && nsts as) = true from h5)
        exact both_dft g (pe_bltD g.yK g.calm g1.g (g.blt n (inFn h2)) (fn_boot n h2) m g1.n g1.d (nst_star h7 _ _) (nsts_flags h8)) rfl
    · cases h
  | .tlt n own es, sc, fnB, Y, X, e, g, h => by
    simp only [tr] at h
    split at h
    · rename_i f p as pos
      obtain ⟨h, h6⟩ := andB h
      obtain ⟨h, h5⟩ := andB h
      obtain ⟨h, h4⟩ := andB h
      obtain ⟨h, h3⟩ := andB h
      obtain ⟨h1, h2⟩ := andB h
      simp only [decide_eq_true_eq] at h1 h2
      subst h1
      have g1 := g.gl h3
      simp only [ev]
      have m := (many es g h6).1.a
      cases as with
      | nil => cases h4
      | cons a as =>
        obtain ⟨h7, h8⟩ := andB (show (nst a && nsts as) = true from h5)
        exact both_dft g (pe_tltD g.yK g1.g (g.blt n (inTy h2)) (ty_boot2 n h2) m g1.n g1.d (nst_star h7 _ _) (nsts_flags h8)) rfl
    · cases h
  | .mth m o es, sc, fnB, Y, X, e, g, h => by
    simp only [tr] at h
    split at h
    · obtain ⟨h, h8⟩ := andB h
      obtain ⟨h, h7⟩ := andB h
      obtain ⟨h, h6⟩ := andB h
      obtain ⟨h, h5⟩ := andB h
      obtain ⟨h, h4⟩ := andB h
      obtain ⟨h, h3⟩ := andB h
      obtain ⟨h1, h2⟩ := andB h
      simp only [decide_eq_true_eq] at h1 h5 h6
      simp only [ev]
      have mm := many es g h8
      exact both_dft g (mth_pe g (both o g h7).v mm.1.a h1 h2 h3 h4 h5 h6 fun c => by
        subst c
        cases es with
        | nil => simp only [evl]
        | cons _ _ => simp only [trs] at h8; cases h8
        | star _ _ => simp only [trs] at h8; cases h8) rfl
    · cases h
  | .call i es, sc, fnB, Y, X, e, g, h => by
    simp only [tr] at h
    split at h
    · rename_i f p as pos
      obtain ⟨h, h4⟩ := andB h
      obtain ⟨h, h3⟩ := andB h
      obtain ⟨h1, h2⟩ := andB h
      simp only [decide_eq_true_eq] at h1
      obtain ⟨fa, fd, ps, F, m1, m2, m3⟩ := g.fns i _ h1
      have g1 := g.gl h2
      simp only [ev]
      have mm := many es g h4
      cases as with
      | nil =>
        cases es with
        | nil =>
          refine both_dft g ?_ rfl
          simp only [evl]
          exact pe_call0D g.hZ F (g.room.mono (Nat.le_succ _)) g1.g m1 m2 m3 g.takes g1.d
        | cons _ _ => simp only [trs] at h4; cases h4
        | star _ _ => simp only [trs] at h4; cases h4
      | cons a as =>
        obtain ⟨h7, h8⟩ := andB (show (nst a && nsts as) = true from h3)
        exact both_dft g (pe_callD g.hZ F (g.room.mono (Nat.le_succ _)) g1.g m1 m2 m3 g.takes mm.1.a g1.d (nst_star h7 _ _) (nsts_flags h8)) rfl
    · cases h
  | .dl k v, sc, fnB, Y, X, e, g, h => by
    simp only [tr] at h
    split at h
    · obtain ⟨h1, h2⟩ := andB h
      simp only [decide_eq_true_eq] at h1 h2
      subst h1 h2
      simp only [ev]
      refine both_dft g ?_ rfl
      refine pe_weak (pe_disp (pps_cons pe_int pe_int pps_nil) rfl rfl (by simp) (by simp)) fun σ H Q t => ?_
      obtain ⟨sl, φ, cs, rs, w, ok⟩ := t
      intro p hp
      refine ⟨upd_same, [(.inl k, .int v)], rfl, by simp, ?_⟩
      rw [upd_upd]
      refine OkV.fresh ok w hp ⟨p, [.int v], rfl, upd_same, rfl, _, _, rfl, rfl, rfl⟩
    · cases h
  | .rp a, sc, fnB, Y, X, e, g, h => by
    simp only [tr] at h
    split at h
    · obtain ⟨h, h6⟩ := andB h
      obtain ⟨h, h5⟩ := andB h
      obtain ⟨h, h4⟩ := andB h
      obtain ⟨h, h3⟩ := andB h
      obtain ⟨h1, h2⟩ := andB h
      simp only [decide_eq_true_eq] at h3
      subst h3
      simp only [ev]
      have hu := g.room.un
      exact both_dft g (pe_reprD g.yK (g.rp h1 h2) (by omega) (both a g h6).v (g.gl h4).g (g.blt "repr" (by decide +kernel)) (nst_star h5 _ _)) rfl
    · cases h
  | .how a, sc, fnB, Y, X, e, g, h => by
    simp only [tr] at h
    split at h
    · rename_i f p body scope lp pos
      obtain ⟨h, h6⟩ := andB h
      obtain ⟨h, h5⟩ := andB h
      obtain ⟨h, h4⟩ := andB h
      obtain ⟨h, h3⟩ := andB h
      obtain ⟨h1, h2⟩ := andB h
      simp only [decide_eq_true_eq] at h3
      subst h3
      have g1 := g.gl h4
      obtain ⟨hd, hr, gA, c, P, pg, bg, sg, dV, kV, doc, pm, cdv, ct, oc, an, od, osl, Ng, kd, m1, m2, m3, m4, m5, m6, m7, m8, m9, m10, m11, m12, m13⟩ := g.hw h1 h2
      simp only [ev]
      refine both_dft g ?_ rfl
      have hY : Y = Z.env Y.EX [] := by
        have := g.hZ
        rw [hd] at this
        exact this
      have P1 := LamX.pe_lamcall (params := ⟨[], [], none, [], [], none, []⟩) (body := body) (scope := scope) (p := p) (lpos := lp) (pos := pos) (k := k + 1) (T := [(P, X.env.qual ++ "<lambda>")]) (t := fun E => tR (Z.env E []) (ev T a).v) g1.g m1 m2 m3 m4 m5 m6 m7 m8 m9 m10 m11 (List.mem_singleton.mpr rfl) (fun p hp _ => by rw [List.mem_singleton.mp hp]) hr (LamX.lamS_by (by rw [g.hsc]; exact h5)) rfl (fun _ _ _ _ _ => by rfl) (fun A outer s H E f c' r => (both a (g.lam r) h6).v)
      refine pe_weak P1 fun σ H Q t => ?_
      rw [hY] at t
      rw [g.ciq] at t
      exact how_tr m12 m13 t
    · cases h
  | .iso a c, sc, fnB, Y, X, e, g, h => by
    simp only [tr] at h
    split at h
    · obtain ⟨h, h7⟩ := andB h
      obtain ⟨h, h6⟩ := andB h
      obtain ⟨h, h5⟩ := andB h
      obtain ⟨h, h4⟩ := andB h
      obtain ⟨h, h3⟩ := andB h
      obtain ⟨h1, h2⟩ := andB h
      simp only [decide_eq_true_eq] at h1 h3
      subst h1
      have g1 := g.gl h2
      have g2 := g.gl h5
      obtain ⟨C, k1, k2⟩ := g.cl.kg c _ (by rw [g.ciq]; exact h4) h3
      simp only [ev]
      exact both_dft g (pe_isoD g.yK g.cl.kd (by rw [g.ciq]; exact h4) k2 (both a g h7).v g1.g (g.blt "isinstance" (by decide +kernel)) g2.g k1 g2.d (nst_star h6 _ _)) rfl
    · cases h
  | .tyi neg a m, sc, fnB, Y, X, e, g, h => by
    simp only [tr] at h
    split at h
    · obtain ⟨h, h8⟩ := andB h
      obtain ⟨h, h7⟩ := andB h
      obtain ⟨h, h6⟩ := andB h
      obtain ⟨h, h5⟩ := andB h
      obtain ⟨h, h4⟩ := andB h
      obtain ⟨h, h3⟩ := andB h
      obtain ⟨h1, h2⟩ := andB h
      simp only [decide_eq_true_eq] at h1 h3 h4 h5
      subst h1 h3 h4
      have g1 := g.gl h2
      have g2 := g.gl h6
      simp only [ev]
      exact ⟨pe_tyiD g.yK (ty_boot m h5) (both a g h8).v g1.g (g.blt "type" (by decide +kernel)) g2.g (g.blt m (inAs h5)) g2.n g2.d (nst_star h7 _ _), pt_tyiD g.yK (ty_boot m h5) (both a g h8).v g1.g (g.blt "type" (by decide +kernel)) g2.g (g.blt m (inAs h5)) g2.n g2.d (nst_star h7 _ _)⟩
    · cases h
  | .fld a k, sc, fnB, Y, X, e, g, h => by
    simp only [tr] at h
    split at h
    · rename_i x n pos
      obtain ⟨h, h3⟩ := andB h
      obtain ⟨h1, h2⟩ := andB h
      simp only [decide_eq_true_eq] at h1
      obtain ⟨lt, e1⟩ := List.getElem?_eq_some_iff.mp h1
      subst e1
      simp only [ev]
      have P := pe_fldD (k := k) (f := (ev T a).v) (pos := pos) g.yK lt (both a g h3).v (by rw [fstr_at lt]; exact nsupM_base h2 _ _ _)
      rw [fstr_at lt] at P
      exact both_dft g P rfl
    · cases h
  | .mcl j o es, sc, fnB, Y, X, e, g, h => by
    simp only [tr] at h
    split at h
    · rename_i o' n ap as cp
      obtain ⟨h, h7⟩ := andB h
      obtain ⟨h, h6⟩ := andB h
      obtain ⟨h, h5⟩ := andB h
      obtain ⟨h, h4⟩ := andB h
      obtain ⟨h, h3⟩ := andB h
      obtain ⟨h1, h2⟩ := andB h
      simp only [decide_eq_true_eq] at h1 h5
      obtain ⟨lt, e1⟩ := List.getElem?_eq_some_iff.mp h1
      subst e1
      simp only [ev]
      have mm := many es g h7
      have hb := nsupM_base h2 fnames[j] X.env (eval o' X.env)
      have few : ((backTo cp (starEach as X.env)).all (fun x => !x.1) && (backToKw cp (keywordEach [] X.env)).all (fun x => x.1.isSome) && decide (as.length + ([] : List Keyword).length + (if ([] : List Keyword).isEmpty then 0 else 1) < 30)) = true := by
        rw [nsts_all h4]
        show (true && true && decide _) = true
        simp only [Bool.true_and, decide_eq_true_eq]
        simp only [List.length_nil, List.isEmpty_nil, if_true]
        omega
      have ht := meth_ht (m := fnames[j]) (as := as) (apos := ap) (pos := cp) hb few h3
      cases as with
      | nil =>
        cases es with
        | nil =>
          refine both_dft g ?_ rfl
          have P := pe_methX0 (both o g h6).v ht
          refine pe_weak P fun σ H Q w => ?_
          have := mcl_read (t := tNil) (j := j) (A := fun _ cs => some (.val [], cs)) g.hZ g.hK (g.room.mono (Nat.le_succ _)) g.takes g.cl.mt (fun σ H Q ⟨sl, φ, cs, rs, w, ok⟩ => OkG.now ok w rfl) (by simpa only [evl] using w)
          rw [fstr_at lt] at this
          exact this
        | cons _ _ => simp only [trs] at h7; cases h7
        | star _ _ => simp only [trs] at h7; cases h7
      | cons a as =>
        obtain ⟨h8, h9⟩ := andB (show (nst a && nsts as) = true from h4)
        refine both_dft g ?_ rfl
        have P := pe_methX (both o g h6).v mm.1.a (nst_star h8 _ _) (nsts_flags h9) ht
        refine pe_weak P fun σ H Q w => ?_
        have := mcl_read (j := j) g.hZ g.hK (g.room.mono (Nat.le_succ _)) g.takes g.cl.mt (fun _ _ _ h => h) w
        rw [fstr_at lt] at this
        exact this
    · cases h
  | .new own c es, sc, fnB, Y, X, e, g, h => by
    simp only [tr] at h
    split at h
    · rename_i f p as pos
      obtain ⟨h, h4⟩ := andB h
      obtain ⟨h, h3⟩ := andB h
      obtain ⟨h1, h2⟩ := andB h
      simp only [decide_eq_true_eq] at h1
      have g1 := g.gl h2
      simp only [ev]
      exact both_dft g (new_pe g h1 h2 h3 (many es g h4).1.a (fun z => by
        subst z
        cases es with
        | nil => exact ⟨rfl, by simp only [evl]⟩
        | cons _ _ => simp only [trs] at h4; cases h4
        | star _ _ => simp only [trs] at h4; cases h4) (fun z => by
        cases es with
        | nil =>
          simp only [trs] at h4
          cases as with
          | nil => rfl
          | cons _ _ => cases h4
        | cons _ _ => cases z
        | star _ _ => cases z)) rfl
    · cases h
  | .lc own vs t s c elt, sc, fnB, Y, X, e, g, h => by
    simp only [tr] at h
    split at h
    · rename_i el tg iter ifs isa scope pos
      obtain ⟨h, h8⟩ := andB h
      obtain ⟨h, h7⟩ := andB h
      obtain ⟨h, h6⟩ := andB h
      obtain ⟨h, h5⟩ := andB h
      obtain ⟨h, h4⟩ := andB h
      obtain ⟨h, h3⟩ := andB h
      obtain ⟨h1, h2⟩ := andB h
      simp only [decide_eq_true_eq] at h1
      obtain ⟨h1, h0⟩ := h1
      subst h1
      simp only [ev]
      refine both_dft g ?_ rfl
      have hv : (ownOf q.N vs).map (fun x => x.2) = vs := by
        unfold ownOf
        rw [List.map_map]
        exact List.map_id'' (fun _ => rfl) vs
      have P := pe_lc (pos := pos) (g := gTg X.K t) (tt := fun σ H Q => ∃ D, tRT (Y.hide D) (tstO (evo T c)) σ H Q) (te := fun σ H Q => ∃ D, tR (Y.hide D) (ev T elt).v σ H Q) g.calm g.nd (iters s g (tg := tg) h6) (blkOk_by (own := ownOf q.N vs) (by rw [g.hN, g.hsc]; exact h2))
        (fun s' H C cl fp => trT_pg (g.blk 0 scope h0 s' H C cl fp) h5) (fun s' H C cl fp => ⟨fun pins s'' σ H' Q I ⟨D, w⟩ => (tests c (g.blk D scope h0 s' H C cl fp) h7).run pins s'' σ H' Q I w⟩)
        (fun s' H C cl fp => ⟨fun pins s'' σ H' Q I ⟨D, w⟩ => (both elt (g.blk D scope h0 s' H C cl fp) h8).v.run pins s'' σ H' Q I w⟩) (fun x => nset_fold h3 _ x)
      rw [hv] at P
      exact pe_weak P fun σ H Q w => lc_read g.yK (fun D σ H Q w => ⟨D, w⟩) (fun D σ H Q w => ⟨D, w⟩) (fun i hi => by
        have := List.all_eq_true.mp h4 i hi
        simpa using this) w
    · cases h
theorem many : ∀ (es : Es) {sc : Scope} {fnB : Str → Bool} {Y : Env} {X : Cx} {as : List Expr}, Good q T Z k sc fnB Y X → trs q es sc fnB as = true → Many X Y as (evl T es) (evs T es) ∧ as.length = (evs T es).length
  | .nil, sc, fnB, Y, X, as, g, h => by
    simp only [trs] at h
    simp only [evs, evl]
    cases as with
    | nil => exact ⟨many_nil, rfl⟩
    | cons _ _ => cases h
  | .cons x xs, sc, fnB, Y, X, as, g, h => by
    simp only [trs] at h
    split at h
    · obtain ⟨h, h3⟩ := andB h
      obtain ⟨h1, h2⟩ := andB h
      simp only [evs, evl]
      obtain ⟨m1, m2⟩ := many xs g h3
      exact ⟨many_cons g m2 (both x g h2) m1 h1, by rw [List.length_cons, List.length_cons, m2]⟩
    · cases h
  | .star x xs, sc, fnB, Y, X, as, g, h => by
    simp only [trs] at h
    split at h
    · obtain ⟨h2, h3⟩ := andB h
      simp only [evs, evl]
      obtain ⟨m1, m2⟩ := many xs g h3
      exact ⟨many_star g (both x g h2) m1, by rw [List.length_cons, List.length_cons, m2]⟩
    · cases h
theorem part : ∀ (o : Ep) {sc : Scope} {fnB : Str → Bool} {Y : Env} {X : Cx} {oe : Option Expr}, Good q T Z k sc fnB Y X → trp q o sc fnB oe = true → PO X oe (tO Y (evp T o))
  | .no, sc, fnB, Y, X, oe, g, h => by
    simp only [trp] at h
    simp only [evp]
    cases oe with
    | none => exact po_none
    | some _ => cases h
  | .yes x, sc, fnB, Y, X, oe, g, h => by
    simp only [trp] at h
    simp only [evp]
    split at h
    · exact po_some (both x g h).v
    · cases h
theorem tests : ∀ (o : Ep) {sc : Scope} {fnB : Str → Bool} {Y : Env} {X : Cx} {ifs : List Expr}, Good q T Z k sc fnB Y X → tro q o sc fnB ifs = true → PTs X ifs (tRT Y (tstO (evo T o)))
  | .no, sc, fnB, Y, X, ifs, g, h => by
    simp only [tro] at h
    simp only [evo]
    cases ifs with
    | nil => exact pts_weak pts_nil fun σ H Q ⟨sl, φ, cs, rs, w, ok⟩ => OkG.now ok w rfl
    | cons _ _ => cases h
  | .yes x, sc, fnB, Y, X, ifs, g, h => by
    simp only [tro] at h
    simp only [evo]
    split at h
    · exact pts_one (both x g h).t
    · cases h
theorem iters : ∀ (s : Sr) {sc : Scope} {fnB : Str → Bool} {Y : Env} {X : Cx} {tg e : Expr}, Good q T Z k sc fnB Y X → tri q s sc fnB tg e = true → PI X tg e (tIt Y (evi T s))
  | .seq a, sc, fnB, Y, X, tg, e, g, h => by
    simp only [tri] at h
    simp only [evi]
    exact pi_seqD g.yK (both a g h).v
  | .rng1 a, sc, fnB, Y, X, tg, e, g, h => by
    simp only [tri] at h
    split at h
    · obtain ⟨h, h4⟩ := andB h
      obtain ⟨h, h3⟩ := andB h
      obtain ⟨h1, h2⟩ := andB h
      simp only [decide_eq_true_eq] at h1
      subst h1
      simp only [evi]
      exact pi_rng1D (g.gl h2).g (g.blt "range" (by decide +kernel)) (both a g h4).v (nst_star h3 _ _)
    · cases h
  | .rng2 a b, sc, fnB, Y, X, tg, e, g, h => by
    simp only [tri] at h
    split at h
    · obtain ⟨h, h6⟩ := andB h
      obtain ⟨h, h5⟩ := andB h
      obtain ⟨h, h4⟩ := andB h
      obtain ⟨h, h3⟩ := andB h
      obtain ⟨h1, h2⟩ := andB h
      simp only [decide_eq_true_eq] at h1
      subst h1
      simp only [evi]
      exact pi_rng2D (g.gl h2).g (g.blt "range" (by decide +kernel)) (both a g h5).v (both b g h6).v ((nst_star h3 [_] X.env).trans (congrArg _ (nst_star h4 [] X.env))) (nst_star h4 _ _)
    · cases h
  | .zip a b, sc, fnB, Y, X, tg, e, g, h => by
    simp only [tri] at h
    split at h
    · rename_i f p x y pos
      obtain ⟨h, h6⟩ := andB h
      obtain ⟨h, h5⟩ := andB h
      obtain ⟨h, h4⟩ := andB h
      obtain ⟨h, h3⟩ := andB h
      obtain ⟨h1, h2⟩ := andB h
      simp only [decide_eq_true_eq] at h1
      subst h1
      simp only [evi]
      have s2 := nst_star h4 [] X.env
      have s1 := nst_star h3 [y] X.env
      have s1' := s1.trans (congrArg _ s2)
      exact pi_zipD g.yK (g.gl h2).g (g.blt "zip" (by decide +kernel)) (both a g h5).v (both b g h6).v s1' s2 (pi_zipG (g.gl h2).g (g.blt "zip" (by decide +kernel)) (pa_cons (both a g h5).v (pa_cons (both b g h6).v pa_nil s2) s1) s1 (nsts_flags (by show (nst _ && true) = true; rw [h4]; rfl)))
    · cases h
end
end
end EV

namespace EV
open PySem PySem.Spec PyProof.Rows L2 ZG
/-! ### statements: whose text it is, and that it does what it says -/
def allF : Str → Bool := fun _ => true
def cmpLine (py : Pos) (e : Expr) : Bool := py.line == e.pos.line
def lcFree (y : Str) : Expr → Bool
  | .ListComp _ _ scope _ => (scope.names.any fun (n, k) => n == y && (k == NameKind.local || k == NameKind.cell)) == false
  | _ => false
def isLc : Expr → Bool
  | .ListComp .. => true
  | _ => false
def isLcE : E → Bool
  | .lc .. => true
  | _ => false
def ntup : Expr → Bool
  | .Tuple .. => false
  | _ => true
def isTup : Expr → Bool
  | .Tuple .. => true
  | _ => false
def isStar : Expr → Bool
  | .Starred .. => true
  | _ => false
def swN (sc : Scope) (ts : List Expr) : List Str := ts.filterMap fun x => match x with
  | .Name id pos => if (sc.names.lookup id == some NameKind.local && pos.line == (ts.head?.map (·.pos.line)).getD 0) = true then some id else none
  | _ => none
def swB (sc : Scope) (tg v : Expr) : Option (Option (List Str)) := if sc.kind = .function then (match tg, v with
  | .Tuple ts _ _, .Tuple vs _ _ => if (!(ts.length == 2 || ts.length == 3) || vs.length != ts.length) = true then some none else if vs.any isStar = true then some none
    else if ((swN sc ts).length != ts.length || (swN sc ts).eraseDups.length != (swN sc ts).length) = true then some none else if vs.all (foldedForSure 8) = true then some none else if vs.all (constantsAlone 8) = true then none else some (some (swN sc ts))
  | _, _ => none) else none
theorem swB_ok {env : PySem.Env} {tg v : Expr} {r : Option (List Str)} (h : swB env.scope tg v = some r) : swappedStores [tg] v env = pure r := by
  unfold swB at h
  split at h
  · rename_i hk
    have bk : env.blockKind = .function := by
      unfold PySem.Env.blockKind
      rw [hk]
      rfl
    split at h
    · rename_i ts k1 p1 vs k2 p2
      unfold swappedStores
      dsimp only
      rw [bk]
      have e1 : (vs.any fun x => match x with | .Starred value pos => true | x => false) = vs.any isStar := by
        first | rfl | (congr 1; funext x; cases x <;> rfl)
      have e2 : (List.filterMap (fun x => match x with
              | .Name id pos => if (env.kindOf id == some NameKind.local && pos.line == (ts.head?.map (·.pos.line)).getD 0) = true then some id else none
              | x => none) ts) = swN env.scope ts := rfl
      split at h
      · rename_i c
        cases h
        rw [if_pos (by simp only [Bool.or_eq_true] at c ⊢; exact .inl c)]
      · rename_i c
        rw [if_neg (by simp only [Bool.or_eq_true] at c ⊢; rintro (h | h); exact c h; cases h)]
        split at h
        · rename_i c2
          cases h
          exact if_pos (e1.trans c2)
        · rename_i c2
          refine (if_neg (fun z => c2 (e1.symm.trans z))).trans ?_
          split at h
          · rename_i c3
            cases h
            exact if_pos c3
          · rename_i c3
            refine (if_neg c3).trans ?_
            split at h
            · rename_i c4
              cases h
              exact if_pos c4
            · rename_i c4
              refine (if_neg c4).trans ?_
              split at h
              · cases h
              · rename_i c5
                cases h
                exact if_neg c5
    · cases h
  · cases h
/-- a pair or a triple that is stored at once -/
def parB (N : List Str) (sc : Scope) (t : Tg) (E0 : E) (tg v : Expr) : Bool := match t, E0, tg, v with
  | .tp [i, j], .tup _, .Tuple [.Name x _, .Name y _] _ _, .Tuple [_, _] _ _ => decide (N[i]? = some x) && decide (N[j]? = some y) && decide (i ≠ j) && decide (sc.names.lookup x = some .local) && decide (sc.names.lookup y = some .local) && decide (swB sc tg v = some (some [x, y]))
  | .tp [i, j, l], .tup _, .Tuple [.Name x _, .Name y _, .Name z _] _ _, .Tuple [_, _, _] _ _ => decide (N[i]? = some x) && decide (N[j]? = some y) && decide (N[l]? = some z) && decide (i ≠ j) && decide (i ≠ l) && decide (j ≠ l) &&
      decide (sc.names.lookup x = some .local) && decide (sc.names.lookup y = some .local) && decide (sc.names.lookup z = some .local) && decide (swB sc tg v = some (some [x, y, z]))
  | _, _, _, _ => false
mutual
def trS (q : TrQ) : S → Scope → Stmt → Bool
  | .expr e, sc, st => match st with
    | .Expr x _ => ncomp x && tr q e sc allF x
    | _ => false
  | .doc, _, st => match st with
    | .Expr (.Constant (.str _) _ _) _ => true
    | _ => false
  | .pas, _, st => match st with
    | .Pass _ => true
    | _ => false
  | .cont, _, st => match st with
    | .Continue _ => true
    | _ => false
  | .brk, _, st => match st with
    | .Break _ => true
    | _ => false
  | .ret e, sc, st => match st with
    | .Return (some x) _ => tr q e sc allF x
    | _ => false
  | .retN, _, st => match st with
    | .Return none _ => true
    | _ => false
  | .ite c a b, sc, st => match st with
    | .If x as bs _ => tr q c sc allF x && trSs q a sc as && trSs q b sc bs
    | _ => false
  | .set i e, sc, st => match st with
    | .Assign [.Name x p] v _ => decide (q.N[i]? = some x) && locB sc allF x && tr q e sc allF v &&
        (ncomp v || (isLcE e && isLc v && decide (sc.names.lookup x = some .local) && (sc.kind == .function) && cmpLine p v && lcFree x v) || (decide (sc.names.lookup x = some .cell)))
    | _ => false
  | .asg t e, sc, st => match st with
    | .Assign [tg] v _ => isTup tg && (((ntup v || decide (swB sc tg v = some none)) && trT q.N sc allF t tg) || parB q.N sc t e tg v) && tr q e sc allF v
    | _ => false
  | .sub o i e, sc, st => match st with
    | .Assign [.Subscript x y _] v _ => nslice y && tr q o sc allF x && tr q i sc allF y && tr q e sc allF v
    | _ => false
  | .for t s b, sc, st => match st with
    | .For tg iter body [] _ => nset iter && trT q.N sc allF t tg && tri q s sc allF tg iter && trSs q b sc body
    | _ => false
  | .while _ c b, sc, st => match st with
    | .While x body [] _ => tr q c sc allF x && trSs q b sc body
    | _ => false
  | .raise c, sc, st => match st with
    | .Raise (some (.Call (.Name x _) [.Constant (.str _) _ _] [] _)) none _ => decide (cnames[c]? = some x) && q.ci.rz c && glB sc x
    | _ => false
  | .sfld k o e, sc, st => match st with
    | .Assign [.Attribute x n _] v _ => decide (fnames[k]? = some n) && tr q o sc allF x && tr q e sc allF v
    | _ => false
  | .nev, _, _ => true
def trSs (q : TrQ) : Ss → Scope → List Stmt → Bool
  | .nil, _, sts => sts.isEmpty
  | .cons s ss, sc, sts => match sts with
    | st :: sts => trS q s sc st && trSs q ss sc sts
    | _ => false
end
section
variable {q : TrQ} {T : Tb} {Z : Gnd} {k : Nat} {sc : Scope} {Y : Env} {X : Cx}
theorem set_lc (g : Good q T Z k sc allF Y X) {i : Nat} {x : Str} {p spos : Pos} {E0 : E} {v : Expr} (hE : isLcE E0 = true) (hv : isLc v = true) (hi : q.N[i]? = some x) (hx : sc.names.lookup x = some .local) (hk : sc.kind = .function) (hl : cmpLine p v = true) (hf : lcFree x v = true)
    (h : tr q E0 sc allF v = true) : PS X (.Assign [.Name x p] v spos) (tS Y (setS i (ev T E0).v)) := by
  cases E0 <;> try cases hE
  rename_i own vs t s c elt
  simp only [tr] at h
  split at h
  · rename_i el tg iter ifs isa scope pos
    obtain ⟨h, h8⟩ := andB h
    obtain ⟨h, h7⟩ := andB h
    obtain ⟨h, h6⟩ := andB h
    obtain ⟨h, h5⟩ := andB h
    obtain ⟨h, h4⟩ := andB h
    obtain ⟨h, h3⟩ := andB h
    obtain ⟨h1, h2⟩ := andB h
    simp only [decide_eq_true_eq] at h1
    obtain ⟨h1, h0⟩ := h1
    subst h1
    simp only [ev]
    have hv : (ownOf q.N vs).map (fun x => x.2) = vs := by
      unfold ownOf
      rw [List.map_map]
      exact List.map_id'' (fun _ => rfl) vs
    have P := ps_setLc (i := i) (py := p) (spos := spos) (pos := pos) (g := gTg X.K t) (tt := fun σ H Q => ∃ D, tRT (Y.hide D) (tstO (evo T c)) σ H Q) (te := fun σ H Q => ∃ D, tR (Y.hide D) (ev T elt).v σ H Q) g.calm g.nd (by rw [g.hN]; exact hi) (by rw [g.hsc]; exact hx)
      (sw_true (by rw [g.hsc]; exact hk) (by rw [g.hsc]; exact hx) hl (by simpa [lcFree] using hf)) (iters s g (tg := tg) h6) (blkOk_by (own := ownOf q.N vs) (by rw [g.hN, g.hsc]; exact h2))
      (fun s' H C cl fp => trT_pg (g.blk 0 scope h0 s' H C cl fp) h5) (fun s' H C cl fp => ⟨fun pins s'' σ H' Q I ⟨D, w⟩ => (tests c (g.blk D scope h0 s' H C cl fp) h7).run pins s'' σ H' Q I w⟩)
      (fun s' H C cl fp => ⟨fun pins s'' σ H' Q I ⟨D, w⟩ => (both elt (g.blk D scope h0 s' H C cl fp) h8).v.run pins s'' σ H' Q I w⟩) (fun x => nset_fold h3 _ x)
    rw [hv] at P
    exact ps_weak P fun E σ H w => tAsg_D (fun σ H Q w => lc_read g.yK (fun D σ H Q w => ⟨D, w⟩) (fun D σ H Q w => ⟨D, w⟩) (fun i hi => by
        have := List.all_eq_true.mp h4 i hi
        simpa using this) w) w
  · cases h
theorem sw_cell {v : Expr} {env : PySem.Env} {x : Str} {p : Pos} {l : Nat} (h : env.scope.names.lookup x = some .cell) : swapsWith v (some (.Name x p)) l env = pure false := by
  unfold swapsWith
  dsimp only
  split
  · rename_i scope _
    have : (env.kindOf x == some NameKind.local) = false := by
      show (env.scope.names.lookup x == some NameKind.local) = false
      rw [h]
      rfl
    rw [this]
    simp
  · rfl
theorem swap_not {tg v : Expr} {env : PySem.Env} (h : ntup v = true) : swappedStores [tg] v env = pure none := by
  unfold swappedStores
  cases v <;> first | (cases tg <;> rfl) | cases h
theorem par_read {is : List Nat} {A : Slots → Cells → RsG (List D)} {ta : TA} (i0 : ∀ σ H Q, tRA Y A σ H Q → ta σ H Q) {D0 : Ends} {σ : L2.St} {H : Hp} (h : tS Y (asgS (.tp is) fun sl cs => (A sl cs).bind mkT) D0 σ H) :
    ta σ H fun vs H1 => vs.length = is.length ∧ D0.nx (setAllV is vs σ) H1 := by
  obtain ⟨sl, φ, cs, rs, w, ok⟩ := h
  unfold asgS at ok
  simp only [RsG.bind_assoc] at ok
  refine i0 _ _ _ (tG.first rs w ok fun φ1 cs1 ds xs H1 e1 rs1 w1 q1 ok1 => ?_)
  unfold mkT at ok1
  split at ok1
  · dsimp only [RsG.bind] at ok1
    unfold setTg at ok1
    dsimp only at ok1
    split at ok1
    · rename_i sl' he
      split at he
      · rename_i hl
        cases he
        exact ⟨by rw [q1.length]; exact hl, ok1 (.nx _) φ1 H1 (.refl _ _ _ _) w1 (rs1.setAll q1)⟩
      · cases he
    · exact (OkG.nope ok1).elim
  · exact (OkG.nope ok1).elim
theorem len2 {α : Type} {l : List α} (h : l.length = 2) : ∃ a b, l = [a, b] := match l, h with
  | [a, b], _ => ⟨a, b, rfl⟩
theorem len3 {α : Type} {l : List α} (h : l.length = 3) : ∃ a b c, l = [a, b, c] := match l, h with
  | [a, b, c], _ => ⟨a, b, c, rfl⟩
theorem par_ok (g : Good q T Z k sc allF Y X) {t : Tg} {e : E} {tg v : Expr} {pos : Pos} (h : parB q.N sc t e tg v = true) (h5 : tr q e sc allF v = true) : PS X (.Assign [tg] v pos) (tS Y (asgS t (ev T e).v)) := by
  unfold parB at h
  split at h
  · obtain ⟨h, h6⟩ := andB h
    obtain ⟨h, a5⟩ := andB h
    obtain ⟨h, a4⟩ := andB h
    obtain ⟨h, a3⟩ := andB h
    obtain ⟨a1, a2⟩ := andB h
    simp only [decide_eq_true_eq] at a1 a2 a3 a4 a5 h6
    simp only [tr] at h5
    simp only [ev, dft]
    refine ps_weak (ps_par g.calm g.nd (by rw [g.hN]; exact a1) (by rw [g.hN]; exact a2) a3 (by rw [g.hsc]; exact a4) (by rw [g.hsc]; exact a5) (many _ g h5).1.a (swB_ok (by rw [g.hsc]; exact h6)) rfl) fun D0 σ H w => ?_
    refine (many _ g h5).1.a |> fun _ => ?_
    have := par_read (ta := tRA Y (evl T _)) (fun _ _ _ h => h) w
    obtain ⟨sl, φ, cs, rs, w1, ok⟩ := this
    refine ⟨sl, φ, cs, rs, w1, OkG.imp ok fun vs H1 ⟨hl, hn⟩ => ?_⟩
    obtain ⟨a, b, rfl⟩ := len2 hl
    exact ⟨a, b, rfl, hn⟩
  · obtain ⟨h, h6⟩ := andB h
    obtain ⟨h, b3⟩ := andB h
    obtain ⟨h, b2⟩ := andB h
    obtain ⟨h, b1⟩ := andB h
    obtain ⟨h, c3⟩ := andB h
    obtain ⟨h, c2⟩ := andB h
    obtain ⟨h, c1⟩ := andB h
    obtain ⟨h, a3⟩ := andB h
    obtain ⟨a1, a2⟩ := andB h
    simp only [decide_eq_true_eq] at a1 a2 a3 b1 b2 b3 c1 c2 c3 h6
    simp only [tr] at h5
    simp only [ev, dft]
    refine ps_weak (ps_par3 g.calm g.nd (by rw [g.hN]; exact a1) (by rw [g.hN]; exact a2) (by rw [g.hN]; exact a3) c1 c2 c3 (by rw [g.hsc]; exact b1) (by rw [g.hsc]; exact b2) (by rw [g.hsc]; exact b3) (many _ g h5).1.a (swB_ok (by rw [g.hsc]; exact h6)) rfl) fun D0 σ H w => ?_
    have := par_read (ta := tRA Y (evl T _)) (fun _ _ _ h => h) w
    obtain ⟨sl, φ, cs, rs, w1, ok⟩ := this
    refine ⟨sl, φ, cs, rs, w1, OkG.imp ok fun vs H1 ⟨hl, hn⟩ => ?_⟩
    obtain ⟨a, b, c, rfl⟩ := len3 hl
    exact ⟨a, b, c, rfl, hn⟩
  · cases h
theorem sub_set {oe ie : Expr} {tpos : Pos} {env : PySem.Env} (h : nslice ie = true) (v : Value) : assign (.Subscript oe ie tpos) env v = (do
      let ov ← holding [v] (eval oe env)
      let iv ← holding [v, ov] (eval ie env)
      standAt tpos
      holding [v, ov, iv] (setItem ov iv v)
      release [v, ov, iv] []) := by
  cases ie <;> first | rfl | cases h
theorem sub_swap {oe ie v : Expr} {tpos : Pos} {env : PySem.Env} : swappedStores [.Subscript oe ie tpos] v env = pure none := by
  cases v <;> rfl
theorem sole_swap {t v : Expr} {l : Nat} {env : PySem.Env} (h : ncomp v = true) : swapsWithSole [t] v l env = pure false := ncomp_swap h (some t) l env
theorem ps_noneD {st : Stmt} : PS X st (tS Y fun _ _ => none) := ⟨fun _ _ _ _ _ _ ⟨_, _, _, _, _, ok⟩ => (OkG.nope ok).elim⟩
theorem sw_attr (v x : Expr) (n : Str) (p' : Pos) (l : Nat) (env : PySem.Env) : swapsWith v (some (.Attribute x n p')) l env = pure false := by
  unfold swapsWith
  cases v <;> first | rfl | simp
theorem sw_tup (v : Expr) (ts : List Expr) (k : _) (p : Pos) (l : Nat) (env : PySem.Env) : swapsWith v (some (.Tuple ts k p)) l env = pure false := by
  unfold swapsWith
  cases v <;> first | rfl | simp
theorem sw_sub (v x y : Expr) (p' : Pos) (l : Nat) (env : PySem.Env) : swapsWith v (some (.Subscript x y p')) l env = pure false := by
  unfold swapsWith
  cases v <;> first | rfl | simp
theorem sw_subS (v x y : Expr) (p' : Pos) (l : Nat) (env : PySem.Env) : swapsWithSole [.Subscript x y p'] v l env = pure false := sw_sub v x y p' l env
mutual
theorem stm : ∀ (s : S) {st : Stmt}, Good q T Z k sc allF Y X → PassesOwn (model X.prog X.w) X.A X.env X.xe → trS q s sc st = true → PS X st (tS Y (rn T s))
  | .expr e, st, g, hp, h => by
    simp only [trS] at h
    split at h
    · obtain ⟨h1, h2⟩ := andB h
      simp only [rn]
      exact ps_exprD (both e g h2).v (ncomp_swap h1 _ _ _)
    · cases h
  | .doc, st, g, hp, h => by
    simp only [trS] at h
    split at h
    · simp only [rn]
      exact ps_docD
    · cases h
  | .pas, st, g, hp, h => by
    simp only [trS] at h
    split at h
    · simp only [rn]
      exact ps_passD
    · cases h
  | .cont, st, g, hp, h => by
    simp only [trS] at h
    split at h
    · simp only [rn]
      exact ps_contD
    · cases h
  | .brk, st, g, hp, h => by
    simp only [trS] at h
    split at h
    · simp only [rn]
      exact ps_brkD
    · cases h
  | .ret e, st, g, hp, h => by
    simp only [trS] at h
    split at h
    · simp only [rn]
      exact ps_retD (both e g h).v
    · cases h
  | .retN, st, g, hp, h => by
    simp only [trS] at h
    split at h
    · simp only [rn]
      exact ps_retND
    · cases h
  | .ite c a b, st, g, hp, h => by
    simp only [trS] at h
    split at h
    · obtain ⟨h, h3⟩ := andB h
      obtain ⟨h1, h2⟩ := andB h
      simp only [rn]
      exact ps_ifD (both c g h1).t (stms a g hp h2) (stms b g hp h3)
    · cases h
  | .set i e, st, g, hp, h => by
    simp only [trS] at h
    split at h
    · rename_i x p v spos
      obtain ⟨h, h4⟩ := andB h
      obtain ⟨h, h3⟩ := andB h
      obtain ⟨h1, h2⟩ := andB h
      simp only [decide_eq_true_eq] at h1
      obtain ⟨l1, l2⟩ := locB_loc h2
      simp only [rn]
      simp only [Bool.or_eq_true] at h4
      rcases h4 with (h4 | h4) | h4
      · exact ps_setD g.nd (by rw [g.hN]; exact h1) (by rw [g.hsc]; exact l1) (both e g h3).v (ncomp_swap h4 _ _ _) (by rw [g.hfn, g.hsc]; exact l2)
      · obtain ⟨h4, a6⟩ := andB h4
        obtain ⟨h4, a5⟩ := andB h4
        obtain ⟨h4, a4⟩ := andB h4
        obtain ⟨h4, a3⟩ := andB h4
        obtain ⟨a1, a2⟩ := andB h4
        simp only [decide_eq_true_eq] at a3
        exact set_lc g a1 a2 h1 a3 (by simpa using a4) a5 a6 h3
      · simp only [decide_eq_true_eq] at h4
        exact ps_setD g.nd (by rw [g.hN]; exact h1) (by rw [g.hsc]; exact l1) (both e g h3).v (sw_cell (by rw [g.hsc]; exact h4)) (by rw [g.hfn, g.hsc]; exact l2)
    · cases h
  | .asg t e, st, g, hp, h => by
    simp only [trS] at h
    split at h
    · rename_i tg v spos
      obtain ⟨h, h5⟩ := andB h
      obtain ⟨h1, h4⟩ := andB h
      have h3 : swapsWithSole [tg] v spos.line X.env = pure false := by
        show swapsWith v (some tg) spos.line X.env = pure false
        cases tg
        case Tuple => exact sw_tup v _ _ _ spos.line X.env
        all_goals cases h1
      simp only [rn]
      simp only [Bool.or_eq_true] at h4
      rcases h4 with h4 | h4
      · obtain ⟨h2, h4⟩ := andB h4
        refine ps_asgD g.yK (both e g h5).v (trT_pg g h4) h3 ?_ ?_
        · simp only [Bool.or_eq_true, decide_eq_true_eq] at h2
          rcases h2 with h2 | h2
          · exact swap_not h2
          · exact swB_ok (by rw [g.hsc]; exact h2)
        · cases tg <;> first | rfl | cases h1
      · exact par_ok g h4 h5
    · cases h
  | .sub o i e, st, g, hp, h => by
    simp only [trS] at h
    split at h
    · obtain ⟨h, h5⟩ := andB h
      obtain ⟨h, h4⟩ := andB h
      obtain ⟨h1, h3⟩ := andB h
      simp only [rn]
      exact ps_subD (both e g h5).v (both o g h3).v (both i g h4).v (sub_set h1) (sw_subS _ _ _ _ _ _) sub_swap rfl
    · cases h
  | .for t s b, st, g, hp, h => by
    simp only [trS] at h
    split at h
    · obtain ⟨h, h4⟩ := andB h
      obtain ⟨h, h3⟩ := andB h
      obtain ⟨h1, h2⟩ := andB h
      simp only [rn]
      exact ps_forD g.yK hp g.calm (iters s g h3) (trT_pg g h2) (stms b g hp h4) (fun x => nset_fold h1 _ x)
    · cases h
  | .while n c b, st, g, hp, h => by
    simp only [trS] at h
    split at h
    · obtain ⟨h1, h2⟩ := andB h
      simp only [rn]
      exact ps_whileD hp (both c g h1).t (stms b g hp h2) n
    · cases h
  | .raise c, st, g, hp, h => by
    simp only [trS] at h
    split at h
    · obtain ⟨h, h2⟩ := andB h
      obtain ⟨h1, h3⟩ := andB h
      simp only [decide_eq_true_eq] at h1
      obtain ⟨C, m1, m0, m2, m3, m4, m5⟩ := g.exc c _ h3 h1
      have gg := g.gl h2
      simp only [rn]
      exact ps_raiseD g.yK m0 g.calm g.takes m2 m1 m3 m4 m5 gg.g gg.d
    · cases h
  | .sfld k o e, st, g, hp, h => by
    simp only [trS] at h
    split at h
    · rename_i x n p' v pos
      obtain ⟨h, h3⟩ := andB h
      obtain ⟨h1, h2⟩ := andB h
      simp only [decide_eq_true_eq] at h1
      obtain ⟨lt, e1⟩ := List.getElem?_eq_some_iff.mp h1
      subst e1
      simp only [rn]
      have P := ps_sfldD (k := k) (pos := pos) (p' := p') g.yK g.cl.fl (both e g h3).v (both o g h2).v (sw_attr _ _ _ _ _ _)
      rw [fstr_at lt] at P
      exact P
    · cases h
  | .nev, st, g, hp, h => by
    simp only [rn]
    exact ps_noneD
theorem stms : ∀ (ss : Ss) {sts : List Stmt}, Good q T Z k sc allF Y X → PassesOwn (model X.prog X.w) X.A X.env X.xe → trSs q ss sc sts = true → PSs X sts (tS Y (rns T ss))
  | .nil, sts, g, hp, h => by
    simp only [trSs] at h
    cases sts with
    | nil =>
      simp only [rns]
      exact pss_nilD
    | cons _ _ => cases h
  | .cons s ss, sts, g, hp, h => by
    simp only [trSs] at h
    split at h
    · obtain ⟨h1, h2⟩ := andB h
      simp only [rns]
      exact pss_consD (stm s g hp h1) (stms ss g hp h2)
    · cases h
end
end
end EV

namespace EV
open PySem PySem.Spec PyProof.Rows L2 ZG
/-! ### a table of defs -/
structure Df where
  x : Str
  qual : Str
  st : Stmt
  N : List Str
  ps : List Str
  gc : Bool
  body : Ss
  cl : Option (Nat × Nat) := none
noncomputable def semT (ds : List Df) (con : Nat → D) (ci : Ci) : Nat → Nat → List D → Cells → Rs
  | 0, _ => fun _ _ => none
  | n + 1, i => match ds[i]? with
    | some d => semOf d.ps.length d.N.length d.gc (rns ⟨semT ds con ci n, con, ci⟩ d.body)
    | none => fun _ _ => none
def glName (d : Df) : Option Str := if d.cl.isNone = true then some d.x else none
def trqOf (ds : List Df) (cons : List Str) (ci : Ci) (N : List Str) : TrQ := ⟨N, fun i => (ds[i]?).bind glName, fun i => cons[i]?, ci, false, false⟩
def dfOk (ds : List Df) (cons : List Str) (ci : Ci) (d : Df) : Bool := trSs (trqOf ds cons ci d.N) d.body (defScope d.st) (defBody d.st)
def scB (N ps : List Str) (sc : Scope) : Bool := (sc.kind == .function) && !sc.isCoroutine && !sc.isGenerator && decide N.Nodup && decide (N.take ps.length = ps) && ps.all (fun x => decide (sc.names.lookup x = some .local) || decide (sc.names.lookup x = some .cell)) && sc.names.all (fun y => y.2 != .free)
theorem scB_ok {N ps : List Str} {sc : Scope} (h : scB N ps sc = true) : FnScope N ps sc := by
  unfold scB at h
  obtain ⟨h, h7⟩ := andB h
  obtain ⟨h, h6⟩ := andB h
  obtain ⟨h, h5⟩ := andB h
  obtain ⟨h, h4⟩ := andB h
  obtain ⟨h, h3⟩ := andB h
  obtain ⟨h1, h2⟩ := andB h
  simp only [decide_eq_true_eq] at h4 h5
  refine ⟨by simpa using h1, by simpa using h2, by simpa using h3, h4, h5, fun x hx => ?_, fun y hy => ?_⟩
  · have := List.all_eq_true.mp h6 x hx
    simpa using this
  · have := List.all_eq_true.mp h7 y hy
    simpa using this
/-! ### the classes, as lists -/
/-- a class: its number, what makes it (an own __init__: its place in the table), its attributes, its methods with their places -/
structure Kl where
  c : Nat
  ini : Option Nat
  fl : List Nat
  mt : List (Nat × Nat)
def klAt (l : List Kl) (c : Nat) : Option Kl := l.find? fun k => k.c == c
def ciOf (l : List Kl) (rz : List Nat) (hwT : List (Nat × Str) := []) : Ci where
  mt := fun c j => (klAt l c).bind fun k => k.mt.lookup j
  ini := fun c => (klAt l c).map fun k => k.ini
  fl := fun c k => ((klAt l c).map fun kl => kl.fl.contains k).getD false
  kn := fun c => (l.map Kl.c).contains c
  rz := fun c => rz.contains c
  hw := fun c => hwT.lookup c
/-- what is looked at in the table -/
def klsB (ds : List Df) (l : List Kl) : Bool := l.all fun k => decide (k.c < cnames.length) && (match k.ini with
    | some i => match ds[i]? with
      | some d => decide (d.cl = some (k.c, 1))
      | none => false
    | none => true) && k.mt.all fun p => match ds[p.2]? with
      | some d => decide (d.cl = some (k.c, p.1))
      | none => false
/-- what is looked at in the program's top -/
def ciB (K : PySem.W.Frag) (l : List Kl) (rz : List Nat) : Bool := (l.all fun k => match clsA K k.c with
    | some C => clB K C && PySem.W.makesIn K C && PySem.W.keepIn K (.ref C) && (k.fl.all fun f => decide (PySem.W.findIn K (.ref C) (fstr f) = some none) && decide (f < fnames.length)) &&
      (k.ini.isSome || decide (PySem.W.findIn K (.ref C) "__init__" = some (some (.builtin "object.__init__"))))
    | none => false) && kdB K (l.map Kl.c) && rz.all fun c => match clsA K c with
    | some C => PySem.W.excIn K C [.type "ValueError", .type "Exception", .type "BaseException", .type "object"] "ValueError.__new__" && PySem.W.keepIn K (.ref C) && decide (PySem.W.subIn K (.ref C) (.type "BaseException") = some true) && decide (PySem.W.typeIn K (.ref C) = some (.type "type"))
    | none => false
theorem fstr_one : fstr 1 = "__init__" := by decide +kernel
section
variable {P : Program} {w : World} {mg : Str → Option Value} {base : Heap}
/-- what is known of a def of the table -/
def DfFact (K : PySem.W.Frag) (mg : Str → Option Value) (d : Df) (f : Addr) (fd : FuncData) : Prop := Fun K d.x d.qual d.st f fd ∧ L2.Binds K fd d.ps [] ∧ match d.cl with
  | none => mg d.x = some (.ref f)
  | some (c, j) => ∃ C, clsA K c = some C ∧ Meth K C (fstr j) f ∧ j < fnames.length
structure TOk (Z : Gnd) (mg : Str → Option Value) (ds : List Df) (cons : List Str) (con : Nat → D) (l : List Kl) (rz : List Nat) (hwT : List (Nat × Str)) : Prop where
  fn : ∀ (i : Nat) (d : Df), ds[i]? = some d → ∃ f fd, DfFact Z.K mg d f fd
  ok : ds.all (fun d => scB d.N d.ps (defScope d.st) && dfOk ds cons (ciOf l rz hwT) d) = true
  kls : klsB ds l = true
  blt : ∀ n ∈ allNames, mg (n : Str) = none
  cons : ∀ i x, cons[i]? = some x → ∃ u v, mg x = some u ∧ RelV v u ∧ ∀ φ G, R Z.K φ G (con i) v
  ci : ciB Z.K l rz = true
  at_ : ∀ c C x, cnames[c]? = some x → clsA Z.K c = some C → mg x = some (.ref C)
theorem klAt_mem {l : List Kl} {c : Nat} {k : Kl} (h : klAt l c = some k) : k ∈ l ∧ k.c = c := by
  unfold klAt at h
  refine ⟨List.mem_of_find?_eq_some h, ?_⟩
  have := List.find?_some h
  simpa using this
def Lev (P : Program) (w : World) (base : Heap) (Z : Gnd) (mg : Str → Option Value) (ds : List Df) (con : Nat → D) (ci : Ci) (n : Nat) : Prop :=
  ∀ (i : Nat) (d : Df), ds[i]? = some d → ∃ f fd, FnOk P w Z.K mg base (L2.CX P w) (2 * n) f fd d.ps (spD Z (semT ds con ci n i)) ∧ DfFact Z.K mg d f fd
theorem mem_lookup {α : Type} {j : Nat} {x : α} : ∀ {l : List (Nat × α)}, l.lookup j = some x → (j, x) ∈ l
  | [], h => by simp at h
  | (k, y) :: l, h => by
    simp only [List.lookup] at h
    split at h
    · rename_i e
      cases h
      rw [beq_iff_eq.mp e]
      exact List.mem_cons_self
    · exact List.mem_cons_of_mem _ (mem_lookup h)
theorem good_of {Z : Gnd} {ds : List Df} {cons : List Str} {con : Nat → D} {l : List Kl} {rz : List Nat} {hwT : List (Nat × Str)} (T : TOk Z mg ds cons con l rz hwT) {n : Nat} (L : Lev P w base Z mg ds con (ciOf l rz hwT) n) {d : Df} (S : FnScope d.N d.ps (defScope d.st))
    {f : Addr} {cdv : Value} {A : Around} {outer : List PySem.Env} {s : Shared} {H : Hp} {E : XK} {hd : List Addr} (r : Room (2 * n + 1) (A.deeper (envOfC d.qual (defScope d.st) s.heap.objs.size f cdv))) :
    Good (trqOf ds cons (ciOf l rz hwT) d.N) ⟨semT ds con (ciOf l rz hwT) n, con, ciOf l rz hwT⟩ Z (2 * n) (defScope d.st) allF (Z.env E hd) (cxOf (L2.CX P w) P w Z.K mg base d.N d.qual (defScope d.st) f cdv A outer s H E) := by
  have hci := T.ci
  unfold ciB at hci
  obtain ⟨hci, c3⟩ := andB hci
  obtain ⟨c1, c2⟩ := andB hci
  have hk := T.kls
  unfold klsB at hk
  have kl : ∀ k ∈ l, ∃ C, clsA Z.K k.c = some C ∧ Cls Z.K C ∧ PySem.W.makesIn Z.K C = true ∧ PySem.W.keepIn Z.K (.ref C) = true ∧ (∀ f ∈ k.fl, NoAttr Z.K C (fstr f) ∧ f < fnames.length) ∧ (k.ini = none → PySem.W.findIn Z.K (.ref C) "__init__" = some (some (.builtin "object.__init__"))) := by
    intro k hm
    have h := List.all_eq_true.mp c1 k hm
    cases hC : clsA Z.K k.c with
    | none => rw [hC] at h; cases h
    | some C =>
      rw [hC] at h
      dsimp only at h
      obtain ⟨h, h5⟩ := andB h
      obtain ⟨h, h4⟩ := andB h
      obtain ⟨h, h3⟩ := andB h
      obtain ⟨h1, h2⟩ := andB h
      refine ⟨C, rfl, clB_ok h1, h2, h3, fun f hf => ?_, fun e => ?_⟩
      · have := List.all_eq_true.mp h4 f hf
        rw [Bool.and_eq_true, decide_eq_true_eq, decide_eq_true_eq] at this
        exact this
      · rw [e] at h5
        simpa using h5
  refine ⟨rfl, rfl, rfl, r, S.nd, rfl, rfl, rfl, takes_of rfl rfl rfl rfl, T.blt, fun i x h => ?_, T.cons, rfl, fun c x h1 h2 => ?_, ⟨⟨fun c j i C h1 h2 => ?_⟩, fun c x i h1 h2 => ?_, fun c x h1 h2 => ?_, ⟨fun c k C h1 h2 => ?_⟩, kdB_ok c2, fun c x h1 h2 => ?_⟩, (fun z => nomatch z), fun z => nomatch z⟩
  · have h : (ds[i]?).bind glName = some x := h
    cases e : ds[i]? with
    | none => rw [e] at h; cases h
    | some d' =>
      rw [e] at h
      have h : glName d' = some x := h
      unfold glName at h
      split at h
      · rename_i hc
        cases h
        obtain ⟨f, fd, g1, F, B, m⟩ := L i d' e
        cases e2 : d'.cl with
        | some _ => rw [e2] at hc; cases hc
        | none =>
          rw [e2] at m
          exact ⟨f, fd, d'.ps, g1, m, F.kp, B⟩
      · cases h
  · have h1 : rz.contains c = true := h1
    have h := List.all_eq_true.mp c3 c (by simpa using h1)
    cases hC : clsA Z.K c with
    | none => rw [hC] at h; cases h
    | some C =>
      rw [hC] at h
      dsimp only at h
      obtain ⟨h, h5⟩ := andB h
      obtain ⟨h, h4⟩ := andB h
      obtain ⟨h2', h3⟩ := andB h
      exact ⟨C, T.at_ c C x h2 hC, hC, h2', h3, of_decide_eq_true h4, of_decide_eq_true h5⟩
  · have h1 : ((klAt l c).bind fun k => k.mt.lookup j) = some i := h1
    cases e : klAt l c with
    | none => rw [e] at h1; cases h1
    | some k =>
      rw [e] at h1
      have h1 : k.mt.lookup j = some i := h1
      obtain ⟨hm, hc⟩ := klAt_mem e
      have h := List.all_eq_true.mp hk k hm
      obtain ⟨_, h⟩ := andB h
      have h := List.all_eq_true.mp h (j, i) (mem_lookup h1)
      dsimp only at h
      cases e2 : ds[i]? with
      | none => rw [e2] at h; cases h
      | some d' =>
        rw [e2] at h
        have h : d'.cl = some (k.c, j) := of_decide_eq_true h
        obtain ⟨f, fd, g1, F, B, m⟩ := L i d' e2
        rw [h] at m
        obtain ⟨C', m1, m2, m3⟩ := m
        rw [hc] at m1
        have m1 := m1.symm.trans h2
        cases m1
        exact ⟨f, fd, d'.ps, g1, m2, B, m3⟩
  · have h1 : ((klAt l c).map fun k => k.ini) = some (some i) := h1
    cases e : klAt l c with
    | none => rw [e] at h1; cases h1
    | some k =>
      rw [e] at h1
      have h1 : some k.ini = some (some i) := h1
      have h1 : k.ini = some i := by simpa using h1
      obtain ⟨hm, hc⟩ := klAt_mem e
      have h := List.all_eq_true.mp hk k hm
      obtain ⟨h, _⟩ := andB h
      obtain ⟨_, h⟩ := andB h
      rw [h1] at h
      dsimp only at h
      obtain ⟨C, k1, k2, k3, k4, k5, k6⟩ := kl k hm
      rw [hc] at k1
      cases e2 : ds[i]? with
      | none => rw [e2] at h; cases h
      | some d' =>
        rw [e2] at h
        have h : d'.cl = some (k.c, 1) := of_decide_eq_true h
        obtain ⟨f, fd, g1, F, B, m⟩ := L i d' e2
        rw [h] at m
        obtain ⟨C', m1, m2, m3⟩ := m
        rw [hc] at m1
        have m1 := m1.symm.trans k1
        cases m1
        rw [fstr_one] at m2
        exact ⟨C, T.at_ c C x h2 k1, ⟨k1, k2, fun k hk => nomatch hk⟩, f, fd, d'.ps, g1, ⟨k3, m2.at_, m2.fn, k4⟩, B⟩
  · have h1 : ((klAt l c).map fun k => k.ini) = some none := h1
    cases e : klAt l c with
    | none => rw [e] at h1; cases h1
    | some k =>
      rw [e] at h1
      have h1 : some k.ini = some none := h1
      have h1 : k.ini = none := by simpa using h1
      obtain ⟨hm, hc⟩ := klAt_mem e
      obtain ⟨C, k1, k2, k3, k4, k5, k6⟩ := kl k hm
      rw [hc] at k1
      exact ⟨C, T.at_ c C x h2 k1, ⟨k1, k2, fun k hk => nomatch hk⟩, k3, k6 h1, k4⟩
  · have h1 : ((klAt l c).map fun kl => kl.fl.contains k).getD false = true := h1
    cases e : klAt l c with
    | none => rw [e] at h1; cases h1
    | some kk =>
      rw [e] at h1
      have h1 : kk.fl.contains k = true := h1
      obtain ⟨hm, hc⟩ := klAt_mem e
      obtain ⟨C', k1, k2, k3, k4, k5, k6⟩ := kl kk hm
      rw [hc] at k1
      have k1 := k1.symm.trans h2
      cases k1
      exact k5 k (by simpa using h1)
  · have h1 : (l.map Kl.c).contains c = true := h1
    have h1 : c ∈ l.map Kl.c := by simpa using h1
    obtain ⟨k, hm, rfl⟩ := List.mem_map.mp h1
    obtain ⟨C, k1, _⟩ := kl k hm
    exact ⟨C, T.at_ _ C x h2 k1, k1⟩
theorem lev {Z : Gnd} {ds : List Df} {cons : List Str} {con : Nat → D} {l : List Kl} {rz : List Nat} {hwT : List (Nat × Str)} (T : TOk Z mg ds cons con l rz hwT) : ∀ n, Lev P w base Z mg ds con (ciOf l rz hwT) n
  | 0 => fun i d h => by
    obtain ⟨f, fd, F⟩ := T.fn i d h
    refine ⟨f, fd, ⟨fun vs H Q E h => ?_, fun A outer s H args us vs Q E _ _ _ _ h => ?_⟩, F⟩
    · obtain ⟨hd, φ, cs, ds, w, ra, ok⟩ := h
      exact (OkG.nope ok).elim
    · obtain ⟨hd, φ, cs, ds, w, ra, ok⟩ := h
      exact (OkG.nope ok).elim
  | n + 1 => fun i d h => by
    obtain ⟨f, fd, F⟩ := T.fn i d h
    have ok := List.all_eq_true.mp T.ok d (List.mem_of_getElem? h)
    obtain ⟨o1, o2⟩ := andB ok
    have S := scB_ok o1
    refine ⟨f, fd, ?_, F⟩
    have e : semT ds con (ciOf l rz hwT) (n + 1) i = semOf d.ps.length d.N.length d.gc (rns ⟨semT ds con (ciOf l rz hwT) n, con, ciOf l rz hwT⟩ d.body) := by
      show (match ds[i]? with | some d => semOf d.ps.length d.N.length d.gc (rns ⟨semT ds con (ciOf l rz hwT) n, con, ciOf l rz hwT⟩ d.body) | none => fun _ _ => none) = _
      rw [h]
    rw [e]
    have := fn_D (k := 2 * n + 1) (gc := d.gc) Z F.1 S fun cdv A outer s H E hd r => stms d.body (good_of T (lev T n) S r) PassesOwn.leaving o2
    exact this
end
end EV

namespace EV
open PySem PySem.Spec PyProof.Rows L2 ZG
/-! ### the end -/
theorem keeps_true : Keeps (fun _ => True) := ⟨fun _ _ _ _ _ => trivial, fun _ _ _ _ _ _ => trivial, fun _ _ _ _ _ _ => trivial, fun _ _ _ _ _ _ _ _ => trivial⟩
def gndT (K : PySem.W.Frag) : Gnd := ⟨K, fun _ => True, keeps_true⟩
def FnFact (K : PySem.W.Frag) (mg : Str → Option Value) (d : Df) : Prop := ∃ f fd, DfFact K mg d f fd
def Facts (K : PySem.W.Frag) (mg : Str → Option Value) : List Df → Prop
  | [] => True
  | d :: ds => FnFact K mg d ∧ Facts K mg ds
theorem facts_at {K : PySem.W.Frag} {mg : Str → Option Value} : ∀ {ds : List Df}, Facts K mg ds → ∀ (i : Nat) (d : Df), ds[i]? = some d → FnFact K mg d
  | [], _, i, d, h => by simp at h
  | _ :: _, f, 0, d, h => by
    cases h
    exact f.1
  | _ :: ds, f, i + 1, d, h => facts_at f.2 i d (by simpa using h)
theorem clsA_of {K : PySem.W.Frag} {c : Nat} {x : Str} {C : Addr} (h : cnames[c]? = some x) (a : PySem.W.nsIn K mainGlobals x = some (some (.ref C))) : clsA K c = some C := by
  unfold clsA
  rw [h]
  dsimp only
  rw [a]
theorem clsA_ns {K : PySem.W.Frag} {c : Nat} {x : Str} {C : Addr} (h : cnames[c]? = some x) (a : clsA K c = some C) : PySem.W.nsIn K mainGlobals x = some (some (.ref C)) := by
  unfold clsA at a
  rw [h] at a
  dsimp only at a
  split at a
  · rename_i C' e
    cases a
    exact e
  · cases a
def Bnd (d : Df) : Prop := ∀ (kV doc pm : Value) (an : Option Addr) (cdv ct : Value) (us : List Value), us.length = d.ps.length → bindArgs (PySem.W.fnOf d.x d.qual (defArgs d.st) (defBody d.st) (defScope d.st) Value.none kV doc pm an cdv ct) { pos := us } = pure (d.ps.zip us)
theorem fact_mk {K : PySem.W.Frag} {h : Heap} {mg : Str → Option Value} (X : K.In h) (G : h.Ns mainGlobals mg) {d : Df} {f : Addr} {oc : Value} {od an : Option Addr} {osl : Array (Option Value)} {kV doc pm cdv ct : Value} (b : Bnd d)
    (hc : d.cl = none) (a0 : PySem.W.nsIn K mainGlobals d.x = some (some (.ref f))) (l0 : K.lookup f = some ⟨oc, od, .func (PySem.W.fnOf d.x d.qual (defArgs d.st) (defBody d.st) (defScope d.st) .none kV doc pm an cdv ct), osl⟩) (c0 : PySem.W.codeIn K cdv d.qual = true) (k0 : PySem.W.keepIn K (.ref f) = true) :
    FnFact K mg d := ⟨f, _, fun_mk l0 c0 k0, (fun_mk (st := d.st) l0 c0 k0).binds b, by rw [hc]; exact PySem.W.mg_of X G a0⟩
theorem fact_mkM {K : PySem.W.Frag} {mg : Str → Option Value} {d : Df} {C f : Addr} {c j : Nat} {x : Str} {oc : Value} {od an : Option Addr} {osl : Array (Option Value)} {kV doc pm cdv ct : Value} (b : Bnd d)
    (hc : d.cl = some (c, j)) (hx : cnames[c]? = some x) (hj : fnames[j]? = some d.x) (aC : PySem.W.nsIn K mainGlobals x = some (some (.ref C))) (a0 : PySem.W.findIn K (.ref C) d.x = some (some (.ref f))) (i0 : PySem.W.isFn K (.ref f) = true)
    (l0 : K.lookup f = some ⟨oc, od, .func (PySem.W.fnOf d.x d.qual (defArgs d.st) (defBody d.st) (defScope d.st) .none kV doc pm an cdv ct), osl⟩) (c0 : PySem.W.codeIn K cdv d.qual = true) (k0 : PySem.W.keepIn K (.ref f) = true) :
    FnFact K mg d := by
  obtain ⟨lt, e⟩ := List.getElem?_eq_some_iff.mp hj
  refine ⟨f, _, fun_mk l0 c0 k0, (fun_mk (st := d.st) l0 c0 k0).binds b, ?_⟩
  rw [hc]
  refine ⟨C, clsA_of hx aC, ⟨?_, i0, k0⟩, lt⟩
  rw [fstr_at lt, e]
  exact a0
def Nones (K : PySem.W.Frag) : List String → Prop
  | [] => True
  | n :: l => PySem.W.nsIn K mainGlobals (n : Str) = some none ∧ Nones K l
theorem nones_at {K : PySem.W.Frag} : ∀ {l : List String}, Nones K l → ∀ n ∈ l, PySem.W.nsIn K mainGlobals (n : Str) = some none
  | [], _, _, h => nomatch h
  | _ :: _, f, n, h => by
    rcases List.mem_cons.mp h with rfl | h
    · exact f.1
    · exact nones_at f.2 n h
/-- constants that are numbers or texts -/
inductive Lit where
  | int (i : Int) | str (x : Str)
def Lit.d : Lit → D
  | .int i => .int i
  | .str x => .str x
def ConFact (mg : Str → Option Value) (x : Str) (c : Lit) : Prop := ∃ u v, mg x = some u ∧ RelV v u ∧ ∀ (K : PySem.W.Frag) φ G, R K φ G c.d v
theorem con_int {K : PySem.W.Frag} {h : Heap} {mg : Str → Option Value} (X : K.In h) (G : h.Ns mainGlobals mg) {x : Str} {i : Int} {t : Tok} (a : PySem.W.nsIn K mainGlobals x = some (some (.int i t))) : ConFact mg x (.int i) := ⟨_, .int i, PySem.W.mg_of X G a, ⟨_, rfl⟩, fun _ _ _ => rfl⟩
def ConFacts (mg : Str → Option Value) : List (Str × Lit) → Prop
  | [] => True
  | p :: l => ConFact mg p.1 p.2 ∧ ConFacts mg l
theorem con_at {mg : Str → Option Value} : ∀ {l : List (Str × Lit)}, ConFacts mg l → ∀ (i : Nat) (p : Str × Lit), l[i]? = some p → ConFact mg p.1 p.2
  | [], _, i, x, h => by simp at h
  | _ :: _, f, 0, x, h => by
    cases h
    exact f.1
  | _ :: l, f, i + 1, x, h => con_at f.2 i x (by simpa using h)
def Lit.i : Lit → Int
  | .int i => i
  | .str _ => 0
def conOf (l : List (Str × Lit)) (i : Nat) : D := ((l[i]?).map fun p => p.2.d).getD .non
theorem tok_mk {K : PySem.W.Frag} {h : Heap} {mg : Str → Option Value} (X : K.In h) (G : h.Ns mainGlobals mg) {ds : List Df} {cs : List (Str × Lit)} {l : List Kl} {rz : List Nat} {hwT : List (Nat × Str)} (F : Facts K mg ds) (ok : ds.all (fun d => scB d.N d.ps (defScope d.st) && dfOk ds (cs.map (·.1)) (ciOf l rz hwT) d) = true) (kls : klsB ds l = true)
    (N : Nones K allNames) (C : ConFacts mg cs) (E : ciB K l rz = true) : TOk (gndT K) mg ds (cs.map (·.1)) (conOf cs) l rz hwT := by
  refine ⟨facts_at F, ok, kls, fun n hn => PySem.W.mg_none_of X G (nones_at N n hn), fun i x hx => ?_, E, fun c C x h1 h2 => PySem.W.mg_of X G (clsA_ns h1 h2)⟩
  have hx : (cs.map (·.1))[i]? = some x := hx
  rw [List.getElem?_map] at hx
  cases e : cs[i]? with
  | none => rw [e] at hx; cases hx
  | some p =>
    rw [e] at hx
    cases hx
    obtain ⟨u, v, a, b, c⟩ := con_at C i p e
    refine ⟨u, v, a, b, fun φ G => ?_⟩
    have : conOf cs i = p.2.d := by unfold conOf; rw [e]; rfl
    rw [this]
    exact c _ _ _
def spT (K : PySem.W.Frag) (m : Nat) : Sp := fun vs H Q _ => ∃ (a : Addr) (ns : List Int), vs = [.ref a] ∧ SqL K H a (ns.map V.int) ∧ ns.length ≤ m ∧ ∀ H', Q (.bl true) H'
theorem fn_weak {P : Program} {w : World} {K : PySem.W.Frag} {mg : Str → Option Value} {base : Heap} {CX : CXT} {k : Nat} {f : Addr} {fd : FuncData} {ps : List Str} {sp sp' : Sp} (F : FnOk P w K mg base CX k f fd ps sp) (i : ∀ vs H Q E, sp' vs H Q E → sp vs H Q E) : FnOk P w K mg base CX k f fd ps sp' :=
  ⟨fun vs H Q E h => F.len vs H Q E (i _ _ _ _ h), fun A outer s H args us vs Q E a b c d e => F.run A outer s H args us vs Q E a b c d (i _ _ _ _ e)⟩
theorem w1_start {K : PySem.W.Frag} {E : XK} {H : Hp} : W1 ((gndT K).env E []) [] [] H := ⟨⟨rfl, List.nodup_nil, fun n a c h => by simp at h, fun b h => nomatch h⟩, trivial⟩
theorem R_ints {K : PySem.W.Frag} {φ : List Addr} {G : Hp} : ∀ (ns : List Int), RA K φ G (ns.map D.int) (ns.map V.int)
  | [] => rfl
  | n :: ns => ⟨_, _, rfl, rfl, R_ints ns⟩
theorem law_ok {P : Program} {w : World} {K : PySem.W.Frag} {mg : Str → Option Value} {ds : List Df} {cons : List Str} {con : Nat → D} {l : List Kl} {rz : List Nat} {hwT : List (Nat × Str)} (T : TOk (gndT K) mg ds cons con l rz hwT) {n i m : Nat} {d : Df} {fa : Addr} (hd : ds[i]? = some d) (hc : d.cl = none) (hx : d.x = "law") (hps : d.ps = [("script" : Str)]) (hb : Bnd d) (hfa : mg "law" = some (.ref fa))
    (M : ∀ s : List Int, s.length ≤ m → ∃ cs, semT ds con (ciOf l rz hwT) n i [.frz (s.map D.int)] [] = some (.val (.bl true), cs)) :
    ∃ fd, (∀ (s : Shared) (v : Value), BindsTo s fd ⟨[v], []⟩ [(("script" : Str), v)]) ∧ ∀ base : Heap, K.In base → base.Ns mainGlobals mg → FnOk P w K mg base (L2.CX P w) (2 * n) fa fd [("script" : Str)] (spT K m) := by
  obtain ⟨f, fd, F, b1, m1⟩ := T.fn i d hd
  rw [hc] at m1
  have m1 : mg d.x = some (.ref f) := m1
  rw [hx] at m1
  cases hfa.symm.trans m1
  refine ⟨fd, fun s v => ?_, fun base _ _ => ?_⟩
  · obtain ⟨oc, od, kV, doc, pm, an, cdv, ct, osl, rfl, _⟩ := F.ex
    have := hb kV doc pm an cdv ct [v] (by rw [hps]; rfl)
    rw [hps] at this
    exact .of_eq this
  · obtain ⟨f, fd', g1, F', g4, g2⟩ := lev (P := P) (w := w) (base := base) T n i d hd
    rw [hc] at g2
    have g2 : mg d.x = some (.ref f) := g2
    rw [hx] at g2
    cases hfa.symm.trans g2
    have : fd' = fd := by
      obtain ⟨oc, od, kV, doc, pm, an, cdv, ct, osl, e1, e2, _⟩ := F.ex
      obtain ⟨oc', od', kV', doc', pm', an', cdv', ct', osl', e1', e2', _⟩ := F'.ex
      have := e2.symm.trans e2'
      simp only [Option.some.injEq, Obj.mk.injEq, Data.func.injEq] at this
      exact this.2.2.1.symm
    subst this
    rw [hps] at g1
    refine fn_weak g1 fun vs H Q E h => ?_
    obtain ⟨a, s, rfl, h1, h2, h3⟩ := h
    obtain ⟨cs, e⟩ := M s h2
    refine ⟨[], [], [], [.frz (s.map D.int)], w1_start, ⟨_, _, rfl, ⟨a, s.map V.int, rfl, ?_, R_ints s⟩, rfl⟩, ?_⟩
    · have : EV.M [] [] [] H = H := by
        funext b
        unfold EV.M
        rw [if_neg]
        rintro (⟨n, c, e1, _⟩ | h)
        · simp at e1
        · cases h
      rw [this]
      exact h1
    · show OkV _ _ _ _ (semT ds con (ciOf l rz hwT) n i [.frz (s.map D.int)] []) Q
      rw [e]
      intro v φ' H' _ _ r
      have r : v = V.bl true := r
      subst r
      exact h3 H'
end EV

namespace EV
open PySem PySem.Spec PyProof.Rows L2 ZG
/-! ### the end of a law that hands lambdas in -/
theorem tabS_put {H : Hp} {P : Addr} {q : Str} {a : Addr} {u : HO} (h : LamX.TabS H P q) (ha : H a = some u) (n1 : ∀ ps, u ≠ .tbl ps) (n2 : ∀ c, u ≠ LamX.CodeO c q) (o : HO) : LamX.TabS (upd H a o) P q := by
  obtain ⟨ps, h1, h2, h3⟩ := h
  have ne : P ≠ a := fun z => by
    rw [z, ha] at h1
    exact n1 ps (Option.some.inj h1)
  refine ⟨ps, (upd_ne ne).trans h1, h2, fun pos cv hc => ?_⟩
  obtain ⟨c, e1, e2⟩ := h3 pos cv hc
  refine ⟨c, e1, (upd_ne fun z => ?_).trans e2⟩
  rw [z, ha] at e2
  exact n2 _ (Option.some.inj e2)
theorem keeps_tab (T : List (Addr × Str)) : Keeps (LamX.Tabs T) :=
  ⟨fun H p o j hp q hq => (j q hq).ext fun b u e => (upd_ne (ne_of_none e hp)).trans e,
   fun H a xs o j ha q hq => tabS_put (j q hq) ha (fun _ z => by cases z) (fun _ z => by unfold LamX.CodeO at z; cases z) o,
   fun H a xs o j ha q hq => tabS_put (j q hq) ha (fun _ z => by cases z) (fun _ z => by unfold LamX.CodeO at z; cases z) o,
   fun H a C dx fs o j ha q hq => tabS_put (j q hq) ha (fun _ z => by cases z) (fun _ z => by unfold LamX.CodeO at z; cases z) o⟩
def gndL (K : PySem.W.Frag) (tb : Addr) (q : Str) : Gnd := ⟨K, LamX.Tabs [(tb, q)], keeps_tab _⟩
def spD0 (Z : Gnd) (F : List D → Cells → Rs) : Sp := fun vs H Q E => ∃ φ cs ds, W1 (Z.env E []) φ cs H ∧ RA Z.K φ (M [] φ cs H) ds vs ∧ OkV (Z.env E []) φ cs H (F ds cs) Q
section
variable {P : Program} {w : World} {mg : Str → Option Value} {base : Heap}
theorem start_D0 (Z : Gnd) {N ps : List Str} {gc : Bool} {body : Slots → Cells → RsS} {vs : List V} {H : Hp} {Q : VK} {E : XK} (h : spD0 Z (semOf ps.length N.length gc body) vs H Q E) :
    vs.length = ps.length ∧ tS (Z.env E []) body { nx := fun _ H' => Q .non H', rt := Q } (start N vs) H := by
  obtain ⟨φ, cs, ds, w, ra, ok⟩ := h
  have hl : vs.length = ps.length := by
    unfold semOf at ok
    split at ok
    · rename_i c
      rw [ra.length, c]
    · exact (OkG.nope ok).elim
  refine ⟨hl, initS ds N.length, φ, cs, startRS ra, w, ?_⟩
  unfold semOf at ok
  split at ok
  · have ok2 : OkV (Z.env E []) φ cs H (finF (body (initS ds N.length) cs)) Q := by
      split at ok
      · exact ok_gc w ok
      · exact ok
    refine (OkG.bind (rel := relS (Z.env E [])) ok2).imp ?_
    rintro y H2 ⟨φ2, cs2, q, e2, w2, r2, ok3⟩
    match q, y, r2, ok3 with
    | (.nx, sl2), .nx σ2, r2, ok3 =>
      have ok3 : OkV (Z.env E []) φ2 cs2 H2 (some (.val .non, cs2)) Q := ok3
      exact OkG.now (v := V.non) ok3 w2 rfl
    | (.ret d, sl2), .rt v, r2, ok3 =>
      have ok3 : OkV (Z.env E []) φ2 cs2 H2 (some (.val d, cs2)) Q := ok3
      exact OkG.now (v := v) ok3 w2 r2
    | (.bk, sl2), .bk σ2, r2, ok3 => exact (OkG.nope ok3).elim
    | (.ct, sl2), .ct σ2, r2, ok3 => exact (OkG.nope ok3).elim
  · exact (OkG.nope ok).elim
theorem fn_D0 (Z : Gnd) {x qual : Str} {st : Stmt} {f : Addr} {oc kV doc pm cdv ct : Value} {an od : Option Addr} {osl : Array (Option Value)} {N ps : List Str} {k : Nat} {gc : Bool} {body : Slots → Cells → RsS}
    (lk : Z.K.lookup f = some ⟨oc, od, .func (PySem.W.fnOf x qual (defArgs st) (defBody st) (defScope st) .none kV doc pm an cdv ct), osl⟩) (hcd : PySem.W.codeIn Z.K cdv qual = true) (S : FnScope N ps (defScope st))
    (hb : ∀ (A : Around) (outer : List PySem.Env) (s : Shared) (H : Hp) (E : XK), Room k (A.deeper (envOfC qual (defScope st) s.heap.objs.size f cdv)) → PSs (cxOf (L2.CX P w) P w Z.K mg base N qual (defScope st) f cdv A outer s H E) (defBody st) (tS (Z.env E []) body)) :
    FnOk P w Z.K mg base (L2.CX P w) (k + 1) f (PySem.W.fnOf x qual (defArgs st) (defBody st) (defScope st) .none kV doc pm an cdv ct) ps (spD0 Z (semOf ps.length N.length gc body)) := by
  exact fn_of lk hcd S (fun vs H Q E h => (start_D0 Z h).1) fun Ar outer s H vs Q E hr h => ⟨_, hb Ar outer s H E hr, (start_D0 Z h).2⟩
theorem Good.law {q : TrQ} {T : Tb} {Z : Gnd} {k : Nat} {sc : Scope} {fnB : Str → Bool} {Y : Env} {X : Cx} (g : Good q T Z k sc fnB Y X) {lw rp : Bool} (h : lw = true → HowOk Z k q.ci.hw Y.hd X) (hg : rp = true → X.A.guards = some []) : Good ⟨q.N, q.fn, q.con, q.ci, lw, rp⟩ T Z k sc fnB Y X :=
  ⟨g.hZ, g.hK, g.calm, g.room, g.nd, g.hN, g.hsc, g.hfn, g.takes, g.blt, g.fns, g.cons, g.ciq, g.exc, g.cl, fun e _ => h e, fun e _ => hg e⟩
end
def trqL (ds : List Df) (cons : List Str) (ci : Ci) (N : List Str) (lw rp : Bool) : TrQ := ⟨N, fun i => (ds[i]?).bind glName, fun i => cons[i]?, ci, lw, rp⟩
def lawOkG (ds : List Df) (cons : List Str) (ci : Ci) (d : Df) (lw rp : Bool) : Bool := scB d.N d.ps (defScope d.st) && trSs (trqL ds cons ci d.N lw rp) d.body (defScope d.st) (defBody d.st)
def lawOk (ds : List Df) (cons : List Str) (ci : Ci) (d : Df) : Bool := scB d.N d.ps (defScope d.st) && trSs (trqL ds cons ci d.N true false) d.body (defScope d.st) (defBody d.st)
def spTb (K : PySem.W.Frag) (m : Nat) (tb : Addr) : Sp := fun vs H Q _ => ∃ (a : Addr) (ns : List Int), vs = [.ref a] ∧ SqL K H a (ns.map V.int) ∧ ns.length ≤ m ∧ H tb = some (.tbl #[]) ∧ ∀ H', Q (.bl true) H'
abbrev lawQ : Str := ("law.<locals>." : Str) ++ "<lambda>"
/-- what is known of _law_how, where law calls it -/
structure HowFact (K : PySem.W.Frag) (mg : Str → Option Value) (P : Program) (w : World) (base : Heap) (hw : Nat → Option Str) : Prop where
  ex : ∃ (g : Addr) (pg : Arguments) (bg : List Stmt) (sg : Scope) (dV kV doc pm cdv ct oc : Value) (an od : Option Addr) (osl : Array (Option Value)) (Ng : List Str) (kd : Addr → Option Str),
    mg "_law_how" = some (.ref g) ∧ PySem.W.keepIn K (.ref g) = true ∧ K.lookup g = some ⟨oc, od, .func (PySem.W.fnOf "_law_how" "_law_how" pg bg sg dV kV doc pm an cdv ct), osl⟩ ∧ PySem.W.codeIn K cdv "_law_how" = true ∧
    L2.Binds K (PySem.W.fnOf "_law_how" "_law_how" pg bg sg dV kV doc pm an cdv ct) ["deed"] [] ∧ FnScope Ng ["deed"] sg ∧ Ng[0]? = some ("deed" : Str) ∧ Vis sg "deed" ∧
    (∀ X : Cx, X.K = K → X.mg = mg → X.prog = P → X.w = w → X.base = base → Room 5 X.A → ∀ q, LamX.GivesTo X Ng "_law_how" sg g cdv bg "deed" q (THow kd)) ∧
    ∀ m wd C, hw m = some wd → clsA K m = some C → kd C = some wd
theorem law_okH {P : Program} {w : World} {K : PySem.W.Frag} {mg : Str → Option Value} {ds : List Df} {cons : List Str} {con : Nat → D} {l : List Kl} {rz : List Nat} {hwT : List (Nat × Str)} {tb cc : Addr} (T : TOk (gndL K tb lawQ) mg ds cons con l rz hwT) {n m : Nat} {d : Df} {fa : Addr}
    {oc kV doc pm ct : Value} {an od : Option Addr} {osl : Array (Option Value)} (hn : 1 ≤ n)
    (lk : K.lookup fa = some ⟨oc, od, .func (PySem.W.fnOf "law" "law" (defArgs d.st) (defBody d.st) (defScope d.st) .none kV doc pm an (.ref cc) ct), osl⟩) (hcd : PySem.W.codeIn K (.ref cc) "law" = true)
    (ok : lawOk ds cons (ciOf l rz hwT) d = true) (hps : d.ps = [("script" : Str)]) (hq : d.qual = ("law" : Str))
    (M : ∀ s : List Int, s.length ≤ m → ∃ cs, semOf d.ps.length d.N.length d.gc (rns ⟨semT ds con (ciOf l rz hwT) n, con, ciOf l rz hwT⟩ d.body) [.frz (s.map D.int)] [] = some (.val (.bl true), cs))
    {base : Heap} (HF : HowFact K mg P w base (ciOf l rz hwT).hw) (TB : LamX.TabB base mg cc tb) :
    FnOk P w K mg base (L2.CX P w) (2 * n + 4) fa (PySem.W.fnOf "law" "law" (defArgs d.st) (defBody d.st) (defScope d.st) .none kV doc pm an (.ref cc) ct) ["script"] (spTb K m tb) := by
  obtain ⟨dx, dq, dst, dN, dps, dgc, db, dcl⟩ := d
  dsimp only at *
  subst hq hps
  obtain ⟨o1, o2⟩ := andB ok
  dsimp only at o1 o2
  have S := scB_ok o1
  have F := fn_D0 (P := P) (w := w) (mg := mg) (base := base) (k := 2 * n + 3) (gc := dgc) (body := rns ⟨semT ds con (ciOf l rz hwT) n, con, ciOf l rz hwT⟩ db) (gndL K tb lawQ) (x := "law") (qual := "law") lk hcd S (fun A outer s H E r => ?_)
  · refine fn_weak F fun vs H Q E h => ?_
    obtain ⟨a, s, rfl, h1, h2, h3, h4⟩ := h
    obtain ⟨cs, e⟩ := M s h2
    have tabs : LamX.Tabs [(tb, lawQ)] H := fun p hp => by
      rw [List.mem_singleton.mp hp]
      exact LamX.TabS.nil h3
    have hM : EV.M [] [] [] H = H := by
      funext b
      unfold EV.M
      rw [if_neg]
      rintro (⟨n, c, e1, _⟩ | h)
      · simp at e1
      · cases h
    refine ⟨[], [], [.frz (s.map D.int)], ⟨⟨rfl, List.nodup_nil, fun n a c h => by simp at h, fun b h => nomatch h⟩, tabs⟩, ⟨_, _, rfl, ⟨a, s.map V.int, rfl, ?_, R_ints s⟩, rfl⟩, ?_⟩
    · rw [hM]
      exact h1
    · rw [e]
      intro v φ' H' _ _ r
      have r : v = V.bl true := r
      subst r
      exact h4 H'
  · obtain ⟨g, pg, bg, sg, dV, kV', doc', pm', cdv', ct', oc', an', od', osl', Ng, kd, m1, m2, m3, m4, m5, m6, m7, m8, m9, m10⟩ := HF.ex
    have g0 := good_of (d := ⟨dx, "law", dst, dN, ["script"], dgc, db, dcl⟩) (P := P) (w := w) (base := base) (f := fa) (cdv := .ref cc) (A := A) (outer := outer) (s := s) (H := H) (E := E) (hd := []) T (lev T n) S (r.mono (by omega))
    have how : HowOk (gndL K tb lawQ) (2 * n) (ciOf l rz hwT).hw [] (cxOf (L2.CX P w) P w K mg base dN "law" (defScope dst) fa (.ref cc) A outer s H E) := by
      refine ⟨rfl, r, g, cc, tb, pg, bg, sg, dV, kV', doc', pm', cdv', ct', oc', an', od', osl', Ng, kd, m1, m2, m3, m4, m5, m6, m7, m8, m9 _ rfl rfl rfl rfl rfl (r.mono (by omega)) _, TB, rfl, rfl, m10⟩
    exact stms db (q := trqL ds cons (ciOf l rz hwT) dN true false) (g0.law (fun _ => how) fun z => nomatch z) PassesOwn.leaving o2
end EV

namespace EV
open PySem PySem.Spec PyProof.Rows L2 ZG
/-! ### the end of a law that asks for repr: its def is run where nothing is shown as yet -/
def RunC (P : Program) (w : World) (K : PySem.W.Frag) (mg : Str → Option Value) (base : Heap) (CX : CXT) (fa : Addr) (fd : FuncData) (x : Str) (sp : Sp) : Prop :=
  ∀ (t : Shared) (G : Hp) (b : Addr) (Q : VK) (E : XK), Env0 P w K mg base callerA [] t G → BindsTo t fd ⟨[.ref b], []⟩ [(x, .ref b)] → sp [.ref b] G Q E → codeAny (model P w) callerA (.call (.ref fa) ⟨[.ref b], []⟩) (CR CX [] P w G t Q E) t
abbrev tab0 : Obj := { cls := .none, data := .fields #[] }
abbrev lstO (us : List Value) : Obj := { cls := .type "list", data := .seq us.toArray }
structure Top (K : PySem.W.Frag) (mg mb : Str → Option Value) (top : Shared) (scr : Addr) (tbs : List (Addr × Addr)) (us : List Value) (zs : List Int) : Prop where
  kin : K.In top.heap
  glo : top.heap.Ns mainGlobals mg
  bns : top.heap.Ns builtinsNs mb
  boot : ∀ n : Str, n ≠ "__name__" → mb n = bootBuiltins n
  lim : top.heap.NoLimit
  gens : top.gens = #[]
  tab : ∀ q ∈ tbs, top.heap.get? q.2 = some tab0
  free : ∀ q ∈ tbs, K.lookup q.2 = none
  code : ∀ q ∈ tbs, PySem.W.CodeHd top.heap q.1 q.2
  bmod : ∃ (m : Addr) (o : Obj), mg "__builtins__" = some (.ref m) ∧ m ≠ builtinsNs ∧ top.heap.get? m = some o ∧ o.cls = .type "module" ∧ o.dict = some builtinsNs ∧ o.data = .plain
  scr : top.heap.get? scr = some (lstO us)
  ia : IntsAre us zs
  le : zs.length ≤ sizeLine
/-- what is tracked ahead: the tables, the script -/
def trk (K : PySem.W.Frag) (scr : Addr) (tbs : List (Addr × Addr)) (us : List Value) (zs : List Int) : Hp := fun b =>
  if b ∈ tbs.map (·.2) then some (.tbl #[]) else if b = scr ∧ K.lookup scr = none then some (.frz (lstO us) (.lst (zs.map V.int))) else none
section
variable {P : Program} {w : World} {K : PySem.W.Frag} {mg mb : Str → Option Value} {top : Shared} {scr : Addr} {tbs : List (Addr × Addr)} {us : List Value} {zs : List Int}
theorem Top.tabAt (T : Top K mg mb top scr tbs us zs) {b : Addr} (m : b ∈ tbs.map (·.2)) : top.heap.get? b = some tab0 := by
  obtain ⟨q, hq, rfl⟩ := List.mem_map.mp m
  exact T.tab q hq
theorem trk_see {b : Addr} {u : HO} (h : trk K scr tbs us zs b = some u) : (b ∈ tbs.map (·.2) ∧ u = .tbl #[]) ∨ (b = scr ∧ K.lookup scr = none ∧ u = .frz (lstO us) (.lst (zs.map V.int))) := by
  unfold trk at h
  split at h
  · rename_i m
    exact .inl ⟨m, (Option.some.inj h).symm⟩
  · split at h
    · rename_i c
      exact .inr ⟨c.1, c.2, (Option.some.inj h).symm⟩
    · cases h
theorem trk_tab {q : Addr × Addr} (hq : q ∈ tbs) : trk K scr tbs us zs q.2 = some (.tbl #[]) := if_pos (List.mem_map.mpr ⟨q, hq, rfl⟩)
theorem Top.apart (T : Top K mg mb top scr tbs us zs) : scr ∉ tbs.map (·.2) := fun m => by
  have e := (T.tabAt m).symm.trans T.scr
  simp only [Option.some.injEq, Obj.mk.injEq] at e
  exact absurd e.1 (by simp)
/-- what is neither a list nor an empty table isn't tracked -/
theorem Top.not (T : Top K mg mb top scr tbs us zs) {b : Addr} {o : Obj} (e : top.heap.get? b = some o) (n1 : o ≠ tab0) (n2 : o ≠ lstO us) : trk K scr tbs us zs b = none := by
  cases c : trk K scr tbs us zs b with
  | none => rfl
  | some u =>
    rcases trk_see c with ⟨m, _⟩ | ⟨rfl, _, _⟩
    · exact absurd (Option.some.inj (e.symm.trans (T.tabAt m))) n1
    · exact absurd (Option.some.inj (e.symm.trans T.scr)) n2
theorem Top.ns (T : Top K mg mb top scr tbs us zs) {b : Addr} {m : Str → Option Value} (h : top.heap.Ns b m) : (hidT top.heap (trk K scr tbs us zs)).Ns b m := by
  obtain ⟨o, es, ep, e, d, r⟩ := h
  refine ⟨o, es, ep, hidT_get e (T.not e ?_ ?_), d, r⟩
  · rintro rfl
    cases d
  · rintro rfl
    cases d
theorem Top.inK (T : Top K mg mb top scr tbs us zs) : K.In (hidT top.heap (trk K scr tbs us zs)) := by
  intro b o e
  refine hidT_get (T.kin b o e) ?_
  cases c : trk K scr tbs us zs b with
  | none => rfl
  | some u =>
    rcases trk_see c with ⟨m, _⟩ | ⟨rfl, n, _⟩
    · obtain ⟨q, hq, rfl⟩ := List.mem_map.mp m
      exact absurd (e.symm.trans (T.free q hq)) (by simp)
    · exact absurd (e.symm.trans n) (by simp)
theorem Top.mod (T : Top K mg mb top scr tbs us zs) : L2.Mod K mg (hidT top.heap (trk K scr tbs us zs)) := by
  obtain ⟨mc, l1, l2⟩ := T.lim
  exact ⟨T.inK, T.ns T.glo, ⟨mb, T.ns T.bns, T.boot⟩, mc, T.ns l1, l2⟩
theorem Top.ok (T : Top K mg mb top scr tbs us zs) : HOk P w (trk K scr tbs us zs) top.heap := by
  intro b u c
  rcases trk_see c with ⟨m, rfl⟩ | ⟨rfl, _, rfl⟩
  · exact T.tabAt m
  · exact ⟨T.scr, by rw [List.length_map]; exact T.le, us, _, vals_ints T.ia, T.scr⟩
theorem Top.sq (T : Top K mg mb top scr tbs us zs) : SqL K (trk K scr tbs us zs) scr (zs.map V.int) := by
  cases c : K.lookup scr with
  | none => exact .inl (.inr ⟨lstO us, (if_neg T.apart).trans (if_pos ⟨rfl, c⟩)⟩)
  | some o =>
    have e := (T.kin scr o c).symm.trans T.scr
    cases e
    exact .inr ⟨_, us.toArray, _, c, rfl, rfl, rfl, by rw [List.size_toArray, T.ia.length]; exact T.le, by simpa using vals_ints T.ia⟩
theorem Top.env (T : Top K mg mb top scr tbs us zs) : Env0 P w K mg (hidT top.heap (trk K scr tbs us zs)) callerA [] top (trk K scr tbs us zs) :=
  ⟨rfl, T.mod, fun _ _ e => of_hidT e, Nat.le_of_eq (hidT_size _ _), trivial, (fun _ m => nomatch m), T.ok, .of_eq T.gens⟩
theorem Top.tabB (T : Top K mg mb top scr tbs us zs) : ∀ q ∈ tbs, LamX.TabB (hidT top.heap (trk K scr tbs us zs)) mg q.1 q.2 := by
  intro q hq
  have tq := T.tab q hq
  refine ⟨?_, ?_, ?_⟩
  · obtain ⟨o, vs, file, tf, flags, tg, inF, text, tt, e1, r1, r2, r3, r4⟩ := T.code q hq
    refine ⟨o, vs, file, tf, flags, tg, inF, text, tt, hidT_get e1 (T.not e1 ?_ ?_), r1, r2, r3, r4⟩
    · rintro rfl
      cases r2
      simp at r3
    · rintro rfl
      cases r2
  · obtain ⟨m, o, b1, b2, b3, b4, b5, b6⟩ := T.bmod
    refine ⟨m, o, b1, b2, ?_, ?_, hidT_get b3 (T.not b3 ?_ ?_), b4, b5, b6⟩
    · rintro rfl
      obtain ⟨o', es, ep, e, d, _⟩ := T.glo
      rw [b3] at e
      cases e
      rw [b6] at d
      cases d
    · rintro rfl
      rw [b3] at tq
      cases tq
      cases b6
    · rintro rfl
      cases b6
    · rintro rfl
      cases b6
  · intro c
    obtain ⟨o, es, ep, e, d, _⟩ := T.glo
    rw [c, tq] at e
    cases e
    cases d
theorem run_top {CX : CXT} {fa : Addr} {fd : FuncData} {x : Str} {sp : Sp} (T : Top K mg mb top scr tbs us zs)
    (F : ∀ base : Heap, K.In base → base.Ns mainGlobals mg → (∀ q ∈ tbs, LamX.TabB base mg q.1 q.2) → RunC P w K mg base CX fa fd x sp) (bind : ∀ (t : Shared) (u : Value), BindsTo t fd ⟨[u], []⟩ [(x, u)])
    (start : ∀ G : Hp, (∀ q ∈ tbs, G q.2 = some (.tbl #[])) → SqL K G scr (zs.map V.int) → sp [.ref scr] G (fun v _ => v = .bl true) fun _ _ _ => False) (never : ∀ G e t, CX [] G top (fun _ _ _ => False) e t → False) :
    codeAny (model P w) callerA (.call (.ref fa) ⟨[.ref scr], []⟩) (fun r t => r = .ok (.ret (.bool true)) ∧ OldK top.heap t.heap ∧ t.os = top.os ∧ AllBare t.gens) top := by
  refine codeAny_mono (F _ T.inK (T.ns T.glo) T.tabB top _ scr _ _ T.env (bind _ _) (start _ (fun q hq => trk_tab hq) T.sq)) ?_
  intro r t c
  match r, c with
  | .error e, c => exact (never _ e t c).elim
  | .ok .next, c => exact False.elim c
  | .ok .brk, c => exact False.elim c
  | .ok .cont, c => exact False.elim c
  | .ok (.ret u), ⟨v, G, os, bare, un, ok, rv, ev⟩ =>
    have ev : v = V.bl true := ev
    subst ev
    have rv : u = Value.bool true := rv
    subst rv
    have kept : ∀ {b : Addr} {o : Obj}, b ∉ tbs.map (·.2) → top.heap.get? b = some o → t.heap.get? b = some o := by
      intro b o nm e
      cases c : trk K scr tbs us zs b with
      | none => exact un.keep b o e c (fun z => nomatch z) (by simp)
      | some h =>
        rcases trk_see c with ⟨m, _⟩ | ⟨rfl, _, rfl⟩
        · exact absurd m nm
        · have g2 := (ok _ _ (un.frzs _ _ _ c)).1
          rw [T.scr] at e
          cases e
          exact g2
    have more : ∀ q ∈ tbs, ∃ extra : Array Value, t.heap.get? q.2 = some { cls := .none, data := .fields extra } := by
      intro q hq
      obtain ⟨_, c⟩ := un.tbls q.2 #[] (trk_tab hq)
      exact ⟨_, ok q.2 _ c⟩
    refine ⟨rfl, ⟨fun b o e => ?_, fun b o e => ?_⟩, os, bare⟩
    · by_cases m : b ∈ tbs.map (·.2)
      · obtain ⟨q, hq, rfl⟩ := List.mem_map.mp m
        obtain ⟨extra, hm⟩ := more q hq
        rw [T.tab q hq] at e
        cases e
        refine .inr (.inl ⟨((T.code q hq).tab (T.tab q hq)).isCodeTable, rfl, #[], extra, rfl, ?_⟩)
        rw [Array.empty_append]
        exact hm
      · exact .inl (kept m e)
    · by_cases m : b ∈ tbs.map (·.2)
      · obtain ⟨q, hq, rfl⟩ := List.mem_map.mp m
        obtain ⟨extra, hm⟩ := more q hq
        exact ⟨_, hm⟩
      · exact ⟨o, kept m e⟩
end
def LawC (l : PySem.W.OpenLaw) (w : World) (K : PySem.W.Frag) (CX : CXT) (n : Nat) (x : Str) (mg : Str → Option Value) (fa : Addr) (h : Heap) : Prop :=
  ∃ (fd : FuncData) (tbs : List (Addr × Addr)) (sp : Sp), (∀ q ∈ tbs, h.get? q.2 = some tab0) ∧ (∀ q ∈ tbs, K.lookup q.2 = none) ∧ (∀ q ∈ tbs, PySem.W.CodeHd h q.1 q.2) ∧ (∀ (t : Shared) (u : Value), BindsTo t fd ⟨[u], []⟩ [(x, u)]) ∧
    (∀ (G : Hp) (b : Addr) (zs : List Int), zs.length ≤ n → (∀ q ∈ tbs, G q.2 = some (.tbl #[])) → SqL K G b (zs.map V.int) → sp [.ref b] G (fun v _ => v = .bl true) fun _ _ _ => False) ∧
    ∀ base : Heap, K.In base → base.Ns mainGlobals mg → (∀ q ∈ tbs, LamX.TabB base mg q.1 q.2) → RunC l.prog w K mg base CX fa fd x sp
theorem walkC {l : PySem.W.OpenLaw} {n : Nat} {prog : Program} {loose : List Str} {XP : (Str → Option Value) → Heap → Prop} {YP : World → Heap → Prop} {d : DefRec} {K : Params → PySem.W.Frag} {CX : World → CXT} {x : Str}
    (most : l.most = some n) (small : n ≤ sizeLine) (dflt : d.params.defaults = []) (inK : ∀ (w : World) (h : Heap), YP w h → (K w.params).In h)
    (F : ∀ (w : World) (mg : Str → Option Value) (fa : Addr) (h : Heap), (K w.params).In h → h.Ns mainGlobals mg → mg d.name = some (.ref fa) → (((recsOf prog).any fun e => e.name == d.name) = true → LamX.OwnTab (K w.params) fa h) → LawC l w (K w.params) (CX w) n x mg fa h)
    (never : ∀ (w : World) (G : Hp) (t : Shared) (e : Value) (t' : Shared), CX w [] G t (fun _ _ _ => False) e t' → False) :
    PySem.W.WalkO prog loose XP YP l.row.toRowW d [] (fun f vs => PySem.call f vs) := by
  refine Att.attach_callB most dflt ?_
  intro w t0 t1 mg mb fa o pm cd doc b us zs G Y ho hd hcd hmg hobj hints hlen hbits hg
  have kin := inK w _ Y
  obtain ⟨fd, tbs, sp, tab, free, code, bind, start, run⟩ := F w mg fa _ kin G.T.g hmg (fun hrec => by
    intro c' p' o1 fd1 e dd vs1 sl k1 k2 k3 k4 k5
    obtain ⟨dL, hm, hn1⟩ := List.any_eq_true.mp hrec
    obtain ⟨a2, o2, fd2, c2, p2, g1, g2, g3, g4, g5, ⟨⟨oc, vc, f1, _, f3, f4⟩, hp⟩⟩ := G.T.tab dL hm
    rw [beq_iff_eq.mp hn1, hmg] at g1
    cases g1
    cases (kin _ _ k1).symm.trans g2
    cases k2.symm.trans g3
    cases k3.symm.trans g4
    cases (kin _ _ k4).symm.trans f1
    cases f3
    cases k5.symm.trans f4
    exact hp)
  exact run_top (P := l.prog) (w := w) ⟨kin, G.T.g, G.T.b, G.T.builtins, G.T.nolimit, hg, tab, free, code, G.T.bmain, hobj, hints, Nat.le_trans hlen small⟩ run bind (fun G' => start G' b zs hlen) fun G' e t' => never w G' t1 e t'
/-- the law's def, run at the head -/
theorem runC_D {P : Program} {w : World} {mg : Str → Option Value} {base : Heap} (Z : Gnd) {x qual p : Str} {st : Stmt} {f : Addr} {oc kV doc pm cdv ct : Value} {an od : Option Addr} {osl : Array (Option Value)} {N : List Str} {gc : Bool} {body : Slots → Cells → RsS} {sp : Sp}
    (lk : Z.K.lookup f = some ⟨oc, od, .func (PySem.W.fnOf x qual (defArgs st) (defBody st) (defScope st) .none kV doc pm an cdv ct), osl⟩) (hcd : PySem.W.codeIn Z.K cdv qual = true) (S : FnScope N [p] (defScope st)) (i : ∀ vs H Q E, sp vs H Q E → spD0 Z (semOf 1 N.length gc body) vs H Q E)
    (hb : ∀ (s : Shared) (H : Hp) (E : XK), PSs (cxOf (L2.CX P w) P w Z.K mg base N qual (defScope st) f cdv callerA [] s H E) (defBody st) (tS (Z.env E []) body)) :
    RunC P w Z.K mg base (L2.CX P w) f (PySem.W.fnOf x qual (defArgs st) (defBody st) (defScope st) .none kV doc pm an cdv ct) p sp := by
  intro t G b Q E en bind h
  obtain ⟨hl, rd⟩ := start_D0 (ps := [p]) Z (i _ _ _ _ h)
  have inT : Z.K.In t.heap := en.mod.kin.keeps fun c o e => (en.bs c o e).1
  have noL : t.heap.NoLimit := en.mod.nolimit.keeps fun c o e => (en.bs c o e).1
  refine codeAny_call_function (by decide) (inT _ _ lk) rfl S.co S.gen rfl (PySem.W.codeRec_of inT hcd) (bind _ _ _ _ ?_)
  refine wpAny_newFunctionEnv_cells S.kind ?_ ?_
  · rintro ⟨n, v⟩ hy
    have hn : n ∈ [p] := (List.of_mem_zip (show (n, v) ∈ [p].zip [Value.ref b] from hy)).1
    exact (S.par n hn).imp id fun q => ⟨q, PySem.W.cellsFrom_some _ _ _ (.inl q)⟩
  · intro env en2 t1 c
    subst en2
    refine ⟨noL.keeps c.toInCall.keep, codeAny_func ?_⟩
    have V0 : Vals [V.ref b] [Value.ref b] := .cons rfl .nil
    have I := inv_start (CX := L2.CX P w) (E := E) S rfl en hl V0 c
    refine wpAny_mono ((hb t G E).run [] t1 _ G _ I rd) ?_ fun _ _ q => q
    intro fl t2 q
    match fl, q with
    | .ret u, ⟨v, _, G2, J, rv, q⟩ => exact ⟨v, G2, J.os, J.bare, J.base, J.hok, rv, q⟩
    | .next, ⟨_, G2, J, q⟩ => exact ⟨V.non, G2, J.os, J.bare, J.base, J.hok, rfl, q⟩
    | .brk, ⟨_, _, _, q⟩ => exact False.elim q
    | .cont, ⟨_, _, _, q⟩ => exact False.elim q
theorem start_T {K : PySem.W.Frag} {m : Nat} {F : List D → Cells → Rs} (M : ∀ s : List Int, s.length ≤ m → ∃ cs, F [.frz (s.map D.int)] [] = some (.val (.bl true), cs)) {vs : List V} {H : Hp} {Q : VK} {E : XK} (h : spT K m vs H Q E) : spD0 (gndT K) F vs H Q E := by
  obtain ⟨a, s, rfl, h1, h2, h3⟩ := h
  obtain ⟨cs, e⟩ := M s h2
  have hM : EV.M [] [] [] H = H := by
    funext b
    unfold EV.M
    rw [if_neg]
    rintro (⟨n, c, e1, _⟩ | h)
    · simp at e1
    · cases h
  refine ⟨[], [], [.frz (s.map D.int)], w1_start, ⟨_, _, rfl, ⟨a, s.map V.int, rfl, ?_, R_ints s⟩, rfl⟩, ?_⟩
  · rw [hM]
    exact h1
  · rw [e]
    intro v φ' H' _ _ r
    have r : v = V.bl true := r
    subst r
    exact h3 H'
/-- a law without lambdas that asks for repr -/
theorem law_okR {P : Program} {w : World} {K : PySem.W.Frag} {mg : Str → Option Value} {ds : List Df} {cons : List Str} {con : Nat → D} {l : List Kl} {rz : List Nat} {hwT : List (Nat × Str)} (T : TOk (gndT K) mg ds cons con l rz hwT) {n m : Nat} {d : Df} {fa : Addr}
    {oc kV doc pm cdv ct : Value} {an od : Option Addr} {osl : Array (Option Value)} (hr : Room (2 * n + 2) callerA)
    (lk : K.lookup fa = some ⟨oc, od, .func (PySem.W.fnOf "law" "law" (defArgs d.st) (defBody d.st) (defScope d.st) .none kV doc pm an cdv ct), osl⟩) (hcd : PySem.W.codeIn K cdv "law" = true)
    (ok : lawOkG ds cons (ciOf l rz hwT) d false true = true) (hps : d.ps = [("script" : Str)]) (hq : d.qual = ("law" : Str))
    (M : ∀ s : List Int, s.length ≤ m → ∃ cs, semOf d.ps.length d.N.length d.gc (rns ⟨semT ds con (ciOf l rz hwT) n, con, ciOf l rz hwT⟩ d.body) [.frz (s.map D.int)] [] = some (.val (.bl true), cs)) {base : Heap} :
    RunC P w K mg base (L2.CX P w) fa (PySem.W.fnOf "law" "law" (defArgs d.st) (defBody d.st) (defScope d.st) .none kV doc pm an cdv ct) "script" (spT K m) := by
  obtain ⟨dx, dq, dst, dN, dps, dgc, db, dcl⟩ := d
  dsimp only at *
  subst hq hps
  obtain ⟨o1, o2⟩ := andB ok
  dsimp only at o1 o2
  have S := scB_ok o1
  refine runC_D (P := P) (w := w) (mg := mg) (base := base) (gc := dgc) (body := rns ⟨semT ds con (ciOf l rz hwT) n, con, ciOf l rz hwT⟩ db) (gndT K) lk hcd S (fun vs H Q E h => start_T M h) fun s H E => ?_
  have r : Room (2 * n + 1) (callerA.deeper (envOfC "law" (defScope dst) s.heap.objs.size fa cdv)) := hr.deeper _
  have g0 := good_of (d := ⟨dx, "law", dst, dN, ["script"], dgc, db, dcl⟩) (P := P) (w := w) (base := base) (f := fa) (cdv := cdv) (A := callerA) (outer := []) (s := s) (H := H) (E := E) (hd := []) T (lev T n) S r
  exact stms db (q := trqL ds cons (ciOf l rz hwT) dN false true) (g0.law (fun z => nomatch z) fun _ => rfl) PassesOwn.leaving o2
end EV

namespace EV
open PySem PySem.Spec PyProof.Rows L2 ZG
/-! ### what a run comes to -/
def Ev {α : Type} (r : RsG α) (Q : α → Cells → Prop) : Prop := ∃ d cs, r = some (.val d, cs) ∧ Q d cs
section
variable {α β : Type} {r : RsG α} {Q Q' : α → Cells → Prop} {f : α → Cells → RsG β} {P : β → Cells → Prop}
@[simp] theorem ev_val {d : α} {cs : Cells} : Ev (some (.val d, cs)) Q ↔ Q d cs := by
  constructor
  · rintro ⟨d', cs', e, q⟩
    cases e
    exact q
  · intro q
    exact ⟨d, cs, rfl, q⟩
@[simp] theorem ev_none : Ev (none : RsG α) Q ↔ False := by
  constructor
  · rintro ⟨d', cs', e, q⟩
    cases e
  · exact False.elim
theorem ev_bind : Ev (r.bind f) P ↔ Ev r (fun d cs => Ev (f d cs) P) := by
  constructor
  · intro h
    match r, h with
    | some (.val d, cs), h => exact ⟨d, cs, rfl, h⟩
    | some (.exc x, cs), ⟨_, _, e, _⟩ => cases e
    | none, ⟨_, _, e, _⟩ => cases e
  · rintro ⟨d, cs, rfl, h⟩
    exact h
theorem Ev.imp (h : Ev r Q) (i : ∀ d cs, Q d cs → Q' d cs) : Ev r Q' := by
  obtain ⟨d, cs, e, q⟩ := h
  exact ⟨d, cs, e, i _ _ q⟩
theorem Ev.bind (h : Ev r Q) (i : ∀ d cs, Q d cs → Ev (f d cs) P) : Ev (r.bind f) P := ev_bind.mpr (h.imp i)
theorem ev_eq {d : α} {cs : Cells} (h : r = some (.val d, cs)) : Ev r Q ↔ Q d cs := by rw [h, ev_val]
theorem ev_at {d : α} {cs : Cells} : Ev r (fun d' cs' => d' = d ∧ cs' = cs) ↔ r = some (.val d, cs) := by
  constructor
  · rintro ⟨_, _, e, rfl, rfl⟩
    exact e
  · intro e
    exact ⟨_, _, e, rfl, rfl⟩
theorem bind_val {d : α} {cs : Cells} : RsG.bind (some (.val d, cs)) f = f d cs := id rfl
theorem ev_noX : Ev (noX r) Q ↔ Ev r Q := by
  constructor
  · intro h
    match r, h with
    | some (.val d, cs), h => exact h
    | some (.exc x, cs), ⟨_, _, e, _⟩ => cases e
    | none, ⟨_, _, e, _⟩ => cases e
  · rintro ⟨d, cs, rfl, h⟩
    exact ⟨d, cs, rfl, h⟩
theorem ev_ite {c : Prop} [Decidable c] {r1 r2 : RsG α} : Ev (if c then r1 else r2) Q ↔ (c → Ev r1 Q) ∧ (¬c → Ev r2 Q) := by
  by_cases h : c <;> simp [h]
end
theorem grdN (cs : Cells) : grdOk [] cs := fun _ h => nomatch h
theorem ev_grd {α : Type} {g : List (Nat × List D)} {cs : Cells} {r : RsG α} {Q : α → Cells → Prop} (hg : grdOk g cs) (h : Ev r Q) : Ev (grd? g cs r) Q := by
  unfold grd?
  rw [if_pos hg]
  exact h
/-- a comprehension -/
theorem ev_lcLoop {turn : D → Cells → RsG (Option D)} {g : List (Nat × List D)} (I : List D → List D → Cells → Prop) (hg : ∀ l acc cs, I l acc cs → grdOk g cs) (hs : ∀ x r acc cs, I (x :: r) acc cs → Ev (turn x cs) fun o cs' => I r (acc ++ o.toList) cs') :
    ∀ (l acc : List D) (cs : Cells), I l acc cs → acc.length + l.length ≤ sizeLine → Ev (lcLoop turn g l cs acc) fun ds cs' => I [] ds cs'
  | [], acc, cs, h, _ => ev_grd (hg _ _ _ h) (ev_val.mpr h)
  | x :: r, acc, cs, h, hl => by
    refine ev_grd (hg _ _ _ h) (Ev.bind (hs x r acc cs h) fun o cs' h' => ?_)
    simp only [List.length_cons] at hl
    cases o with
    | none =>
      simp only [Option.toList_none, List.append_nil] at h'
      exact ev_lcLoop I hg hs r acc cs' h' (by omega)
    | some d =>
      show Ev (if acc.length < sizeLine then lcLoop turn g r cs' (acc ++ [d]) else none) _
      rw [if_pos (by omega)]
      exact ev_lcLoop I hg hs r (acc ++ [d]) cs' h' (by simp; omega)
/-- a comprehension that only looks -/
theorem lcLoop_pure {turn : D → Cells → RsG (Option D)} {g : List (Nat × List D)} {cs : Cells} (hg : grdOk g cs) (o : D → Option D) : ∀ (l acc : List D), (∀ x ∈ l, turn x cs = some (.val (o x), cs)) → acc.length + l.length ≤ sizeLine → lcLoop turn g l cs acc = some (.val (acc ++ l.filterMap o), cs)
  | [], acc, _, _ => by
    unfold lcLoop grd?
    rw [if_pos hg, List.filterMap_nil, List.append_nil]
  | x :: r, acc, h, hl => by
    simp only [List.length_cons] at hl
    have hx := h x List.mem_cons_self
    unfold lcLoop grd?
    rw [if_pos hg, hx, bind_val, List.filterMap_cons]
    cases e : o x with
    | none =>
      show lcLoop turn g r cs acc = _
      rw [lcLoop_pure hg o r acc (fun y hy => h y (List.mem_cons_of_mem _ hy)) (by omega)]
    | some d =>
      show (if acc.length < sizeLine then lcLoop turn g r cs (acc ++ [d]) else none) = _
      rw [if_pos (by omega), lcLoop_pure hg o r (acc ++ [d]) (fun y hy => h y (List.mem_cons_of_mem _ hy)) (by simp; omega), List.append_assoc]
      rfl
/-- a loop -/
theorem ev_forLoop {t : Tg} {body : Slots → Cells → RsS} {g : List (Nat × List D)} {Q : Fl × Slots → Cells → Prop} (I : List D → Slots → Cells → Prop) (hg : ∀ l sl cs, I l sl cs → grdOk g cs)
    (hs : ∀ x r sl cs, I (x :: r) sl cs → ∃ sl', setTg t x sl = some sl' ∧ Ev (body sl' cs) fun q cs' => (∃ sl2, (q = (.nx, sl2) ∨ q = (.ct, sl2)) ∧ I r sl2 cs') ∨ (∃ d sl2, q = (.ret d, sl2) ∧ Q q cs') ∨ ∃ sl2, q = (.bk, sl2) ∧ Q (.nx, sl2) cs') (he : ∀ sl cs, I [] sl cs → Q (.nx, sl) cs) :
    ∀ (l : List D) (sl : Slots) (cs : Cells), I l sl cs → Ev (forLoop t body g l sl cs) Q
  | [], sl, cs, h => ev_grd (hg _ _ _ h) (ev_val.mpr (he _ _ h))
  | x :: r, sl, cs, h => by
    obtain ⟨sl', e, hb⟩ := hs x r sl cs h
    refine ev_grd (hg _ _ _ h) ?_
    rw [e]
    refine Ev.bind hb fun q cs' hq => ?_
    rcases hq with ⟨sl2, rfl | rfl, hi⟩ | ⟨d, sl2, rfl, hi⟩ | ⟨sl2, rfl, hi⟩
    · exact ev_forLoop I hg hs he r sl2 cs' hi
    · exact ev_forLoop I hg hs he r sl2 cs' hi
    · exact ev_val.mpr hi
    · exact ev_val.mpr hi
/-- a loop that only looks, and runs to its end -/
theorem forLoop_nx {t : Tg} {body : Slots → Cells → RsS} {g : List (Nat × List D)} {cs : Cells} (I : List D → Slots → Prop) (hg : grdOk g cs) (hs : ∀ x r sl, I (x :: r) sl → ∃ sl' sl2, setTg t x sl = some sl' ∧ body sl' cs = some (.val (.nx, sl2), cs) ∧ I r sl2) :
    ∀ (l : List D) (sl : Slots), I l sl → ∃ sl2, forLoop t body g l sl cs = some (.val (.nx, sl2), cs) ∧ I [] sl2
  | [], sl, h => ⟨sl, by unfold forLoop grd?; rw [if_pos hg]; rfl, h⟩
  | x :: r, sl, h => by
    obtain ⟨sl', sl2, e1, e2, h2⟩ := hs x r sl h
    obtain ⟨sl3, e3, h3⟩ := forLoop_nx I hg hs r sl2 h2
    refine ⟨sl3, ?_, h3⟩
    unfold forLoop grd?
    rw [if_pos hg, e1]
    dsimp only
    rw [e2, bind_val]
    exact e3
/-! ### numbers -/
def iL (l : List Int) : List D := l.map D.int
theorem iL_len {l : List Int} : (iL l).length = l.length := List.length_map ..
theorem intsOf_ints : ∀ l : List Int, intsOf (iL l) = some l
  | [] => rfl
  | x :: l => by
    show intsOf (D.int x :: iL l) = _
    unfold intsOf
    rw [intsOf_ints l]
    try rfl
theorem blsOf_bls : ∀ l : List Bool, blsOf (l.map D.bl) = some l
  | [] => rfl
  | x :: l => by
    show blsOf (D.bl x :: l.map D.bl) = _
    unfold blsOf
    rw [blsOf_bls l]
    try rfl
theorem blsOf_ints {x : Int} {l : List Int} : blsOf (iL (x :: l)) = none := rfl
theorem toPyA_ints (cs : Cells) : ∀ l : List Int, toPyA cs (iL l) = some (l.map PyData.int)
  | [] => by simp [iL, toPyA]
  | x :: l => by
    show toPyA cs (D.int x :: iL l) = _
    simp [toPyA, toPy, toPyA_ints cs l]
theorem eqvAll_ints : ∀ l m : List Int, PyData.eqvAll (l.map PyData.int) (m.map PyData.int) = decide (l = m)
  | [], [] => by simp [PyData.eqvAll]
  | [], _ :: _ => by simp [PyData.eqvAll]
  | _ :: _, [] => by simp [PyData.eqvAll]
  | x :: l, y :: m => by
    simp only [List.map_cons, PyData.eqvAll, PyData.eqv, eqvAll_ints l m, List.cons.injEq]
    by_cases h : x = y <;> simp [h]
theorem lay_ints : ∀ l : List Int, PyData.canLayAll0 (l.map PyData.int) = true
  | [] => by simp [PyData.canLayAll0]
  | x :: l => by simp [PyData.canLayAll0, PyData.canLay0, lay_ints l]
theorem depth_ints : ∀ l : List Int, PyData.depthAll (l.map PyData.int) = 0
  | [] => by simp [PyData.depthAll]
  | x :: l => by simp [PyData.depthAll, PyData.depth, depth_ints l]
theorem shaped_ints (l : List Int) : SeqAt.shaped (.list (l.map PyData.int)) = true ∧ SeqAt.shaped (.tuple (l.map PyData.int)) = true := by
  simp [SeqAt.shaped, PyData.canLay0, PyData.depth, lay_ints, depth_ints]
theorem eqD_lst (cs : Cells) (l m : List Int) : eqD cs (.lst (iL l)) (.lst (iL m)) = some (decide (l = m)) := by
  unfold eqD
  simp only [toPy, toPyA_ints, Option.map_some]
  rw [if_pos ⟨(shaped_ints l).1, (shaped_ints m).1⟩]
  simp only [PyData.eqv, eqvAll_ints]
theorem eqD_tup (cs : Cells) (l m : List Int) : eqD cs (.tup (iL l)) (.tup (iL m)) = some (decide (l = m)) := by
  unfold eqD
  simp only [toPy, toPyA_ints, Option.map_some]
  rw [if_pos ⟨(shaped_ints l).2, (shaped_ints m).2⟩]
  simp only [PyData.eqv, eqvAll_ints]
theorem eqD_str (cs : Cells) (a b : Str) (ha : PyData.strOk a = true) (hb : PyData.strOk b = true) : eqD cs (.str a) (.str b) = some (a == b) := by
  unfold eqD
  simp [toPy, SeqAt.shaped, PyData.canLay0, PyData.depth, PyData.eqv, ha, hb]
theorem eqD_int (cs : Cells) (a b : Int) : eqD cs (.int a) (.int b) = some (a == b) := by
  unfold eqD
  simp [toPy, SeqAt.shaped, PyData.canLay0, PyData.depth, PyData.eqv]
/-! ### comprehensions that only look -/
theorem lcD_map {t : Tg} {vs : List Nat} {src : Slots → Cells → RsG ItD} {p : Slots → Cells → RsG Bool} {f : Slots → Cells → Rs} {sl : Slots} {cs : Cells} {items : List D} {g : List (Nat × List D)} (F : D → D) (hs : src sl cs = some (.val ⟨items, g⟩, cs)) (hg : grdOk g cs) (hl : items.length ≤ sizeLine)
    (h : ∀ x ∈ items, ∃ sl', setTg t x (wipeD sl vs) = some sl' ∧ p sl' cs = some (.val true, cs) ∧ f sl' cs = some (.val (F x), cs)) : lcD false t vs src p f sl cs = some (.val (.lst (items.map F)), cs) := by
  unfold lcD
  rw [hs, bind_val]
  show (lcLoop (lcTurn t vs p f sl) g items cs []).bind _ = _
  rw [lcLoop_pure hg (fun x => some (F x)) items [] ?_ (by simpa using hl)]
  · have : items.filterMap (fun x => some (F x)) = items.map F := congrFun (List.filterMap_eq_map (f := F)) items
    rw [this]
    rfl
  · intro x hx
    obtain ⟨sl', h1, h2, h3⟩ := h x hx
    unfold lcTurn
    rw [h1]
    dsimp only
    rw [h2]
    simp only [noX, bind_val, if_true, h3]
theorem lcD_filter {t : Tg} {vs : List Nat} {src : Slots → Cells → RsG ItD} {p : Slots → Cells → RsG Bool} {f : Slots → Cells → Rs} {sl : Slots} {cs : Cells} {items : List D} {g : List (Nat × List D)} (F : D → D) (pb : D → Bool) (hs : src sl cs = some (.val ⟨items, g⟩, cs)) (hg : grdOk g cs) (hl : items.length ≤ sizeLine)
    (h : ∀ x ∈ items, ∃ sl', setTg t x (wipeD sl vs) = some sl' ∧ p sl' cs = some (.val (pb x), cs) ∧ (pb x = true → f sl' cs = some (.val (F x), cs))) : lcD false t vs src p f sl cs = some (.val (.lst ((items.filter pb).map F)), cs) := by
  unfold lcD
  rw [hs, bind_val]
  show (lcLoop (lcTurn t vs p f sl) g items cs []).bind _ = _
  rw [lcLoop_pure hg (fun x => if pb x = true then some (F x) else none) items [] ?_ (by simpa using hl)]
  · have : items.filterMap (fun x => if pb x = true then some (F x) else none) = (items.filter pb).map F := by
      clear h hl hs
      induction items with
      | nil => rfl
      | cons x r ih =>
        rw [List.filterMap_cons, List.filter_cons]
        by_cases c : pb x = true
        · rw [if_pos c, if_pos c, List.map_cons, ih]
        · rw [if_neg c, if_neg c, ih]
    rw [this]
    rfl
  · intro x hx
    obtain ⟨sl', h1, h2, h3⟩ := h x hx
    unfold lcTurn
    rw [h1]
    dsimp only
    rw [h2]
    by_cases c : pb x = true
    · simp only [noX, bind_val, if_pos c, h3 c]
    · simp only [noX, bind_val, if_neg c]
/-! ### single steps -/
@[simp] theorem bind_val2 {α β : Type} {f : α → Cells → RsG β} {d : α} {cs : Cells} : RsG.bind (some (.val d, cs)) f = f d cs := id rfl
theorem truD_bl (cs : Cells) (b : Bool) : truD cs (.bl b) = some b := rfl
theorem blsOf_mapP {α : Type} (p : α → Bool) : ∀ l : List α, blsOf (l.map fun x => D.bl (p x)) = some (l.map p)
  | [] => rfl
  | x :: l => by
    show blsOf (D.bl (p x) :: l.map fun x => D.bl (p x)) = _
    unfold blsOf
    rw [blsOf_mapP p l]
    rfl
theorem intsOf_mapP {α : Type} (p : α → Int) : ∀ l : List α, intsOf (l.map fun x => D.int (p x)) = some (l.map p)
  | [] => rfl
  | x :: l => by
    show intsOf (D.int (p x) :: l.map fun x => D.int (p x)) = _
    unfold intsOf
    rw [intsOf_mapP p l]
    rfl
section
variable (own : Bool) (cs : Cells)
@[simp] theorem binD_add (i j : Int) : binD own .Add (.int i) (.int j) cs = some (.val (.int (i + j)), cs) := id rfl
@[simp] theorem binD_sub (i j : Int) : binD own .Sub (.int i) (.int j) cs = some (.val (.int (i - j)), cs) := id rfl
theorem binD_mul (i j : Int) (h : CMul i j ∨ CMulW i j) : binD own .Mult (.int i) (.int j) cs = some (.val (.int (i * j)), cs) := if_pos h
theorem binD_fdiv (i j : Int) (h : 0 < j ∧ j.natAbs.log2 < 9000) : binD own .FloorDiv (.int i) (.int j) cs = some (.val (.int (i / j)), cs) := if_pos h
theorem binD_mod (i j : Int) (h : 0 < j) : binD own .Mod (.int i) (.int j) cs = some (.val (.int (i % j)), cs) := if_pos h
theorem binD_pow (i j : Int) (h : 0 ≤ j ∧ j ≤ 1000000 ∧ i.natAbs < 2 ^ 64) : binD own .Pow (.int i) (.int j) cs = some (.val (.int (i ^ j.toNat)), cs) := if_pos h
theorem binD_tup (a b : List D) (h : a.length + b.length ≤ sizeLine) : binD own .Add (.tup a) (.tup b) cs = some (.val (.tup (a ++ b)), cs) := if_pos h
theorem binD_lst (a b : List D) (h : a.length + b.length ≤ sizeLine) : binD false .Add (.lst a) (.lst b) cs = some (.val (.lst (a ++ b)), cs) := if_pos h
theorem binD_rep (a : List D) (k : Int) (h : -(2 ^ 63) ≤ k ∧ k < 2 ^ 63 ∧ a.length * k.toNat ≤ sizeLine) : binD false .Mult (.lst a) (.int k) cs = some (.val (.lst (List.replicate k.toNat a).flatten), cs) := by
  show (if -(2 ^ 63) ≤ k ∧ k < 2 ^ 63 ∧ a.length * k.toNat ≤ sizeLine then mkL false (List.replicate k.toNat a).flatten cs else none) = _
  rw [if_pos h]
  rfl
theorem binD_trep (a : List D) (k : Int) (h : a ≠ [] ∧ -1000 ≤ k ∧ k ≤ 1000 ∧ a.length ≤ 1000) : binD own .Mult (.tup a) (.int k) cs = some (.val (.tup (List.replicate k.toNat a).flatten), cs) := if_pos h
end
theorem at_nat (l : List Int) (k : Nat) (x : Int) (h : l[k]? = some x) : L2.atI (iL l) (k : Int) = some (.int x) := atI_nat (by simp [iL, h])
theorem at_lst (l : List D) (k : Nat) (x : D) (h : l[k]? = some x) : L2.atI l (k : Int) = some x := atI_nat h
theorem cutD_from (l : List D) (k : Nat) (h : k ≤ l.length) : cutD l (some (k : Int)) none = l.drop k := by
  unfold cutD HT.sIx
  dsimp only
  rw [if_neg (by omega)]
  have : min ((k : Int)).toNat l.length = k := by omega
  rw [this, List.take_of_length_le (by simp)]
theorem sizeLine_eq : sizeLine = 16777216 := rfl
theorem iL_mem {l : List Int} {x : D} (h : x ∈ iL l) : ∃ i, x = .int i ∧ i ∈ l := by
  obtain ⟨i, hi, rfl⟩ := List.mem_map.mp h
  exact ⟨i, rfl, hi⟩
theorem zip_iL : ∀ (a b : List Int), zipD (iL a) (iL b) = (a.zip b).map fun p => D.tup [.int p.1, .int p.2]
  | [], _ => by simp [iL, zipD]
  | _ :: _, [] => by simp [iL, zipD]
  | x :: a, y :: b => by
    have := zip_iL a b
    simp only [iL, zipD, List.map_cons, List.zip_cons_cons] at this ⊢
    rw [this]
theorem seqS_eq {f g : Slots → Cells → RsS} {sl : Slots} {cs : Cells} {sl' : Slots} {cs' : Cells} (h : f sl cs = some (.val (.nx, sl'), cs')) : seqS f g sl cs = g sl' cs' := by
  unfold seqS
  rw [h]
  rfl
end EV

namespace EV
open PySem PySem.Spec PyProof.Rows L2 ZG
/-! ### lazy steps: each one speaks of a full application -/
section
variable {α β : Type}
theorem bind_cong {r r' : RsG α} {f : α → Cells → RsG β} (h : r = r') : r.bind f = r'.bind f := by rw [h]
theorem ite_cong {c c' : Prop} [i : Decidable c] [j : Decidable c'] {a b : α} (h : c = c') : (if c then a else b) = if c' then a else b := by
  subst h
  congr
end
theorem ev_cong {α : Type} {r r' : RsG α} {Q : α → Cells → Prop} (h : r = r') : Ev r Q = Ev r' Q := by rw [h]
/-! what stands behind stays as it is till it is its turn: an argument in these brackets is left alone by simp -/
set_option checkBinderAnnotations false in
def lb {α β : Type} (r : RsG α) [f : α → Cells → RsG β] : RsG β := r.bind f
set_option checkBinderAnnotations false in
def evl_ {α : Type} (r : RsG α) [Q : α → Cells → Prop] : Prop := Ev r Q
set_option checkBinderAnnotations false in
def itl {α : Type} (c : Prop) [Decidable c] [a : RsG α] [b : RsG α] : RsG α := if c then a else b
section
variable {α β : Type}
theorem to_lb (r : RsG α) (f : α → Cells → RsG β) : r.bind f = @lb _ _ r f := id rfl
theorem to_evl (r : RsG α) (Q : α → Cells → Prop) : Ev r Q = @evl_ _ r Q := id rfl
theorem to_itl (c : Prop) [i : Decidable c] (a b : RsG α) : (if c then a else b) = @itl α c i a b := id rfl
theorem of_lb (r : RsG α) (f : α → Cells → RsG β) : @lb _ _ r f = r.bind f := id rfl
theorem of_evl (r : RsG α) (Q : α → Cells → Prop) : @evl_ _ r Q = Ev r Q := id rfl
theorem of_itl (c : Prop) [i : Decidable c] (a b : RsG α) : @itl α c i a b = if c then a else b := id rfl
theorem lb_val {f : α → Cells → RsG β} {d : α} {cs : Cells} : @lb α β (some (.val d, cs)) f = f d cs := id rfl
theorem lb_exc {f : α → Cells → RsG β} {d : Exc} {cs : Cells} : @lb α β (some (.exc d, cs)) f = some (.exc d, cs) := id rfl
theorem lb_none {f : α → Cells → RsG β} : @lb α β none f = none := id rfl
theorem itl_t {i : Decidable True} {a b : RsG α} : @itl α True i a b = a := if_pos trivial
theorem itl_f {i : Decidable False} {a b : RsG α} : @itl α False i a b = b := if_neg id
theorem evl_val {Q : α → Cells → Prop} {d : α} {cs : Cells} : @evl_ α (some (.val d, cs)) Q ↔ Q d cs := ev_val
theorem evl_none {Q : α → Cells → Prop} : @evl_ α none Q ↔ False := ev_none
theorem evl_lb {r : RsG α} {f : α → Cells → RsG β} {Q : β → Cells → Prop} : @evl_ β (@lb α β r f) Q ↔ @evl_ α r (fun d cs => Ev (f d cs) Q) := ev_bind
end
variable (T : Tb) (sl : Slots) (cs : Cells)
noncomputable def nxt (T : Tb) (ss : Ss) (q : Fl × Slots) (cs : Cells) : RsS := match q with
  | (.nx, sl) => rns T ss sl cs
  | (.ret d, sl) => some (.val (.ret d, sl), cs)
  | (.bk, sl) => some (.val (.bk, sl), cs)
  | (.ct, sl) => some (.val (.ct, sl), cs)
@[simp] theorem nxt_nx (ss : Ss) : nxt T ss (.nx, sl) cs = rns T ss sl cs := id rfl
@[simp] theorem nxt_ret (ss : Ss) (d : D) : nxt T ss (.ret d, sl) cs = some (.val (.ret d, sl), cs) := id rfl
@[simp] theorem nxt_bk (ss : Ss) : nxt T ss (.bk, sl) cs = some (.val (.bk, sl), cs) := id rfl
@[simp] theorem nxt_ct (ss : Ss) : nxt T ss (.ct, sl) cs = some (.val (.ct, sl), cs) := id rfl
theorem x_nil : rns T .nil sl cs = some (.val (.nx, sl), cs) := by simp only [rns, nxS]
theorem x_cons (s : S) (ss : Ss) : rns T (.cons s ss) sl cs = (rn T s sl cs).bind (nxt T ss) := by
  simp only [rns, seqS]
  congr 1
  funext q cs
  obtain ⟨f, sl⟩ := q
  cases f <;> rfl
theorem x_expr (e : E) : rn T (.expr e) sl cs = ((ev T e).v sl cs).bind fun _ cs => some (.val (.nx, sl), cs) := by simp only [rn, nxS]
theorem x_doc : rn T .doc sl cs = some (.val (.nx, sl), cs) := by simp only [rn, nxS]
theorem x_pas : rn T .pas sl cs = some (.val (.nx, sl), cs) := by simp only [rn, nxS]
theorem x_cont : rn T .cont sl cs = some (.val (.ct, sl), cs) := by simp only [rn]
theorem x_brk : rn T .brk sl cs = some (.val (.bk, sl), cs) := by simp only [rn]
theorem x_ret (e : E) : rn T (.ret e) sl cs = ((ev T e).v sl cs).bind fun d cs => some (.val (.ret d, sl), cs) := by simp only [rn]
theorem x_retN : rn T .retN sl cs = some (.val (.ret .non, sl), cs) := by simp only [rn]
theorem x_ite (c : E) (a b : Ss) : rn T (.ite c a b) sl cs = ((ev T c).t sl cs).bind fun k cs => if k = true then rns T a sl cs else rns T b sl cs := by simp only [rn]
theorem x_set (i : Nat) (e : E) : rn T (.set i e) sl cs = ((ev T e).v sl cs).bind fun d cs => some (.val (.nx, sl.set i (some d)), cs) := by simp only [rn, setS, nxS]
def asgN (t : Tg) (sl : Slots) (d : D) (cs : Cells) : RsS := match setTg t d sl with
  | some sl' => some (.val (.nx, sl'), cs)
  | none => none
@[simp] theorem asgN_tp (is : List Nat) (ds : List D) : asgN (.tp is) sl (.tup ds) cs = if ds.length = is.length then some (.val (.nx, setAll is ds sl), cs) else none := by
  unfold asgN setTg
  dsimp only
  split
  · rename_i sl' h
    split at h
    · cases h
      rename_i c
      rw [if_pos c]
    · cases h
  · rename_i h
    split at h
    · cases h
    · rename_i c
      rw [if_neg c]
theorem x_asg (t : Tg) (e : E) : rn T (.asg t e) sl cs = ((ev T e).v sl cs).bind (asgN t sl) := by
  simp only [rn, asgS, nxS]
  rfl
theorem x_sub (o i e : E) : rn T (.sub o i e) sl cs = ((ev T e).v sl cs).bind fun v cs => ((ev T o).v sl cs).bind fun x cs => ((ev T i).v sl cs).bind fun y cs => (putD x y v cs).bind fun _ cs => some (.val (.nx, sl), cs) := by simp only [rn, subS, nxS]
theorem x_for (t : Tg) (s : Sr) (b : Ss) : rn T (.for t s b) sl cs = (evi T s sl cs).bind fun it cs => forLoop t (rns T b) it.grd it.items sl cs := by simp only [rn, forS]
theorem x_raise (c : Nat) : rn T (.raise c) sl cs = some (.exc ⟨c, [], []⟩, cs) := by simp only [rn]
theorem x_sfld (k : Nat) (o e : E) : rn T (.sfld k o e) sl cs = ((ev T e).v sl cs).bind fun v cs => ((ev T o).v sl cs).bind fun x cs => (fputD T.ci.fl k x v cs).bind fun _ cs => some (.val (.nx, sl), cs) := by simp only [rn, sfldS, nxS]
theorem x_nev : rn T .nev sl cs = none := by simp only [rn]
theorem x_while (n : Nat) (c : E) (b : Ss) : rn T (.while n c b) sl cs = whileLoop (ev T c).t (rns T b) n sl cs := by simp only [rn]
/-! expressions -/
def getV (o : Option (Option D)) (cs : Cells) : Rs := match o with
  | some (some d) => some (.val d, cs)
  | _ => none
@[simp] theorem getV_some (d : D) : getV (some (some d)) cs = some (.val d, cs) := id rfl
theorem x_var (i : Nat) : (ev T (.var i)).v sl cs = getV sl[i]? cs := by
  simp only [ev, dft]
  rfl
theorem x_int (i : Int) : (ev T (.int i)).v sl cs = some (.val (.int i), cs) := by simp only [ev, dft]
theorem x_str (i : Str) : (ev T (.str i)).v sl cs = some (.val (.str i), cs) := by simp only [ev, dft]
theorem x_bl (i : Bool) : (ev T (.bl i)).v sl cs = some (.val (.bl i), cs) := by simp only [ev, dft]
theorem x_non : (ev T .non).v sl cs = some (.val .non, cs) := by simp only [ev, dft]
theorem x_con (i : Nat) : (ev T (.con i)).v sl cs = some (.val (T.con i), cs) := by simp only [ev, dft]
theorem x_tup (es : Es) : (ev T (.tup es)).v sl cs = (evl T es sl cs).bind mkT := by simp only [ev, dft]
theorem x_lst (o : Bool) (es : Es) : (ev T (.lst o es)).v sl cs = (evl T es sl cs).bind (mkL1 o) := by simp only [ev, dft]
theorem x_bin (own : Bool) (o : Operator) (a b : E) : (ev T (.bin own o a b)).v sl cs = ((ev T a).v sl cs).bind fun x cs => ((ev T b).v sl cs).bind fun y cs => binD own o x y cs := by simp only [ev, dft]
theorem x_neg (a : E) : (ev T (.neg a)).v sl cs = ((ev T a).v sl cs).bind negD := by simp only [ev, dft]
theorem x_notv (a : E) : (ev T (.not a)).v sl cs = (((ev T a).v sl cs).bind truR).bind fun b cs => bB (!b) cs := by simp only [ev]
theorem x_nott (a : E) : (ev T (.not a)).t sl cs = ((ev T a).t sl cs).bind notB := by simp only [ev]
theorem x_andv (es : Es) : (ev T (.and es)).v sl cs = andV (evs T es) sl cs := by simp only [ev]
theorem x_andt (es : Es) : (ev T (.and es)).t sl cs = andT (evs T es) sl cs := by simp only [ev]
theorem x_orv (es : Es) : (ev T (.or es)).v sl cs = orV (evs T es) sl cs := by simp only [ev]
theorem x_ort (es : Es) : (ev T (.or es)).t sl cs = orT (evs T es) sl cs := by simp only [ev]
theorem x_cmpv (o : CmpOp) (a b : E) : (ev T (.cmp o a b)).v sl cs = ((ev T a).v sl cs).bind fun x cs => ((ev T b).v sl cs).bind fun y cs => cmpD o x y cs := by simp only [ev]
theorem x_cmpt (o : CmpOp) (a b : E) : (ev T (.cmp o a b)).t sl cs = ((ev T (.cmp o a b)).v sl cs).bind blD := by simp only [ev]
theorem x_chnv (o o' : CmpOp) (a b c : E) : (ev T (.chn o o' a b c)).v sl cs = chnD (ev T a).v (ev T b).v (ev T c).v o o' sl cs := by simp only [ev]
theorem x_chnt (o o' : CmpOp) (a b c : E) : (ev T (.chn o o' a b c)).t sl cs = ((ev T (.chn o o' a b c)).v sl cs).bind blD := by simp only [ev]
theorem x_ife (c a b : E) : (ev T (.ife c a b)).v sl cs = ((ev T c).t sl cs).bind fun k cs => if k = true then (ev T a).v sl cs else (ev T b).v sl cs := by simp only [ev]
theorem x_ix (a b : E) : (ev T (.ix a b)).v sl cs = ((ev T a).v sl cs).bind fun x cs => ((ev T b).v sl cs).bind fun y cs => ixD x y cs := by simp only [ev, dft]
theorem x_sl (own : Bool) (a : E) (lo hi : Ep) : (ev T (.sl own a lo hi)).v sl cs = ((ev T a).v sl cs).bind fun x cs => (partD (evp T lo) sl cs).bind fun l cs => (partD (evp T hi) sl cs).bind fun u cs => slD own x l u cs := by simp only [ev, dft]
theorem x_isi (a : E) (m : String) : (ev T (.isi a m)).v sl cs = ((ev T a).v sl cs).bind (isxD T.ci.kn (.inl m)) := by simp only [ev, dft]
theorem x_isis (a : E) (m : List String) : (ev T (.isis a m)).v sl cs = ((ev T a).v sl cs).bind (isxsD T.ci.kn m) := by simp only [ev, dft]
theorem x_iso (a : E) (c : Nat) : (ev T (.iso a c)).v sl cs = ((ev T a).v sl cs).bind (isxD T.ci.kn (.inr c)) := by simp only [ev, dft]
theorem x_tyiv (neg : Bool) (a : E) (m : String) : (ev T (.tyi neg a m)).v sl cs = ((ev T a).v sl cs).bind (tyiD neg m) := by simp only [ev]
theorem x_tyit (neg : Bool) (a : E) (m : String) : (ev T (.tyi neg a m)).t sl cs = ((ev T (.tyi neg a m)).v sl cs).bind blD := by simp only [ev]
theorem x_fld (a : E) (k : Nat) : (ev T (.fld a k)).v sl cs = ((ev T a).v sl cs).bind (fldD k) := by simp only [ev, dft]
noncomputable def mclN (T : Tb) (j : Nat) (es : Es) (sl : Slots) (x : D) (cs : Cells) : Rs := match insD cs x with
  | some (c, ks, _) => if ks.contains j then none else match T.ci.mt c j with
    | some i => (evl T es sl cs).bind fun ds cs => T.sem i (x :: ds) cs
    | none => none
  | none => none
theorem x_mcl (j : Nat) (o : E) (es : Es) : (ev T (.mcl j o es)).v sl cs = ((ev T o).v sl cs).bind (mclN T j es sl) := by
  simp only [ev, dft]
  rfl
theorem x_new (own : Bool) (c : Nat) (es : Es) : (ev T (.new own c es)).v sl cs = newS T own c es.isNil (evl T es) sl cs := by simp only [ev, dft]
def howR (hw : Nat → Option Str) : Rs → Rs
  | some (.val d, cs') => some (.val (.lst [.str "told", d]), cs')
  | some (.exc x, cs') => match hw x.cls with
    | some w => if x.ks = [] then some (.val (.lst [.str w]), cs') else none
    | none => none
  | none => none
@[simp] theorem howR_val (hw : Nat → Option Str) (d : D) (cs : Cells) : howR hw (some (.val d, cs)) = some (.val (.lst [.str "told", d]), cs) := id rfl
theorem howR_exc (hw : Nat → Option Str) (c : Nat) (cs : Cells) {w : Str} (h : hw c = some w) : howR hw (some (.exc ⟨c, [], []⟩, cs)) = some (.val (.lst [.str w]), cs) := by
  unfold howR
  dsimp only
  rw [h]
  simp
theorem x_how (e : E) : (ev T (.how e)).v sl cs = howR T.ci.hw ((ev T e).v sl cs) := by
  simp only [ev, dft]
  unfold howD howR
  rfl
theorem x_rp (e : E) : (ev T (.rp e)).v sl cs = ((ev T e).v sl cs).bind reprD := by simp only [ev, dft]
theorem x_dl (k v : Int) : (ev T (.dl k v)).v sl cs = some (.val (.dct [.inl k] [.int v]), cs) := by simp only [ev, dft]
theorem t_how (e : E) : (ev T (.how e)).t sl cs = ((ev T (.how e)).v sl cs).bind truR := by simp only [ev, dft]
theorem x_blt (n : String) (own : Bool) (es : Es) : (ev T (.blt n own es)).v sl cs = (evl T es sl cs).bind (bltD n own) := by simp only [ev, dft]
theorem x_tlt (n : String) (own : Bool) (es : Es) : (ev T (.tlt n own es)).v sl cs = (evl T es sl cs).bind (tltD n own) := by simp only [ev, dft]
theorem x_mth (m : Mt) (o : E) (es : Es) : (ev T (.mth m o es)).v sl cs = bmR "list" (ev T o).v (evl T es) m.f sl cs := by simp only [ev, dft]
theorem x_call (i : Nat) (es : Es) : (ev T (.call i es)).v sl cs = (evl T es sl cs).bind (T.sem i) := by simp only [ev, dft]
theorem x_lc (own : Bool) (vs : List Nat) (t : Tg) (s : Sr) (c : Ep) (e : E) : (ev T (.lc own vs t s c e)).v sl cs = lcD own t vs (evi T s) (tstO (evo T c)) (ev T e).v sl cs := by simp only [ev, dft]
/-! as tests -/
theorem t_var (i : Nat) : (ev T (.var i)).t sl cs = ((ev T (.var i)).v sl cs).bind truR := by simp only [ev, dft]
theorem t_int (i : Int) : (ev T (.int i)).t sl cs = ((ev T (.int i)).v sl cs).bind truR := by simp only [ev, dft]
theorem t_str (x : Str) : (ev T (.str x)).t sl cs = ((ev T (.str x)).v sl cs).bind truR := by simp only [ev, dft]
theorem t_bl (b : Bool) : (ev T (.bl b)).t sl cs = ((ev T (.bl b)).v sl cs).bind truR := by simp only [ev, dft]
theorem t_non  : (ev T (.non)).t sl cs = ((ev T (.non)).v sl cs).bind truR := by simp only [ev, dft]
theorem t_con (i : Nat) : (ev T (.con i)).t sl cs = ((ev T (.con i)).v sl cs).bind truR := by simp only [ev, dft]
theorem t_tup (es : Es) : (ev T (.tup es)).t sl cs = ((ev T (.tup es)).v sl cs).bind truR := by simp only [ev, dft]
theorem t_lst (o : Bool) (es : Es) : (ev T (.lst o es)).t sl cs = ((ev T (.lst o es)).v sl cs).bind truR := by simp only [ev, dft]
theorem t_bin (own : Bool) (o : Operator) (a b : E) : (ev T (.bin own o a b)).t sl cs = ((ev T (.bin own o a b)).v sl cs).bind truR := by simp only [ev, dft]
theorem t_neg (a : E) : (ev T (.neg a)).t sl cs = ((ev T (.neg a)).v sl cs).bind truR := by simp only [ev, dft]
theorem t_ix (a b : E) : (ev T (.ix a b)).t sl cs = ((ev T (.ix a b)).v sl cs).bind truR := by simp only [ev, dft]
theorem t_sl (own : Bool) (a : E) (lo hi : Ep) : (ev T (.sl own a lo hi)).t sl cs = ((ev T (.sl own a lo hi)).v sl cs).bind truR := by simp only [ev, dft]
theorem t_isi (a : E) (m : String) : (ev T (.isi a m)).t sl cs = ((ev T (.isi a m)).v sl cs).bind truR := by simp only [ev, dft]
theorem t_isis (a : E) (m : List String) : (ev T (.isis a m)).t sl cs = ((ev T (.isis a m)).v sl cs).bind truR := by simp only [ev, dft]
theorem t_iso (a : E) (c : Nat) : (ev T (.iso a c)).t sl cs = ((ev T (.iso a c)).v sl cs).bind truR := by simp only [ev, dft]
theorem t_fld (a : E) (c : Nat) : (ev T (.fld a c)).t sl cs = ((ev T (.fld a c)).v sl cs).bind truR := by simp only [ev, dft]
theorem t_mcl (j : Nat) (o : E) (es : Es) : (ev T (.mcl j o es)).t sl cs = ((ev T (.mcl j o es)).v sl cs).bind truR := by simp only [ev, dft]
theorem t_new (own : Bool) (c : Nat) (es : Es) : (ev T (.new own c es)).t sl cs = ((ev T (.new own c es)).v sl cs).bind truR := by simp only [ev, dft]
theorem t_blt (n : String) (own : Bool) (es : Es) : (ev T (.blt n own es)).t sl cs = ((ev T (.blt n own es)).v sl cs).bind truR := by simp only [ev, dft]
theorem t_tlt (n : String) (own : Bool) (es : Es) : (ev T (.tlt n own es)).t sl cs = ((ev T (.tlt n own es)).v sl cs).bind truR := by simp only [ev, dft]
theorem t_mth (m : Mt) (o : E) (es : Es) : (ev T (.mth m o es)).t sl cs = ((ev T (.mth m o es)).v sl cs).bind truR := by simp only [ev, dft]
theorem t_call (i : Nat) (es : Es) : (ev T (.call i es)).t sl cs = ((ev T (.call i es)).v sl cs).bind truR := by simp only [ev, dft]
theorem t_lc (own : Bool) (vs : List Nat) (t : Tg) (s : Sr) (c : Ep) (e : E) : (ev T (.lc own vs t s c e)).t sl cs = ((ev T (.lc own vs t s c e)).v sl cs).bind truR := by simp only [ev, dft]
/-! lists of expressions -/
theorem x_l0 : evl T .nil sl cs = some (.val [], cs) := by simp only [evl]
theorem x_l1 (e : E) (es : Es) : evl T (.cons e es) sl cs = ((ev T e).v sl cs).bind fun d cs => (evl T es sl cs).bind fun ds cs => some (.val (d :: ds), cs) := by simp only [evl]
noncomputable def starN (T : Tb) (es : Es) (sl : Slots) (d : D) (cs : Cells) : RsG (List D) := match seqD cs d with
  | some (_, xs) => (evl T es sl cs).bind fun ds cs => some (.val (xs ++ ds), cs)
  | none => none
theorem x_l2 (e : E) (es : Es) : evl T (.star e es) sl cs = ((ev T e).v sl cs).bind (starN T es sl) := by
  simp only [evl, starV]
  rfl
@[simp] theorem starN_tup (es : Es) (xs : List D) : starN T es sl (.tup xs) cs = (evl T es sl cs).bind fun ds cs => some (.val (xs ++ ds), cs) := id rfl
@[simp] theorem starN_lst (es : Es) (xs : List D) : starN T es sl (.lst xs) cs = (evl T es sl cs).bind fun ds cs => some (.val (xs ++ ds), cs) := id rfl
noncomputable def andN (T : Tb) (es : Es) (sl : Slots) (d : D) (cs : Cells) : Rs := match truD cs d with
  | some true => andV (evs T es) sl cs
  | some false => some (.val d, cs)
  | none => none
noncomputable def orN (T : Tb) (es : Es) (sl : Slots) (d : D) (cs : Cells) : Rs := match truD cs d with
  | some false => orV (evs T es) sl cs
  | some true => some (.val d, cs)
  | none => none
@[simp] theorem andN_bl (es : Es) (b : Bool) : andN T es sl (.bl b) cs = if b = true then andV (evs T es) sl cs else some (.val (.bl false), cs) := by cases b <;> rfl
@[simp] theorem orN_bl (es : Es) (b : Bool) : orN T es sl (.bl b) cs = if b = true then some (.val (.bl true), cs) else orV (evs T es) sl cs := by cases b <;> rfl
theorem x_av1 (e : E) : andV (evs T (.cons e .nil)) sl cs = (ev T e).v sl cs := by simp only [evs, andV]
theorem x_av2 (e e2 : E) (es : Es) : andV (evs T (.cons e (.cons e2 es))) sl cs = ((ev T e).v sl cs).bind (andN T (.cons e2 es) sl) := by
  simp only [evs, andV]
  rfl
theorem x_ov1 (e : E) : orV (evs T (.cons e .nil)) sl cs = (ev T e).v sl cs := by simp only [evs, orV]
theorem x_ov2 (e e2 : E) (es : Es) : orV (evs T (.cons e (.cons e2 es))) sl cs = ((ev T e).v sl cs).bind (orN T (.cons e2 es) sl) := by
  simp only [evs, orV]
  rfl
theorem x_at1 (e : E) : andT (evs T (.cons e .nil)) sl cs = (ev T e).t sl cs := by simp only [evs, andT]
theorem x_at2 (e e2 : E) (es : Es) : andT (evs T (.cons e (.cons e2 es))) sl cs = ((ev T e).t sl cs).bind fun k cs => if k = true then andT (evs T (.cons e2 es)) sl cs else some (.val false, cs) := by simp only [evs, andT]
theorem x_ot1 (e : E) : orT (evs T (.cons e .nil)) sl cs = (ev T e).t sl cs := by simp only [evs, orT]
theorem x_ot2 (e e2 : E) (es : Es) : orT (evs T (.cons e (.cons e2 es))) sl cs = ((ev T e).t sl cs).bind fun k cs => if k = true then some (.val true, cs) else orT (evs T (.cons e2 es)) sl cs := by simp only [evs, orT]
theorem x_p0 : partD (evp T .no) sl cs = some (.val none, cs) := by simp only [evp, partD]
def partN (d : D) (cs : Cells) : RsG (Option Int) := match d with
  | .int i => some (.val (some i), cs)
  | _ => none
@[simp] theorem partN_int (i : Int) : partN (.int i) cs = some (.val (some i), cs) := id rfl
theorem x_p1 (e : E) : partD (evp T (.yes e)) sl cs = ((ev T e).v sl cs).bind partN := by
  simp only [evp, partD]
  rfl
theorem x_o0 : tstO (evo T .no) sl cs = some (.val true, cs) := by simp only [evo, tstO]
theorem x_o1 (e : E) : tstO (evo T (.yes e)) sl cs = (ev T e).t sl cs := by simp only [evo, tstO]
theorem x_seq (a : E) : evi T (.seq a) sl cs = ((ev T a).v sl cs).bind srcSeq := by simp only [evi]
theorem x_rng1 (a : E) : evi T (.rng1 a) sl cs = ((ev T a).v sl cs).bind srcRng1 := by simp only [evi]
theorem x_rng2 (a b : E) : evi T (.rng2 a b) sl cs = ((ev T a).v sl cs).bind fun x cs => ((ev T b).v sl cs).bind fun y cs => srcRng2 x y cs := by simp only [evi]
theorem x_zip (a b : E) : evi T (.zip a b) sl cs = ((ev T a).v sl cs).bind fun x cs => ((ev T b).v sl cs).bind fun y cs => srcZip x y cs := by simp only [evi]
/-! a def -/
def finN (q : Fl × Slots) (cs : Cells) : Rs := match q with
  | (.nx, _) => some (.val .non, cs)
  | (.ret d, _) => some (.val d, cs)
  | _ => none
@[simp] theorem finN_nx : finN (.nx, sl) cs = some (.val .non, cs) := id rfl
@[simp] theorem finN_ret (d : D) : finN (.ret d, sl) cs = some (.val d, cs) := id rfl
theorem x_def (np n : Nat) (b : Ss) (ds : List D) (h : ds.length = np) : semOf np n false (rns T b) ds cs = (rns T b (initS ds n) cs).bind finN := by
  unfold semOf
  rw [if_pos h]
  rfl
/-! the steps of data -/
@[simp] theorem mkT_if (ds : List D) : mkT ds cs = if ds.length ≤ sizeLine then some (.val (.tup ds), cs) else none := id rfl
@[simp] theorem mkL1_if (ds : List D) : mkL1 false ds cs = if ds.length ≤ sizeLine then some (.val (.lst ds), cs) else none := id rfl
@[simp] theorem neg_int (i : Int) : negD (.int i) cs = some (.val (.int (-i)), cs) := id rfl
@[simp] theorem bB_eq (b : Bool) : bB b cs = some (.val (.bl b), cs) := id rfl
@[simp] theorem notB_eq (b : Bool) : notB b cs = some (.val (!b), cs) := id rfl
@[simp] theorem blD_eq (b : Bool) : blD (.bl b) cs = some (.val b, cs) := id rfl
@[simp] theorem truR_bl (b : Bool) : truR (.bl b) cs = some (.val b, cs) := id rfl
@[simp] theorem truR_int (i : Int) : truR (.int i) cs = some (.val (i != 0), cs) := id rfl
@[simp] theorem lt_int (i j : Int) : cmpD .Lt (.int i) (.int j) cs = some (.val (.bl (decide (i < j))), cs) := id rfl
@[simp] theorem le_int (i j : Int) : cmpD .LtE (.int i) (.int j) cs = some (.val (.bl (decide (i ≤ j))), cs) := id rfl
@[simp] theorem gt_int (i j : Int) : cmpD .Gt (.int i) (.int j) cs = some (.val (.bl (decide (i > j))), cs) := id rfl
@[simp] theorem ge_int (i j : Int) : cmpD .GtE (.int i) (.int j) cs = some (.val (.bl (decide (i ≥ j))), cs) := id rfl
theorem eq_do {x y : D} {b : Bool} (h : eqD cs x y = some b) : cmpD .Eq x y cs = some (.val (.bl b), cs) := by
  show (eqS cs x y).map _ = _
  rw [eqS_of h]
  rfl
theorem ne_do {x y : D} {b : Bool} (h : eqD cs x y = some b) : cmpD .NotEq x y cs = some (.val (.bl (!b)), cs) := by
  show (eqS cs x y).map _ = _
  rw [eqS_of h]
  rfl
theorem eq_str (a b : Str) : cmpD .Eq (.str a) (.str b) cs = some (.val (.bl (a == b)), cs) := id rfl
theorem ne_str (a b : Str) : cmpD .NotEq (.str a) (.str b) cs = some (.val (.bl (!(a == b))), cs) := id rfl
@[simp] theorem eq_int (i j : Int) : cmpD .Eq (.int i) (.int j) cs = some (.val (.bl (i == j)), cs) := eq_do cs (eqD_int cs i j)
@[simp] theorem ne_int (i j : Int) : cmpD .NotEq (.int i) (.int j) cs = some (.val (.bl (!(i == j))), cs) := ne_do cs (eqD_int cs i j)
@[simp] theorem eq_bl (i j : Bool) : cmpD .Eq (.bl i) (.bl j) cs = some (.val (.bl (i == j)), cs) := eq_do cs (by simp [eqD, toPy, SeqAt.shaped, PyData.canLay0, PyData.depth, PyData.eqv])
@[simp] theorem ne_bl (i j : Bool) : cmpD .NotEq (.bl i) (.bl j) cs = some (.val (.bl (!(i == j))), cs) := ne_do cs (by simp [eqD, toPy, SeqAt.shaped, PyData.canLay0, PyData.depth, PyData.eqv])
@[simp] theorem len_tup (l : List D) (own : Bool) : bltD "len" own [.tup l] cs = some (.val (.int l.length), cs) := id rfl
@[simp] theorem len_lst (l : List D) (own : Bool) : bltD "len" own [.lst l] cs = some (.val (.int l.length), cs) := id rfl
@[simp] theorem len_frz (l : List D) (own : Bool) : bltD "len" own [.frz l] cs = some (.val (.int l.length), cs) := id rfl
theorem all_bls (l : List Bool) (own : Bool) : bltD "all" own [.lst (l.map D.bl)] cs = some (.val (.bl (l.all id)), cs) := by simp [bltD, seqD]
theorem any_bls (l : List Bool) (own : Bool) : bltD "any" own [.lst (l.map D.bl)] cs = some (.val (.bl (l.any id)), cs) := by simp [bltD, seqD]
theorem all_iL (l : List Int) (own : Bool) : bltD "all" own [.lst (iL l)] cs = some (.val (.bl (l.all (· != 0))), cs) := by
  cases l with
  | nil => rfl
  | cons x l => simp [bltD, seqD, blsOf_ints, intsOf_ints]
theorem any_iL (l : List Int) (own : Bool) : bltD "any" own [.lst (iL l)] cs = some (.val (.bl (l.any (· != 0))), cs) := by
  cases l with
  | nil => rfl
  | cons x l => simp [bltD, seqD, blsOf_ints, intsOf_ints]
theorem sum_iL (l : List Int) (own : Bool) : bltD "sum" own [.lst (iL l)] cs = some (.val (.int l.sum), cs) := by simp [bltD, seqD, intsOf_ints]
@[simp] theorem tuple_lst (l : List D) (own : Bool) : tltD "tuple" own [.lst l] cs = some (.val (.tup l), cs) := id rfl
@[simp] theorem tuple_tup (l : List D) (own : Bool) : tltD "tuple" own [.tup l] cs = some (.val (.tup l), cs) := id rfl
@[simp] theorem list_lst (l : List D) : tltD "list" false [.lst l] cs = some (.val (.lst l), cs) := id rfl
@[simp] theorem list_tup (l : List D) : tltD "list" false [.tup l] cs = some (.val (.lst l), cs) := id rfl
@[simp] theorem int_bl (b : Bool) (own : Bool) : tltD "int" own [.bl b] cs = some (.val (.int (if b then 1 else 0)), cs) := id rfl
@[simp] theorem srcSeq_lst (l : List D) : srcSeq (.lst l) cs = some (.val ⟨l, []⟩, cs) := id rfl
@[simp] theorem srcSeq_tup (l : List D) : srcSeq (.tup l) cs = some (.val ⟨l, []⟩, cs) := id rfl
@[simp] theorem srcZip_ll (l m : List D) : srcZip (.lst l) (.lst m) cs = some (.val ⟨zipD l m, []⟩, cs) := id rfl
@[simp] theorem srcZip_tt (l m : List D) : srcZip (.tup l) (.tup m) cs = some (.val ⟨zipD l m, []⟩, cs) := id rfl
@[simp] theorem srcZip_tl (l m : List D) : srcZip (.tup l) (.lst m) cs = some (.val ⟨zipD l m, []⟩, cs) := id rfl
@[simp] theorem srcZip_lt (l m : List D) : srcZip (.lst l) (.tup m) cs = some (.val ⟨zipD l m, []⟩, cs) := id rfl
@[simp] theorem atR_some (x : D) : atR (some x) cs = some (.val x, cs) := id rfl
@[simp] theorem ix_tup (l : List D) (i : Int) : ixD (.tup l) (.int i) cs = atR (L2.atI l i) cs := by
  simp only [ixD, seqD]
  cases L2.atI l i <;> rfl
@[simp] theorem ix_lst (l : List D) (i : Int) : ixD (.lst l) (.int i) cs = atR (L2.atI l i) cs := by
  simp only [ixD, seqD]
  cases L2.atI l i <;> rfl
@[simp] theorem ix_frz (l : List D) (i : Int) : ixD (.frz l) (.int i) cs = atR (L2.atI l i) cs := by
  simp only [ixD, seqD]
  cases L2.atI l i <;> rfl
section
variable (a b c d e f : D) (l : List D)
@[simp] theorem atI_0 : L2.atI (a :: l) 0 = some a := at_lst (a :: l) 0 a rfl
@[simp] theorem atI_1 : L2.atI (a :: b :: l) 1 = some b := at_lst _ 1 b rfl
@[simp] theorem atI_2 : L2.atI (a :: b :: c :: l) 2 = some c := at_lst _ 2 c rfl
@[simp] theorem atI_3 : L2.atI (a :: b :: c :: d :: l) 3 = some d := at_lst _ 3 d rfl
@[simp] theorem atI_4 : L2.atI (a :: b :: c :: d :: e :: l) 4 = some e := at_lst _ 4 e rfl
@[simp] theorem atI_5 : L2.atI (a :: b :: c :: d :: e :: f :: l) 5 = some f := at_lst _ 5 f rfl
@[simp] theorem cut_1 : cutD (a :: l) (some 1) none = l := cutD_from (a :: l) 1 (by simp)
@[simp] theorem atI_i0 (x : Int) (l : List Int) : L2.atI (iL (x :: l)) 0 = some (.int x) := atI_0 _ _
@[simp] theorem cut_i1 (x : Int) (l : List Int) : cutD (iL (x :: l)) (some 1) none = iL l := cut_1 _ _
end
@[simp] theorem sl_tup (l : List D) (lo hi : Option Int) (own : Bool) : slD own (.tup l) lo hi cs = some (.val (.tup (cutD l lo hi)), cs) := id rfl
@[simp] theorem sl_lst (l : List D) (lo hi : Option Int) : slD false (.lst l) lo hi cs = some (.val (.lst (cutD l lo hi)), cs) := id rfl
theorem all_P {α : Type} (p : α → Bool) (l : List α) (own : Bool) : bltD "all" own [.lst (l.map fun x => D.bl (p x))] cs = some (.val (.bl (l.all p)), cs) := by simp [bltD, seqD, blsOf_mapP, Function.comp_def]
theorem any_P {α : Type} (p : α → Bool) (l : List α) (own : Bool) : bltD "any" own [.lst (l.map fun x => D.bl (p x))] cs = some (.val (.bl (l.any p)), cs) := by simp [bltD, seqD, blsOf_mapP, Function.comp_def]
section
variable (kn : Nat → Bool) (m : Sum String Nat)
@[simp] theorem isx_int (i : Int) : isxD kn m (.int i) cs = some (.val (.bl (askK (.inl "int") m)), cs) := id rfl
@[simp] theorem isx_bl (i : Bool) : isxD kn m (.bl i) cs = some (.val (.bl (askK (.inl "bool") m)), cs) := id rfl
@[simp] theorem isx_non : isxD kn m .non cs = some (.val (.bl (askK (.inl "NoneType") m)), cs) := id rfl
@[simp] theorem isx_tup (i : List D) : isxD kn m (.tup i) cs = some (.val (.bl (askK (.inl "tuple") m)), cs) := id rfl
@[simp] theorem isx_lst (i : List D) : isxD kn m (.lst i) cs = some (.val (.bl (askK (.inl "list") m)), cs) := id rfl
@[simp] theorem isx_frz (i : List D) : isxD kn m (.frz i) cs = some (.val (.bl (askK (.inl "list") m)), cs) := id rfl
@[simp] theorem isx_str (i : Str) : isxD kn m (.str i) cs = some (.val (.bl (askK (.inl "str") m)), cs) := id rfl
@[simp] theorem isx_dct (ks : List Key) (i : List D) : isxD kn m (.dct ks i) cs = some (.val (.bl (askK (.inl "dict") m)), cs) := id rfl
@[simp] theorem isx_ins (c : Nat) (ks : List Nat) (i : List D) : isxD kn m (.ins c ks i) cs = if kn c = true then some (.val (.bl (askK (.inr c) m)), cs) else none := by
  simp only [isxD, kndD, tyD, insD]
  by_cases h : kn c = true <;> simp [h]
variable (ms : List String)
@[simp] theorem isxs_int (i : Int) : isxsD kn ms (.int i) cs = some (.val (.bl (ms.any fun m => askK (.inl "int") (.inl m))), cs) := id rfl
@[simp] theorem isxs_bl (i : Bool) : isxsD kn ms (.bl i) cs = some (.val (.bl (ms.any fun m => askK (.inl "bool") (.inl m))), cs) := id rfl
@[simp] theorem isxs_non : isxsD kn ms .non cs = some (.val (.bl (ms.any fun m => askK (.inl "NoneType") (.inl m))), cs) := id rfl
@[simp] theorem isxs_tup (i : List D) : isxsD kn ms (.tup i) cs = some (.val (.bl (ms.any fun m => askK (.inl "tuple") (.inl m))), cs) := id rfl
@[simp] theorem isxs_lst (i : List D) : isxsD kn ms (.lst i) cs = some (.val (.bl (ms.any fun m => askK (.inl "list") (.inl m))), cs) := id rfl
@[simp] theorem isxs_frz (i : List D) : isxsD kn ms (.frz i) cs = some (.val (.bl (ms.any fun m => askK (.inl "list") (.inl m))), cs) := id rfl
@[simp] theorem isxs_str (i : Str) : isxsD kn ms (.str i) cs = some (.val (.bl (ms.any fun m => askK (.inl "str") (.inl m))), cs) := id rfl
@[simp] theorem isxs_dct (ks : List Key) (i : List D) : isxsD kn ms (.dct ks i) cs = some (.val (.bl (ms.any fun m => askK (.inl "dict") (.inl m))), cs) := id rfl
end
@[simp] theorem askK_ll (n m : String) : askK (.inl n) (.inl m) = isTy n m := rfl
@[simp] theorem askK_rr (n m : Nat) : askK (.inr n) (.inr m) = decide (n = m) := rfl
@[simp] theorem askK_lr (n : String) (m : Nat) : askK (.inl n) (.inr m) = false := rfl
@[simp] theorem askK_rl (n : Nat) (m : String) : askK (.inr n) (.inl m) = false := rfl
section
variable (neg : Bool) (m : String)
@[simp] theorem tyi_int (i : Int) : tyiD neg m (.int i) cs = some (.val (.bl (if neg = true then !decide ("int" = m) else decide ("int" = m))), cs) := id rfl
@[simp] theorem tyi_b (i : Bool) : tyiD neg m (.bl i) cs = some (.val (.bl (if neg = true then !decide ("bool" = m) else decide ("bool" = m))), cs) := id rfl
@[simp] theorem tyi_non : tyiD neg m .non cs = some (.val (.bl (if neg = true then !decide ("NoneType" = m) else decide ("NoneType" = m))), cs) := id rfl
@[simp] theorem tyi_str (i : Str) : tyiD neg m (.str i) cs = some (.val (.bl (if neg = true then !decide ("str" = m) else decide ("str" = m))), cs) := id rfl
@[simp] theorem tyi_tup (i : List D) : tyiD neg m (.tup i) cs = some (.val (.bl (if neg = true then !decide ("tuple" = m) else decide ("tuple" = m))), cs) := id rfl
@[simp] theorem tyi_lst (i : List D) : tyiD neg m (.lst i) cs = some (.val (.bl (if neg = true then !decide ("list" = m) else decide ("list" = m))), cs) := id rfl
@[simp] theorem tyi_frz (i : List D) : tyiD neg m (.frz i) cs = some (.val (.bl (if neg = true then !decide ("list" = m) else decide ("list" = m))), cs) := id rfl
@[simp] theorem tyi_dct (ks : List Key) (i : List D) : tyiD neg m (.dct ks i) cs = some (.val (.bl (if neg = true then !decide ("dict" = m) else decide ("dict" = m))), cs) := id rfl
end
@[simp] theorem fld_ins (k c : Nat) (ks : List Nat) (ds : List D) : fldD k (.ins c ks ds) cs = atR (lkN k ks ds) cs := id rfl
@[simp] theorem lkN_cons (k m : Nat) (ms : List Nat) (d : D) (ds : List D) : lkN k (m :: ms) (d :: ds) = if m = k then some d else lkN k ms ds := id rfl
@[simp] theorem mclN_ins (j : Nat) (es : Es) (c : Nat) (ks : List Nat) (ds : List D) : mclN T j es sl (.ins c ks ds) cs = if ks.contains j then none else match T.ci.mt c j with
    | some i => (evl T es sl cs).bind fun ds' cs => T.sem i (.ins c ks ds :: ds') cs
    | none => none := id rfl
/-- making, where it is known how -/
theorem newS_own {own : Bool} {c i : Nat} (b : Bool) (A : Slots → Cells → RsG (List D)) (h : T.ci.ini c = some (some i)) : newS T own c b A sl cs = (A sl cs).bind (newD own (T.sem i) c) := by
  unfold newS
  rw [h]
theorem newS_non {own : Bool} {c : Nat} (A : Slots → Cells → RsG (List D)) (h : T.ci.ini c = some none) : newS T own c true A sl cs = new0 own c cs := by
  unfold newS
  rw [h]
  rfl
@[simp] theorem new0_f (c : Nat) : new0 false c cs = some (.val (.ins c [] []), cs) := id rfl
/-- an instance that is made for good, where its __init__ leaves nothing else behind -/
theorem newD_good {F : List D → Cells → Rs} {c : Nat} {ds es : List D} {ks : List Nat} (h : F (.ref cs.length :: ds) (cs ++ [.ins c [] []]) = some (.val .non, cs ++ [.ins c ks es])) (h1 : cleanA cs.length es = true) (h2 : cs.all (cleanC cs.length) = true) : newD false F c ds cs = some (.val (.ins c ks es), cs) := by
  unfold newD
  rw [h, bind_val]
  have e1 : (cs ++ [Cell.ins c ks es])[cs.length]? = some (.ins c ks es) := by simp
  have e2 : ((cs ++ [Cell.ins c ks es]).set cs.length Cell.dead).take cs.length = cs := by
    rw [List.set_append_right _ _ (Nat.le_refl _)]
    simp
  simp only [doneI, Bool.false_eq_true, if_false, e1]
  unfold gcR
  dsimp only
  rw [e2]
  simp only [clean, h1, h2, and_self, if_true]
@[simp] theorem abs_int (x : Int) (own : Bool) : bltD "abs" own [.int x] cs = some (.val (.int (x.natAbs : Int)), cs) := by
  show some (Out.val (D.int (if x < 0 then -x else x)), cs) = _
  have : (if x < 0 then -x else x) = (x.natAbs : Int) := by split <;> omega
  rw [this]
@[simp] theorem max_int (x y : Int) (own : Bool) : bltD "max" own [.int x, .int y] cs = some (.val (.int (max x y)), cs) := by
  show some (Out.val (D.int (if y > x then y else x)), cs) = _
  have : (if y > x then y else x) = max x y := by split <;> omega
  rw [this]
@[simp] theorem min_int (x y : Int) (own : Bool) : bltD "min" own [.int x, .int y] cs = some (.val (.int (min x y)), cs) := by
  show some (Out.val (D.int (if y < x then y else x)), cs) = _
  have : (if y < x then y else x) = min x y := by split <;> omega
  rw [this]
end EV

namespace EV
/-! ### the mathematics of forms -/
def addF (f g : List Int) : List Int := List.zipWith (fun x y => x + y) f g
theorem addF_len {f g : List Int} (h : f.length = g.length) : (addF f g).length = f.length := by
  unfold addF
  rw [List.length_zipWith]
  omega
theorem addF_get {f g : List Int} {i : Nat} {x y : Int} (hx : f[i]? = some x) (hy : g[i]? = some y) : (addF f g)[i]? = some (x + y) := by
  unfold addF
  rw [List.getElem?_zipWith, hx, hy]
def oftF (f : List Int) (m : Int) : List Int := f.map fun x => x * m
theorem oftF_len (f : List Int) (m : Int) : (oftF f m).length = f.length := List.length_map ..
def conF : List Int → List Int
  | [] => []
  | x :: r => (x * -1 - 1) :: oftF r (-1)
def ledGo : List Int → List Int → List (List Int) → List Int
  | t, n :: ns, g :: gs => ledGo (addF t (oftF g n)) ns gs
  | t, [], _ => t
  | t, _ :: _, [] => t
theorem ledGo_snoc : ∀ (ns : List Int) (gs : List (List Int)) (t : List Int) (i : Nat) (n : Int) (g : List Int), ns[i]? = some n → gs[i]? = some g →
    ledGo t (ns.take (i + 1)) (gs.take (i + 1)) = addF (ledGo t (ns.take i) (gs.take i)) (oftF g n)
  | [], _, _, _, _, _, h, _ => by simp at h
  | _ :: _, [], _, _, _, _, _, h => by simp at h
  | a :: r, b :: q, t, 0, n, g, h1, h2 => by
    have e1 : a = n := Option.some.inj h1
    have e2 : b = g := Option.some.inj h2
    subst e1 e2
    show ledGo (addF t (oftF b a)) (r.take 0) (q.take 0) = _
    rw [List.take_zero, List.take_zero]
    rfl
  | a :: r, b :: q, t, i + 1, n, g, h1, h2 => ledGo_snoc r q (addF t (oftF b a)) i n g h1 h2
theorem ledGo_len : ∀ (ns : List Int) (gs : List (List Int)) (t : List Int), (∀ g ∈ gs, g.length = t.length) → (ledGo t ns gs).length = t.length
  | [], _, _, _ => by unfold ledGo; rfl
  | _ :: _, [], _, _ => rfl
  | n :: ns, g :: gs, t, h => by
    have e : t.length = (oftF g n).length := by rw [oftF_len]; exact (h g (List.mem_cons_self ..)).symm
    show (ledGo (addF t (oftF g n)) ns gs).length = t.length
    rw [ledGo_len ns gs _ fun g' h' => by rw [addF_len e]; exact h g' (List.mem_cons_of_mem _ h'), addF_len e]
def ledF : List Int → List (List Int) → List Int
  | x :: ns, g :: gs => ledGo (x :: List.replicate (g.length - 1) 0) ns (g :: gs)
  | f, [] => f
  | [], _ :: _ => []
/-! ### the mathematics of leading forms -/
def at0 (f : List Int) (j : Nat) : Int := (f[j]?).getD 0
theorem ext0 {f g : List Int} (hl : f.length = g.length) (h : ∀ j, at0 f j = at0 g j) : f = g := by
  refine List.ext_getElem? fun j => ?_
  have e := h j
  unfold at0 at e
  by_cases hj : j < f.length
  · have hg : j < g.length := by omega
    rw [List.getElem?_eq_getElem hj, List.getElem?_eq_getElem hg] at e ⊢
    exact congrArg some e
  · rw [List.getElem?_eq_none (by omega), List.getElem?_eq_none (by omega)]
theorem at0_add {f g : List Int} (hl : f.length = g.length) (j : Nat) : at0 (addF f g) j = at0 f j + at0 g j := by
  unfold at0 addF
  rw [List.getElem?_zipWith]
  by_cases hj : j < f.length
  · have hg : j < g.length := by omega
    rw [List.getElem?_eq_getElem hj, List.getElem?_eq_getElem hg]
    rfl
  · rw [List.getElem?_eq_none (show f.length ≤ j by omega), List.getElem?_eq_none (show g.length ≤ j by omega)]
    rfl
theorem at0_oft (f : List Int) (m : Int) (j : Nat) : at0 (oftF f m) j = at0 f j * m := by
  unfold at0 oftF
  rw [List.getElem?_map]
  cases f[j]? with
  | none => exact (Int.zero_mul m).symm
  | some x => rfl
def dot : List Int → List Int → Int
  | n :: ns, v :: vs => v * n + dot ns vs
  | _, _ => 0
theorem dot_add : ∀ (ns ms vs : List Int), ns.length = ms.length → dot (addF ns ms) vs = dot ns vs + dot ms vs
  | [], [], vs, _ => by cases vs <;> rfl
  | [], _ :: _, _, h => by simp at h
  | _ :: _, [], _, h => by simp at h
  | n :: ns, m :: ms, [], _ => rfl
  | n :: ns, m :: ms, v :: vs, h => by
    have ih := dot_add ns ms vs (by simpa using h)
    show v * (n + m) + dot (addF ns ms) vs = v * n + dot ns vs + (v * m + dot ms vs)
    rw [ih, Int.mul_add]
    omega
theorem dot_oft : ∀ (ns vs : List Int) (k : Int), dot (oftF ns k) vs = dot ns vs * k
  | [], vs, k => by cases vs <;> exact (Int.zero_mul k).symm
  | n :: ns, [], k => (Int.zero_mul k).symm
  | n :: ns, v :: vs, k => by
    have ih := dot_oft ns vs k
    show v * (n * k) + dot (oftF ns k) vs = (v * n + dot ns vs) * k
    rw [ih, Int.add_mul, Int.mul_assoc]
theorem dot_zero : ∀ (n : Nat) (vs : List Int), dot (List.replicate n 0) vs = 0
  | 0, vs => by cases vs <;> rfl
  | n + 1, [] => rfl
  | n + 1, v :: vs => by
    show v * 0 + dot (List.replicate n 0) vs = 0
    rw [dot_zero n vs, Int.mul_zero]
    rfl
theorem dot_natAbs (A B : Nat) : ∀ (ns vs : List Int), (∀ x ∈ ns, x.natAbs ≤ A) → (∀ x ∈ vs, x.natAbs ≤ B) → (dot ns vs).natAbs ≤ ns.length * (B * A)
  | [], _, _, _ => by unfold dot; simp
  | n :: ns, [], _, _ => by unfold dot; simp
  | n :: ns, v :: vs, h1, h2 => by
    have ih := dot_natAbs A B ns vs (fun x h => h1 x (List.mem_cons_of_mem _ h)) (fun x h => h2 x (List.mem_cons_of_mem _ h))
    have a1 : (v * n).natAbs ≤ B * A := by
      rw [Int.natAbs_mul]
      exact Nat.mul_le_mul (h2 v (List.mem_cons_self ..)) (h1 n (List.mem_cons_self ..))
    show (v * n + dot ns vs).natAbs ≤ (ns.length + 1) * (B * A)
    rw [Nat.add_mul, Nat.one_mul]
    have := Int.natAbs_add_le (v * n) (dot ns vs)
    omega
def e0 (j : Nat) : Int := if j = 0 then 1 else 0
/-- what a led form has at the place j -/
def lin (f : List Int) (gs : List (List Int)) (j : Nat) : Int := at0 f 0 * e0 j + dot f.tail (gs.map fun g => at0 g j)
theorem tail_add (f g : List Int) (hl : f.length = g.length) : (addF f g).tail = addF f.tail g.tail := by
  cases f with
  | nil =>
    cases g with
    | nil => rfl
    | cons x r => simp at hl
  | cons x r =>
    cases g with
    | nil => simp at hl
    | cons y q => rfl
theorem tail_oft (f : List Int) (k : Int) : (oftF f k).tail = oftF f.tail k := by
  cases f <;> rfl
theorem lin_add {f g : List Int} (hl : f.length = g.length) (gs : List (List Int)) (j : Nat) : lin (addF f g) gs j = lin f gs j + lin g gs j := by
  unfold lin
  rw [at0_add hl, tail_add f g hl, dot_add _ _ _ (by rw [List.length_tail, List.length_tail, hl]), Int.add_mul]
  omega
theorem lin_oft (f : List Int) (k : Int) (gs : List (List Int)) (j : Nat) : lin (oftF f k) gs j = lin f gs j * k := by
  unfold lin
  rw [at0_oft, tail_oft, dot_oft, Int.add_mul, Int.mul_assoc, Int.mul_assoc, Int.mul_comm k]
theorem ledGo_at (L : List Int → Int) (m : Nat) (la : ∀ f g : List Int, f.length = m → g.length = m → L (addF f g) = L f + L g) (lo : ∀ (f : List Int) (k : Int), L (oftF f k) = L f * k) :
    ∀ (ns : List Int) (gs : List (List Int)) (t : List Int), t.length = m → (∀ g ∈ gs, g.length = m) → L (ledGo t ns gs) = L t + dot ns (gs.map L)
  | [], gs, t, _, _ => by
    have e : ledGo t [] gs = t := by unfold ledGo; rfl
    rw [e]
    cases gs <;> exact (Int.add_zero _).symm
  | n :: ns, [], t, _, _ => (Int.add_zero _).symm
  | n :: ns, g :: gs, t, ht, hg => by
    have hgm := hg g (List.mem_cons_self ..)
    have hom : (oftF g n).length = m := (oftF_len g n).trans hgm
    show L (ledGo (addF t (oftF g n)) ns gs) = L t + (L g * n + dot ns (gs.map L))
    rw [ledGo_at L m la lo ns gs _ ((addF_len (ht.trans hom.symm)).trans ht) fun g' h => hg g' (List.mem_cons_of_mem _ h), la _ _ ht hom, lo]
    omega
theorem at0_first (x : Int) (n j : Nat) : at0 (x :: List.replicate n 0) j = x * e0 j := by
  cases j with
  | zero => exact (Int.mul_one x).symm
  | succ j =>
    unfold at0 e0
    rw [List.getElem?_cons_succ, if_neg (by omega), Int.mul_zero]
    by_cases h : j < n
    · rw [List.getElem?_replicate, if_pos h]
      rfl
    · rw [List.getElem?_replicate, if_neg h]
      rfl
theorem ledF_at {f : List Int} {gs : List (List Int)} {m : Nat} (hm : 1 ≤ m) (hf : f ≠ []) (hg0 : gs ≠ []) (hg : ∀ g ∈ gs, g.length = m) : (ledF f gs).length = m ∧ ∀ j, at0 (ledF f gs) j = lin f gs j := by
  cases f with
  | nil => exact absurd rfl hf
  | cons x ns =>
    cases gs with
    | nil => exact absurd rfl hg0
    | cons g r =>
      have e := hg g (List.mem_cons_self ..)
      have tl : (x :: List.replicate (g.length - 1) (0 : Int)).length = m := by
        rw [List.length_cons, List.length_replicate]
        omega
      refine ⟨?_, fun j => ?_⟩
      · show (ledGo _ ns (g :: r)).length = m
        rw [ledGo_len ns (g :: r) _ fun g' h => (hg g' h).trans tl.symm, tl]
      · show at0 (ledGo _ ns (g :: r)) j = _
        rw [ledGo_at (fun f => at0 f j) m (fun f g a b => at0_add (a.trans b.symm) j) (fun f k => at0_oft f k j) ns (g :: r) _ tl hg, at0_first]
        rfl
/-- forms that may be led: the one, what stands in the place of its unknowns, all of one length -/
structure Fit (f : List Int) (gs : List (List Int)) (m : Nat) : Prop where
  one : 1 ≤ m
  ne : f ≠ []
  nes : gs ≠ []
  len : ∀ g ∈ gs, g.length = m
theorem led_add {f g : List Int} {gs : List (List Int)} {m : Nat} (hl : f.length = g.length) (a : Fit f gs m) (b : Fit g gs m) (c : Fit (addF f g) gs m) : ledF (addF f g) gs = addF (ledF f gs) (ledF g gs) := by
  have h1 := ledF_at a.one a.ne a.nes a.len
  have h2 := ledF_at b.one b.ne b.nes b.len
  have h3 := ledF_at c.one c.ne c.nes c.len
  have hl2 := h1.1.trans h2.1.symm
  refine ext0 (by rw [h3.1, addF_len hl2, h1.1]) fun j => ?_
  rw [h3.2, at0_add hl2, h1.2, h2.2, lin_add hl]
theorem led_oft {f : List Int} {k : Int} {gs : List (List Int)} {m : Nat} (a : Fit f gs m) (c : Fit (oftF f k) gs m) : ledF (oftF f k) gs = oftF (ledF f gs) k := by
  have h1 := ledF_at a.one a.ne a.nes a.len
  have h3 := ledF_at c.one c.ne c.nes c.len
  refine ext0 (by rw [h3.1, oftF_len, h1.1]) fun j => ?_
  rw [h3.2, at0_oft, h1.2, lin_oft]
theorem at0_con {f : List Int} (h : f ≠ []) (j : Nat) : at0 (conF f) j = at0 f j * -1 - e0 j := by
  cases f with
  | nil => exact absurd rfl h
  | cons x r =>
    cases j with
    | zero => rfl
    | succ j =>
      show at0 (oftF r (-1)) j = at0 r j * -1 - 0
      rw [at0_oft]
      omega
theorem conF_len {f : List Int} : (conF f).length = f.length := by
  cases f with
  | nil => rfl
  | cons x r =>
    show (oftF r (-1)).length + 1 = r.length + 1
    rw [oftF_len]
theorem led_con {f : List Int} {gs : List (List Int)} {m : Nat} (a : Fit f gs m) (c : Fit (conF f) gs m) : ledF (conF f) gs = conF (ledF f gs) := by
  have h1 := ledF_at a.one a.ne a.nes a.len
  have h3 := ledF_at c.one c.ne c.nes c.len
  have n1 : ledF f gs ≠ [] := fun z => by
    have := h1.1
    have := a.one
    rw [z] at h1
    simp at h1
    omega
  refine ext0 (by rw [h3.1, conF_len, h1.1]) fun j => ?_
  rw [h3.2, at0_con n1, h1.2]
  cases f with
  | nil => exact absurd rfl a.ne
  | cons x r =>
    unfold lin
    show (x * -1 - 1) * e0 j + dot (oftF r (-1)) _ = (x * e0 j + dot r _) * -1 - e0 j
    rw [dot_oft, Int.sub_mul, Int.add_mul, Int.one_mul, Int.mul_assoc, Int.mul_assoc, Int.mul_comm (-1) (e0 j)]
    omega
theorem led_led {f : List Int} {gs hs : List (List Int)} {m n : Nat} (a : Fit f gs m) (h0 : hs ≠ []) (hn : 1 ≤ n) (hh : ∀ g ∈ hs, g.length = n) : ledF (ledF f gs) hs = ledF f (gs.map fun g => ledF g hs) := by
  have h1 := ledF_at a.one a.ne a.nes a.len
  have n1 : ledF f gs ≠ [] := fun z => by
    have := a.one
    rw [z] at h1
    simp at h1
    omega
  have h2 := ledF_at hn n1 h0 hh
  have gne : ∀ g ∈ gs, g ≠ [] := fun g hg z => by
    have := a.len g hg
    have := a.one
    subst z
    simp at this
    omega
  have h3 := ledF_at (f := f) (gs := gs.map fun g => ledF g hs) hn a.ne (by simpa using a.nes) (fun g hg => by
    obtain ⟨g', hg', rfl⟩ := List.mem_map.mp hg
    exact (ledF_at hn (gne g' hg') h0 hh).1)
  refine ext0 (by rw [h2.1, h3.1]) fun j => ?_
  rw [h2.2, h3.2]
  have em : ((gs.map fun g => ledF g hs).map fun g => at0 g j) = gs.map fun g => lin g hs j := by
    rw [List.map_map]
    exact List.map_congr_left fun g hg => (ledF_at hn (gne g hg) h0 hh).2 j
  have key := ledGo_at (fun f => lin f hs j) m (fun f g x y => lin_add (x.trans y.symm) hs j) (fun f k => lin_oft f k hs j)
  cases f with
  | nil => exact absurd rfl a.ne
  | cons x ns =>
    cases hgs : gs with
    | nil => exact absurd hgs a.nes
    | cons g r =>
      subst hgs
      have e := a.len g (List.mem_cons_self ..)
      have one := a.one
      have tl : (x :: List.replicate (g.length - 1) (0 : Int)).length = m := by
        rw [List.length_cons, List.length_replicate]
        omega
      show lin (ledGo (x :: List.replicate (g.length - 1) 0) ns (g :: r)) hs j = _
      rw [key ns (g :: r) _ tl a.len]
      show at0 (x :: List.replicate (g.length - 1) (0 : Int)) 0 * e0 j + dot (List.replicate (g.length - 1) 0) _ + _ = x * e0 j + dot ns _
      rw [dot_zero, em]
      show x * e0 j + 0 + _ = _
      omega
/-- how great a led form's numbers may be -/
theorem led_abs {f : List Int} {gs : List (List Int)} {m A B C : Nat} (a : Fit f gs m) (hA : ∀ x ∈ f, x.natAbs ≤ A) (hB : ∀ g ∈ gs, ∀ x ∈ g, x.natAbs ≤ B) (hC : A + f.length * (B * A) ≤ C) : ∀ x ∈ ledF f gs, x.natAbs ≤ C := by
  intro x hx
  obtain ⟨j, hj, rfl⟩ := List.getElem_of_mem hx
  have e := (ledF_at a.one a.ne a.nes a.len).2 j
  unfold at0 at e
  rw [List.getElem?_eq_getElem hj] at e
  have e' : (ledF f gs)[j] = lin f gs j := e
  rw [e']
  unfold lin
  cases f with
  | nil => exact absurd rfl a.ne
  | cons y ns =>
    have h1 : (dot ns (gs.map fun g => at0 g j)).natAbs ≤ ns.length * (B * A) := dot_natAbs A B ns _ (fun x h => hA x (List.mem_cons_of_mem _ h)) fun v hv => by
      obtain ⟨g, hg, rfl⟩ := List.mem_map.mp hv
      unfold at0
      cases e : g[j]? with
      | none => exact Nat.zero_le _
      | some u => exact hB g hg u (List.mem_of_getElem? e)
    have h2 : (y * e0 j).natAbs ≤ A := by
      have := hA y (List.mem_cons_self ..)
      unfold e0
      split
      · rw [Int.mul_one]; exact this
      · rw [Int.mul_zero]; exact Nat.zero_le _
    have h3 := Int.natAbs_add_le (y * e0 j) (dot ns (gs.map fun g => at0 g j))
    have h4 : (y :: ns).length * (B * A) = ns.length * (B * A) + B * A := by rw [List.length_cons, Nat.add_mul, Nat.one_mul]
    show (y * e0 j + dot ns _).natAbs ≤ C
    omega
theorem sq_fold (f : List Int) : ∀ (ns : List Int) (gs : List (List Int)) (t : List Int), ledGo t ns gs = (ns.zip gs).foldl (fun t p => addF t (oftF p.2 p.1)) t
  | [], _, t => by unfold ledGo; simp
  | _ :: _, [], t => by unfold ledGo; simp
  | n :: ns, g :: gs, t => by
    unfold ledGo
    rw [sq_fold f ns gs]
    rfl
theorem addF_zero : ∀ (t g : List Int), g.length = t.length → addF t (oftF g 0) = t
  | [], g, h => by simp [addF]
  | x :: t, [], h => by simp at h
  | x :: t, y :: g, h => by
    have := addF_zero t g (by simpa using h)
    simp only [addF, oftF, List.map_cons, List.zipWith_cons_cons] at this ⊢
    rw [this]
    simp
theorem addF_mem {f g : List Int} {x : Int} (h : x ∈ addF f g) : ∃ y z, y ∈ f ∧ z ∈ g ∧ x = y + z := by
  unfold addF at h
  rw [← List.map_uncurry_zip_eq_zipWith] at h
  obtain ⟨p, hp, rfl⟩ := List.mem_map.mp h
  exact ⟨p.1, p.2, (List.of_mem_zip hp).1, (List.of_mem_zip hp).2, rfl⟩
end EV

namespace EV
open PySem PySem.Spec PyProof.Rows L2 ZG
theorem get_at (pre suf : Cells) (x : Cell) : (pre ++ x :: suf)[pre.length]? = some x := by simp
theorem set_at (pre suf : Cells) (x y : Cell) : (pre ++ x :: suf).set pre.length y = pre ++ y :: suf := by simp
theorem ix_purse (pre suf : Cells) (l : List D) (i : Int) : ixD (.ref pre.length) (.int i) (pre ++ .lst l :: suf) = atR (L2.atI l i) (pre ++ .lst l :: suf) := by
  simp only [ixD, seqD, get_at]
  cases L2.atI l i <;> rfl
theorem put_purse (pre suf : Cells) (l : List D) (i : Int) (v : D) (j : Nat) (h : ixN l.length i = some j) : putD (.ref pre.length) (.int i) v (pre ++ .lst l :: suf) = some (.val (), pre ++ .lst (l.set j v) :: suf) := by
  simp only [putD, cellL, get_at, h, set_at]
theorem draw_mod (x : Int) (many : Int) (h : 0 < many) : 0 ≤ x % many ∧ x % many < many := ⟨Int.emod_nonneg _ (by omega), Int.emod_lt_of_pos _ h⟩
theorem mulL (own : Bool) (cs : Cells) (i j : Int) (h : -(2 ^ 64) < i ∧ i < 2 ^ 64) : binD own .Mult (.int i) (.int j) cs = some (.val (.int (i * j)), cs) := binD_mul own cs i j (.inl (.inl h))
theorem mulR (own : Bool) (cs : Cells) (i j : Int) (h : -(2 ^ 64) < j ∧ j < 2 ^ 64) : binD own .Mult (.int i) (.int j) cs = some (.val (.int (i * j)), cs) := binD_mul own cs i j (.inl (.inr h))
/-! ### tools for cells -/
mutual
theorem clean_mono {n : Nat} : ∀ {d : D}, clean 0 d = true → clean n d = true
  | .ref m, h => by simp [clean] at h
  | .tup ds, h => by simp only [clean] at h ⊢; exact cleanA_mono h
  | .lst ds, h => by simp only [clean] at h ⊢; exact cleanA_mono h
  | .frz ds, h => by simp only [clean] at h ⊢; exact cleanA_mono h
  | .dct _ ds, h => by simp only [clean] at h ⊢; exact cleanA_mono h
  | .ins _ _ ds, h => by simp only [clean] at h ⊢; exact cleanA_mono h
  | .non, _ => rfl
  | .bl _, _ => rfl
  | .int _, _ => rfl
  | .str _, _ => rfl
  | .st _, _ => rfl
  | .obj _, _ => rfl
theorem cleanA_mono {n : Nat} : ∀ {ds : List D}, cleanA 0 ds = true → cleanA n ds = true
  | [], _ => rfl
  | d :: ds, h => by
    simp only [cleanA, Bool.and_eq_true] at h ⊢
    exact ⟨clean_mono h.1, cleanA_mono h.2⟩
end
theorem cleanC_mono {n : Nat} {c : Cell} (h : cleanC 0 c = true) : cleanC n c = true := by
  cases c with
  | lst ds => exact cleanA_mono h
  | dct ks ds => exact cleanA_mono h
  | ins c ks ds => exact cleanA_mono h
  | dead => rfl
theorem ev_gc {n : Nat} {r : Rs} {Q : D → Cells → Prop} (h : Ev r fun d cs => clean n d = true ∧ (cs.take n).all (cleanC n) = true ∧ Q d (cs.take n)) : Ev (gcR n r) Q := by
  obtain ⟨d, cs, rfl, h1, h2, h3⟩ := h
  unfold gcR
  dsimp only
  rw [if_pos ⟨h1, h2⟩]
  exact ev_val.mpr h3
section
variable (cs : Cells) {p : Nat} {l : List D}
theorem seq_ref (h : cs[p]? = some (.lst l)) : seqD cs (.ref p) = some (false, l) := by simp [seqD, h]
theorem ix_ref (i : Int) (h : cs[p]? = some (.lst l)) : ixD (.ref p) (.int i) cs = atR (L2.atI l i) cs := by
  simp only [ixD, seq_ref cs h]
  cases L2.atI l i <;> rfl
theorem len_ref (own : Bool) (h : cs[p]? = some (.lst l)) : bltD "len" own [.ref p] cs = some (.val (.int l.length), cs) := by
  simp [bltD, seq_ref cs h]
theorem tuple_ref (own : Bool) (h : cs[p]? = some (.lst l)) : tltD "tuple" own [.ref p] cs = some (.val (.tup l), cs) := by
  simp [tltD, seqD, h]
theorem list_ref (h : cs[p]? = some (.lst l)) : tltD "list" false [.ref p] cs = some (.val (.lst l), cs) := by
  simp [tltD, seqD, h, mkL]
theorem bm_ref (f : Slots → Cells → Rs) (A : Slots → Cells → RsG (List D)) (F : D → List D → Cells → Rs) (sl : Slots) (hf : f sl cs = some (.val (.ref p), cs)) (h : cs[p]? = some (.lst l)) : bmR "list" f A F sl cs = (A sl cs).bind fun ds cs => F (.ref p) ds cs := by
  unfold bmR
  rw [hf, bind_val]
  have : recvT "list" (.ref p) cs = true := by simp [recvT, seqD, h]
  rw [if_pos this]
theorem append_ref (d : D) (h : cs[p]? = some (.lst l)) (hl : l.length < sizeLine) : appendD (.ref p) [d] cs = some (.val .non, cs.set p (.lst (l ++ [d]))) := by
  simp [appendD, cellL, h, hl]
end
@[simp] theorem mkL1_t (ds : List D) (cs : Cells) : mkL1 true ds cs = if ds.length ≤ sizeLine then some (.val (.ref cs.length), cs ++ [.lst ds]) else none := id rfl
theorem mth_app (T : Tb) (sl : Slots) (cs : Cells) (i : Nat) (es : Es) {p : Nat} (hv : sl[i]? = some (some (.ref p))) {l : List D} (h : cs[p]? = some (.lst l)) : (ev T (.mth .append (.var i) es)).v sl cs = (evl T es sl cs).bind fun ds cs => appendD (.ref p) ds cs := by
  rw [x_mth, bm_ref cs _ _ _ sl (by rw [x_var, hv]; rfl) h]
  rfl
/-- whole numbers, each between two bounds -/
def Between (lo hi : Int) (f : List Int) : Prop := ∀ x ∈ f, lo ≤ x ∧ x ≤ hi
theorem all_mono {l : Cells} (h : l.all (cleanC 0) = true) (n : Nat) : l.all (cleanC n) = true := by
  rw [List.all_eq_true] at h ⊢
  exact fun c hc => cleanC_mono (h c hc)
/-! ### loops -/
theorem ev_seq {T : Tb} {ss : Ss} {r : RsS} {Q : D → Cells → Prop} : Ev ((r.bind (nxt T ss)).bind finN) Q ↔ Ev r fun q cs => Ev ((nxt T ss q cs).bind finN) Q := by
  rw [ev_bind, ev_bind]
  constructor
  · intro h
    exact h.imp fun q cs h => ev_bind.mpr h
  · intro h
    exact h.imp fun q cs h => ev_bind.mp h
/-- what a turn of a loop may come to -/
def Turn (I : Slots → Cells → Prop) (Q : Fl × Slots → Cells → Prop) (q : Fl × Slots) (cs : Cells) : Prop := (∃ sl, (q = (.nx, sl) ∨ q = (.ct, sl)) ∧ I sl cs) ∨ (∃ d sl, q = (.ret d, sl) ∧ Q q cs) ∨ ∃ sl, q = (.bk, sl) ∧ Q (.nx, sl) cs
theorem turn_nx {I : Slots → Cells → Prop} {Q : Fl × Slots → Cells → Prop} {sl : Slots} {cs : Cells} (h : I sl cs) : Turn I Q (.nx, sl) cs := .inl ⟨sl, .inl rfl, h⟩
theorem turn_ct {I : Slots → Cells → Prop} {Q : Fl × Slots → Cells → Prop} {sl : Slots} {cs : Cells} (h : I sl cs) : Turn I Q (.ct, sl) cs := .inl ⟨sl, .inr rfl, h⟩
theorem turn_ret {I : Slots → Cells → Prop} {Q : Fl × Slots → Cells → Prop} {sl : Slots} {d : D} {cs : Cells} (h : Q (.ret d, sl) cs) : Turn I Q (.ret d, sl) cs := .inr (.inl ⟨d, sl, rfl, h⟩)
theorem turn_bk {I : Slots → Cells → Prop} {Q : Fl × Slots → Cells → Prop} {sl : Slots} {cs : Cells} (h : Q (.nx, sl) cs) : Turn I Q (.bk, sl) cs := .inr (.inr ⟨sl, rfl, h⟩)
/-- a walk over a list of things: what is left, and what holds -/
theorem ev_items {α : Type} (F : α → D) {t : Tg} {body : Slots → Cells → RsS} {Q : Fl × Slots → Cells → Prop} (I : List α → Slots → Cells → Prop)
    (hs : ∀ x r sl cs, I (x :: r) sl cs → ∃ sl', setTg t (F x) sl = some sl' ∧ Ev (body sl' cs) (Turn (I r) Q)) (he : ∀ sl cs, I [] sl cs → Q (.nx, sl) cs) :
    ∀ (l : List α) (sl : Slots) (cs : Cells), I l sl cs → Ev (forLoop t body [] (l.map F) sl cs) Q
  | [], sl, cs, h => ev_grd (grdN _) (ev_val.mpr (he _ _ h))
  | x :: r, sl, cs, h => by
    obtain ⟨sl', e, hb⟩ := hs x r sl cs h
    refine ev_grd (grdN _) ?_
    rw [e]
    refine Ev.bind hb fun q cs' hq => ?_
    rcases hq with ⟨sl2, rfl | rfl, hi⟩ | ⟨d, sl2, rfl, hi⟩ | ⟨sl2, rfl, hi⟩
    · exact ev_items F I hs he r sl2 cs' hi
    · exact ev_items F I hs he r sl2 cs' hi
    · exact ev_val.mpr hi
    · exact ev_val.mpr hi
theorem ev_rngA {i : Nat} {lo : Int} {body : Slots → Cells → RsS} {Q : Fl × Slots → Cells → Prop} (N : Nat) (I : Nat → Slots → Cells → Prop)
    (hs : ∀ j sl cs, j < N → I j sl cs → Ev (body (sl.set i (some (.int (lo + (j : Int))))) cs) (Turn (I (j + 1)) Q)) (he : ∀ sl cs, I N sl cs → Q (.nx, sl) cs) :
    ∀ (m j : Nat), j + m = N → ∀ (sl : Slots) (cs : Cells), I j sl cs → Ev (forLoop (.nm i) body [] ((List.range' j m).map fun (k : Nat) => D.int (lo + (k : Int))) sl cs) Q
  | 0, j, e, sl, cs, h => ev_grd (grdN _) (ev_val.mpr (he _ _ (by have : j = N := by omega
                                                                  rw [← this]; exact h)))
  | m + 1, j, e, sl, cs, h => by
    rw [List.range'_succ, List.map_cons]
    refine ev_grd (grdN _) ?_
    dsimp only [setTg]
    refine Ev.bind (hs j sl cs (by omega) h) fun q cs' hq => ?_
    rcases hq with ⟨sl2, rfl | rfl, hi⟩ | ⟨d, sl2, rfl, hi⟩ | ⟨sl2, rfl, hi⟩
    · exact ev_rngA N I hs he m (j + 1) (by omega) sl2 cs' hi
    · exact ev_rngA N I hs he m (j + 1) (by omega) sl2 cs' hi
    · exact ev_val.mpr hi
    · exact ev_val.mpr hi
/-- for i in range(N) -/
theorem ev_rng {i : Nat} {lo : Int} {body : Slots → Cells → RsS} {Q : Fl × Slots → Cells → Prop} (N : Nat) (I : Nat → Slots → Cells → Prop) {sl : Slots} {cs : Cells} (h0 : I 0 sl cs)
    (hs : ∀ j sl cs, j < N → I j sl cs → Ev (body (sl.set i (some (.int (lo + (j : Int))))) cs) (Turn (I (j + 1)) Q)) (he : ∀ sl cs, I N sl cs → Q (.nx, sl) cs) :
    Ev (forLoop (.nm i) body [] (rngList lo N) sl cs) Q := by
  unfold rngList
  rw [List.range_eq_range']
  exact ev_rngA N I hs he N 0 (by omega) sl cs h0
theorem srcRng1_nat (N : Nat) (h : N < 2 ^ 62) (cs : Cells) : srcRng1 (.int (N : Int)) cs = some (.val ⟨rngList 0 N, []⟩, cs) := by
  unfold srcRng1
  dsimp only
  rw [if_pos (by omega)]
  simp
theorem srcRng1_int (j : Int) (h : 0 ≤ j ∧ j < 2 ^ 62) (cs : Cells) : srcRng1 (.int j) cs = some (.val ⟨rngList 0 j.toNat, []⟩, cs) := by
  unfold srcRng1
  dsimp only
  rw [if_pos (by omega)]
/-! ### loops that look at all things -/
/-- a loop that goes out with False at the first thing that is not so -/
theorem for_all {i : Nat} {body : Slots → Cells → RsS} {cs : Cells} (S : Option D → Slots) (hS : ∀ o x, (S o).set i (some x) = S (some x)) (p : D → Bool) :
    ∀ (l : List D), (∀ x ∈ l, body (S (some x)) cs = if p x = true then some (.val (.nx, S (some x)), cs) else some (.val (.ret (.bl false), S (some x)), cs)) → ∀ o, ∃ o', forLoop (.nm i) body [] l (S o) cs = if l.all p = true then some (.val (.nx, S o'), cs) else some (.val (.ret (.bl false), S o'), cs)
  | [], h, o => ⟨o, by unfold forLoop grd?; rw [if_pos (grdN _)]; rfl⟩
  | x :: r, h, o => by
    have hx := h x List.mem_cons_self
    obtain ⟨o', e⟩ := for_all S hS p r (fun y hy => h y (List.mem_cons_of_mem _ hy)) (some x)
    unfold forLoop grd?
    rw [if_pos (grdN _)]
    dsimp only [setTg]
    rw [hS, hx]
    by_cases c : p x = true
    · refine ⟨o', ?_⟩
      rw [if_pos c, bind_val]
      dsimp only
      rw [e]
      simp [c]
    · refine ⟨some x, ?_⟩
      rw [if_neg c, bind_val]
      dsimp only
      rw [if_neg (by simp [c])]
/-- a loop of calls that may refuse: it ends, or the first refusal goes out -/
theorem for_look {i : Nat} {body : Slots → Cells → RsS} {cs : Cells} (S : Option D → Slots) (hS : ∀ o x, (S o).set i (some x) = S (some x)) (p : D → Bool) (X : Exc) :
    ∀ (l : List D), (∀ x ∈ l, body (S (some x)) cs = if p x = true then some (.val (.nx, S (some x)), cs) else some (.exc X, cs)) → ∀ o, ∃ o', forLoop (.nm i) body [] l (S o) cs = if l.all p = true then some (.val (.nx, S o'), cs) else some (.exc X, cs)
  | [], h, o => ⟨o, by unfold forLoop grd?; rw [if_pos (grdN _)]; rfl⟩
  | x :: r, h, o => by
    have hx := h x List.mem_cons_self
    obtain ⟨o', e⟩ := for_look S hS p X r (fun y hy => h y (List.mem_cons_of_mem _ hy)) (some x)
    unfold forLoop grd?
    rw [if_pos (grdN _)]
    dsimp only [setTg]
    rw [hS, hx]
    by_cases c : p x = true
    · refine ⟨o', ?_⟩
      rw [if_pos c, bind_val]
      dsimp only
      rw [e]
      simp [c]
    · refine ⟨none, ?_⟩
      rw [if_neg c, RsG.bind_exc]
      rw [if_neg (by simp [c])]
/-! ### things of which the kind is known -/
def known : D → Bool
  | .non => true
  | .bl _ => true
  | .int _ => true
  | .str _ => true
  | .tup _ => true
  | .lst _ => true
  | .frz _ => true
  | .dct _ _ => true
  | _ => false
def isI : D → Bool
  | .int _ => true
  | _ => false
theorem tyi_t {d : D} (h : known d = true) (cs : Cells) : tyiD true "int" d cs = some (.val (.bl (!isI d)), cs) := by
  cases d <;> first | rfl | cases h
theorem tyi_f {d : D} (h : known d = true) (cs : Cells) : tyiD false "int" d cs = some (.val (.bl (isI d)), cs) := by
  cases d <;> first | rfl | cases h
theorem known_iL (l : List Int) : (iL l).all known = true := by simp [iL, known]
theorem isI_iL (l : List Int) : (iL l).all isI = true := by simp [iL, isI]
/-- a form, as data -/
def isF : D → Bool
  | .tup ds => !ds.isEmpty && ds.all isI
  | _ => false
/-- a thing, and what is straight in it, of known kinds -/
def known1 : D → Bool
  | .tup ds => ds.all known
  | .lst ds => ds.all known
  | .frz ds => ds.all known
  | d => known d
theorem known1_k {d : D} (h : known1 d = true) : known d = true := by
  cases d <;> first | rfl | exact h
theorem isF_iL {f : List Int} (h : f ≠ []) : isF (.tup (iL f)) = true := by
  cases f with
  | nil => exact absurd rfl h
  | cons x f => simp [isF, iL, isI]
theorem known1_iL (f : List Int) : known1 (.tup (iL f)) = true := known_iL f
/-! ### great numbers -/
def BndF (b : Nat) (f : List Int) : Prop := ∀ x ∈ f, x.natAbs < 2 ^ b
theorem log2_le {n b : Nat} (h : n < 2 ^ b) : n.log2 ≤ b := by
  by_cases h0 : n = 0
  · subst h0
    simp
  · exact Nat.le_of_lt ((Nat.log2_lt h0).mpr h)
theorem mulW (own : Bool) (cs : Cells) (i j : Int) (a b : Nat) (hi : i.natAbs < 2 ^ a) (hj : j.natAbs < 2 ^ b) (h : a + b < 1000000) : binD own .Mult (.int i) (.int j) cs = some (.val (.int (i * j)), cs) := by
  refine binD_mul own cs i j (.inr ?_)
  have h1 := log2_le hi
  have h2 := log2_le hj
  show i.natAbs.log2 + j.natAbs.log2 < 1000000
  omega
theorem BndF.mono {a b : Nat} {f : List Int} (h : BndF a f) (e : a ≤ b) : BndF b f := fun x hx => Nat.lt_of_lt_of_le (h x hx) (Nat.pow_le_pow_right (by decide) e)
theorem mapZip (F : D → D) (G : Int → Int → Int) (h : ∀ a b, F (.tup [.int a, .int b]) = .int (G a b)) : ∀ (l m : List Int), (zipD (iL l) (iL m)).map F = iL (List.zipWith G l m)
  | [], _ => by simp [iL, zipD]
  | _ :: _, [] => by simp [iL, zipD]
  | x :: l, y :: m => by
    have := mapZip F G h l m
    simp only [iL, zipD, List.map_cons, List.zip_cons_cons, List.zipWith_cons_cons] at this ⊢
    rw [this, h]
theorem BndF.of {lo hi : Int} {b : Nat} {f : List Int} (h : Between lo hi f) (h1 : -(2 ^ b) < lo) (h2 : hi < 2 ^ b) : BndF b f := fun x hx => by
  obtain ⟨a, c⟩ := h x hx
  have : ((2 ^ b : Nat) : Int) = 2 ^ b := by norm_cast
  omega
/-! ### lists of forms -/
def hD (hs : List (List Int)) : List D := hs.map fun h => .tup (iL h)
theorem hD_len (hs : List (List Int)) : (hD hs).length = hs.length := by simp [hD]
theorem zip_hD : ∀ (a : List Int) (b : List (List Int)), zipD (iL a) (hD b) = (a.zip b).map fun p => D.tup [.int p.1, .tup (iL p.2)]
  | [], _ => by simp [iL, zipD]
  | _ :: _, [] => by simp [hD, zipD]
  | x :: a, y :: b => by
    have := zip_hD a b
    simp only [iL, hD, zipD, List.map_cons, List.zip_cons_cons] at this ⊢
    rw [this]
theorem zip_hD2 : ∀ (a : List (List Int)) (b : List Int), zipD (hD a) (iL b) = (a.zip b).map fun p => D.tup [.tup (iL p.1), .int p.2]
  | [], _ => by simp [hD, zipD]
  | _ :: _, [] => by simp [iL, zipD]
  | x :: a, y :: b => by
    have := zip_hD2 a b
    simp only [iL, hD, zipD, List.map_cons, List.zip_cons_cons] at this ⊢
    rw [this]
def zeros (n : Nat) : List Int := List.replicate n 0
theorem rep_zero (k : Nat) : (List.replicate k [D.int 0]).flatten = iL (zeros k) := by
  induction k with
  | zero => rfl
  | succ k ih => rw [List.replicate_succ, List.flatten_cons, ih]; rfl
theorem rep0 (cs : Cells) (L : Nat) (h : L ≤ 1000) : binD false .Mult (.lst [.int 0]) (.int L) cs = some (.val (.lst (iL (zeros L))), cs) := by
  have hk : -(2 ^ 63) ≤ (L : Int) ∧ (L : Int) < 2 ^ 63 ∧ [D.int 0].length * (L : Int).toNat ≤ sizeLine := ⟨by omega, by omega, by
    have : ([D.int 0].length * (L : Int).toNat) = L := by simp
    rw [this, sizeLine_eq]
    omega⟩
  rw [binD_rep cs [.int 0] (L : Int) hk, Int.toNat_natCast, rep_zero]
/-! ### comprehensions over lists of things -/
theorem lcLoop_map {α : Type} {turn : D → Cells → RsG (Option D)} {cs : Cells} (G F : α → D) (p : α → Bool) : ∀ (l : List α) (acc : List D), (∀ x ∈ l, turn (G x) cs = some (.val (if p x = true then some (F x) else none), cs)) → acc.length + l.length ≤ sizeLine → lcLoop turn [] (l.map G) cs acc = some (.val (acc ++ (l.filter p).map F), cs)
  | [], acc, _, _ => by
    simp only [List.map_nil, List.filter_nil]
    unfold lcLoop grd?
    rw [if_pos (grdN cs), List.append_nil]
  | x :: r, acc, h, hl => by
    simp only [List.length_cons] at hl
    have hx := h x List.mem_cons_self
    rw [List.map_cons, List.filter_cons]
    unfold lcLoop grd?
    rw [if_pos (grdN cs), hx, bind_val]
    by_cases c : p x = true
    · rw [if_pos c, if_pos c]
      show (if acc.length < sizeLine then lcLoop turn [] (r.map G) cs (acc ++ [F x]) else none) = _
      rw [if_pos (by omega), lcLoop_map G F p r (acc ++ [F x]) (fun y hy => h y (List.mem_cons_of_mem _ hy)) (by simp; omega), List.map_cons, List.append_assoc]
      rfl
    · rw [if_neg c, if_neg c]
      show lcLoop turn [] (r.map G) cs acc = _
      rw [lcLoop_map G F p r acc (fun y hy => h y (List.mem_cons_of_mem _ hy)) (by omega)]
section
variable {α : Type} {t : Tg} {vs : List Nat} {src : Slots → Cells → RsG ItD} {p : Slots → Cells → RsG Bool} {f : Slots → Cells → Rs} {sl : Slots} {cs : Cells}
theorem lcD_mapA (G F : α → D) (l : List α) (hs : src sl cs = some (.val ⟨l.map G, []⟩, cs)) (hl : l.length ≤ sizeLine)
    (h : ∀ x ∈ l, ∃ sl', setTg t (G x) (wipeD sl vs) = some sl' ∧ p sl' cs = some (.val true, cs) ∧ f sl' cs = some (.val (F x), cs)) : lcD false t vs src p f sl cs = some (.val (.lst (l.map F)), cs) := by
  unfold lcD
  rw [hs, bind_val]
  show (lcLoop (lcTurn t vs p f sl) [] (l.map G) cs []).bind _ = _
  rw [lcLoop_map G F (fun _ => true) l [] ?_ (by simpa using hl)]
  · have : l.filter (fun _ => true) = l := List.filter_eq_self.mpr (by simp)
    rw [this]
    simp [mkL]
  · intro x hx
    obtain ⟨sl', h1, h2, h3⟩ := h x hx
    unfold lcTurn
    rw [h1]
    dsimp only
    rw [h2]
    simp only [noX, bind_val, if_true, h3]
theorem lcD_filtA (G F : α → D) (pb : α → Bool) (l : List α) (hs : src sl cs = some (.val ⟨l.map G, []⟩, cs)) (hl : l.length ≤ sizeLine)
    (h : ∀ x ∈ l, ∃ sl', setTg t (G x) (wipeD sl vs) = some sl' ∧ p sl' cs = some (.val (pb x), cs) ∧ (pb x = true → f sl' cs = some (.val (F x), cs))) : lcD false t vs src p f sl cs = some (.val (.lst ((l.filter pb).map F)), cs) := by
  unfold lcD
  rw [hs, bind_val]
  show (lcLoop (lcTurn t vs p f sl) [] (l.map G) cs []).bind _ = _
  rw [lcLoop_map G F pb l [] ?_ (by simpa using hl)]
  · simp [mkL]
  · intro x hx
    obtain ⟨sl', h1, h2, h3⟩ := h x hx
    unfold lcTurn
    rw [h1]
    dsimp only
    rw [h2]
    by_cases c : pb x = true
    · simp only [noX, bind_val, if_pos c, h3 c]
    · simp only [noX, bind_val, if_neg c]
/-- a comprehension over range(N) that may change cells -/
theorem ev_lcLoopR {turn : D → Cells → RsG (Option D)} (N : Nat) (I : Nat → List D → Cells → Prop) (hs : ∀ j acc cs, j < N → I j acc cs → Ev (turn (.int (0 + (j : Int))) cs) fun o cs' => ∃ d, o = some d ∧ I (j + 1) (acc ++ [d]) cs') :
    ∀ (m j : Nat), j + m = N → ∀ (acc : List D) (cs : Cells), I j acc cs → acc.length + m ≤ sizeLine → Ev (lcLoop turn [] ((List.range' j m).map fun (k : Nat) => D.int (0 + (k : Int))) cs acc) fun ds cs' => I N ds cs'
  | 0, j, e, acc, cs, h, _ => ev_grd (grdN _) (ev_val.mpr (by have : j = N := by omega
                                                              rw [← this]; exact h))
  | m + 1, j, e, acc, cs, h, hl => by
    rw [List.range'_succ, List.map_cons]
    refine ev_grd (grdN _) (Ev.bind (hs j acc cs (by omega) h) ?_)
    rintro _ cs' ⟨d, rfl, h'⟩
    show Ev (if acc.length < sizeLine then lcLoop turn [] _ cs' (acc ++ [d]) else none) _
    rw [if_pos (by omega)]
    exact ev_lcLoopR N I hs m (j + 1) (by omega) (acc ++ [d]) cs' h' (by simp; omega)
theorem ev_lcR {i : Nat} {T : Tb} {Q : D → Cells → Prop} (N : Nat) (hN : N ≤ 1000000) (I : Nat → List D → Cells → Prop) (hs0 : src sl cs = some (.val ⟨rngList 0 N, []⟩, cs)) (h0 : I 0 [] cs)
    (hs : ∀ j acc cs, j < N → I j acc cs → Ev (f ((wipeD sl vs).set i (some (.int (j : Int)))) cs) fun d cs' => I (j + 1) (acc ++ [d]) cs') (he : ∀ ds cs', I N ds cs' → Q (.lst ds) cs') : Ev (lcD false (.nm i) vs src (tstO (evo T .no)) f sl cs) Q := by
  unfold lcD
  rw [hs0, bind_val]
  show Ev ((lcLoop (lcTurn (.nm i) vs (tstO (evo T .no)) f sl) [] (rngList 0 N) cs []).bind _) _
  unfold rngList
  rw [List.range_eq_range']
  refine Ev.bind (ev_lcLoopR N I ?_ N 0 (by omega) [] cs h0 (by rw [sizeLine_eq]; simp; omega)) fun ds cs' h => ?_
  · intro j acc cs hj h
    unfold lcTurn
    dsimp only [setTg]
    have e : tstO (evo T .no) ((wipeD sl vs).set i (some (.int (0 + (j : Int))))) cs = some (.val true, cs) := by rw [x_o0]
    rw [e]
    show Ev ((noX (f ((wipeD sl vs).set i (some (.int (0 + (j : Int))))) cs)).bind fun d cs => some (.val (some d), cs)) _
    rw [ev_bind, ev_noX, Int.zero_add]
    exact (hs j acc cs hj h).imp fun d cs' h => ev_val.mpr ⟨d, rfl, h⟩
  · exact ev_val.mpr (he ds cs' h)
end
/-- a comprehension over a list of things that may change cells -/
theorem ev_lcLoopI {α : Type} (F : α → D) {turn : D → Cells → RsG (Option D)} (I : List α → List D → Cells → Prop) (hs : ∀ x r acc cs, I (x :: r) acc cs → Ev (turn (F x) cs) fun o cs' => ∃ d, o = some d ∧ I r (acc ++ [d]) cs') :
    ∀ (l : List α) (acc : List D) (cs : Cells), I l acc cs → acc.length + l.length ≤ sizeLine → Ev (lcLoop turn [] (l.map F) cs acc) fun ds cs' => I [] ds cs'
  | [], acc, cs, h, _ => ev_grd (grdN _) (ev_val.mpr h)
  | x :: r, acc, cs, h, hl => by
    simp only [List.length_cons] at hl
    rw [List.map_cons]
    refine ev_grd (grdN _) (Ev.bind (hs x r acc cs h) ?_)
    rintro _ cs' ⟨d, rfl, h'⟩
    show Ev (if acc.length < sizeLine then lcLoop turn [] _ cs' (acc ++ [d]) else none) _
    rw [if_pos (by omega)]
    exact ev_lcLoopI F I hs r (acc ++ [d]) cs' h' (by simp; omega)
theorem ev_lcI {α : Type} (F : α → D) {t : Tg} {vs : List Nat} {src : Slots → Cells → RsG ItD} {f : Slots → Cells → Rs} {sl : Slots} {cs : Cells} {T : Tb} {Q : D → Cells → Prop} (l : List α) (hN : l.length ≤ 1000000) (I : List α → List D → Cells → Prop) (hs0 : src sl cs = some (.val ⟨l.map F, []⟩, cs)) (h0 : I l [] cs)
    (hs : ∀ x r acc cs, I (x :: r) acc cs → ∃ sl', setTg t (F x) (wipeD sl vs) = some sl' ∧ Ev (f sl' cs) fun d cs' => I r (acc ++ [d]) cs') (he : ∀ ds cs', I [] ds cs' → Q (.lst ds) cs') : Ev (lcD false t vs src (tstO (evo T .no)) f sl cs) Q := by
  unfold lcD
  rw [hs0, bind_val]
  show Ev ((lcLoop (lcTurn t vs (tstO (evo T .no)) f sl) [] (l.map F) cs []).bind _) _
  refine Ev.bind (ev_lcLoopI F I ?_ l [] cs h0 (by rw [sizeLine_eq]; simp; omega)) fun ds cs' h => ?_
  · intro x r acc cs h
    obtain ⟨sl', e1, e2⟩ := hs x r acc cs h
    unfold lcTurn
    rw [e1]
    dsimp only
    have e : tstO (evo T .no) sl' cs = some (.val true, cs) := by rw [x_o0]
    rw [e]
    show Ev ((noX (f sl' cs)).bind fun d cs => some (.val (some d), cs)) _
    rw [ev_bind, ev_noX]
    exact e2.imp fun d cs' h => ev_val.mpr ⟨d, rfl, h⟩
  · exact ev_val.mpr (he ds cs' h)
theorem ne_tup (cs : Cells) (l m : List Int) : cmpD .NotEq (.tup (iL l)) (.tup (iL m)) cs = some (.val (.bl (!decide (l = m))), cs) := ne_do cs (eqD_tup cs l m)
theorem eq_tup (cs : Cells) (l m : List Int) : cmpD .Eq (.tup (iL l)) (.tup (iL m)) cs = some (.val (.bl (decide (l = m))), cs) := eq_do cs (eqD_tup cs l m)
section
variable (cs : Cells)
@[simp] theorem isN_int (i : Int) : cmpD .Is (.int i) .non cs = some (.val (.bl false), cs) := id rfl
@[simp] theorem isntN_int (i : Int) : cmpD .IsNot (.int i) .non cs = some (.val (.bl true), cs) := id rfl
@[simp] theorem isN_bl (i : Bool) : cmpD .Is (.bl i) .non cs = some (.val (.bl false), cs) := id rfl
@[simp] theorem isntN_bl (i : Bool) : cmpD .IsNot (.bl i) .non cs = some (.val (.bl true), cs) := id rfl
@[simp] theorem isN_str (i : Str) : cmpD .Is (.str i) .non cs = some (.val (.bl false), cs) := id rfl
@[simp] theorem isntN_str (i : Str) : cmpD .IsNot (.str i) .non cs = some (.val (.bl true), cs) := id rfl
@[simp] theorem isN_tup (i : List D) : cmpD .Is (.tup i) .non cs = some (.val (.bl false), cs) := id rfl
@[simp] theorem isntN_tup (i : List D) : cmpD .IsNot (.tup i) .non cs = some (.val (.bl true), cs) := id rfl
@[simp] theorem isN_lst (i : List D) : cmpD .Is (.lst i) .non cs = some (.val (.bl false), cs) := id rfl
@[simp] theorem isntN_lst (i : List D) : cmpD .IsNot (.lst i) .non cs = some (.val (.bl true), cs) := id rfl
@[simp] theorem isN_frz (i : List D) : cmpD .Is (.frz i) .non cs = some (.val (.bl false), cs) := id rfl
@[simp] theorem isntN_frz (i : List D) : cmpD .IsNot (.frz i) .non cs = some (.val (.bl true), cs) := id rfl
@[simp] theorem isN_non : cmpD .Is .non .non cs = some (.val (.bl true), cs) := id rfl
@[simp] theorem isntN_non : cmpD .IsNot .non .non cs = some (.val (.bl false), cs) := id rfl
end
end EV

namespace EV
open PySem PySem.Spec PyProof.Rows L2 ZG
def topS (i : Nat) : Stmt := PySem.Challenge.pw_paperrows_k21_sums_and_nevers.main.body.getD i (.Pass ⟨0, 0, 0, 0⟩)
def clsS (st : Stmt) (j : Nat) : Stmt := match st with
  | .ClassDef _ _ _ b _ _ _ _ _ _ _ => b.getD j (.Pass ⟨0, 0, 0, 0⟩)
  | _ => .Pass ⟨0, 0, 0, 0⟩
def b_is_whole : Ss := (.cons (.ret (.tyi false (.var 0) "int")) .nil)
def d_is_whole : Df := ⟨"is_whole", "is_whole", topS 4, ["thing"], ["thing"], false, b_is_whole, none⟩
def b_are_whole : Ss := (.cons (.for (.nm 1) (.seq (.var 0)) (.cons (.ite (.tyi true (.var 1) "int") (.cons (.ret (.bl false)) .nil) .nil) .nil)) (.cons (.ret (.bl true)) .nil))
def d_are_whole : Df := ⟨"are_whole", "are_whole", topS 5, ["things", "thing"], ["things"], false, b_are_whole, none⟩
def b_is_form : Ss := (.cons (.ret (.and (.cons (.isi (.var 0) "tuple") (.cons (.cmp .Gt (.blt "len" false (.cons (.var 0) .nil)) (.int 0)) (.cons (.call 1 (.cons (.var 0) .nil)) .nil))))) .nil)
def d_is_form : Df := ⟨"is_form", "is_form", topS 6, ["thing"], ["thing"], false, b_is_form, none⟩
def b_often : Ss := (.cons (.expr (.call 5 (.cons (.var 0) .nil))) (.cons (.ite (.not (.call 0 (.cons (.var 1) .nil))) (.cons (.raise 1) .nil) .nil) (.cons (.ret (.tlt "tuple" false (.cons (.lc false [2] (.nm 2) (.seq (.var 0)) .no (.bin false .Mult (.var 2) (.var 1))) .nil))) .nil)))
def d_often : Df := ⟨"often", "often", topS 8, ["form", "many", "number"], ["form", "many"], false, b_often, none⟩
def b_contrary : Ss := (.cons (.set 1 (.call 3 (.cons (.var 0) (.cons (.neg (.int 1)) .nil)))) (.cons (.ret (.bin false .Add (.tup (.cons (.bin false .Sub (.ix (.var 1) (.int 0)) (.int 1)) .nil)) (.sl false (.var 1) (.yes (.int 1)) .no))) .nil))
def d_contrary : Df := ⟨"contrary", "contrary", topS 9, ["form", "told"], ["form"], false, b_contrary, none⟩
def b__look_form : Ss := (.cons (.ite (.not (.call 2 (.cons (.var 0) .nil))) (.cons (.raise 1) .nil) .nil) .nil)
def d__look_form : Df := ⟨"_look_form", "_look_form", topS 10, ["form"], ["form"], false, b__look_form, none⟩
def b_shows : Ss := (.cons (.ret (.mcl 124 (.new false 21 (.cons (.new false 20 .nil) (.cons (.blt "len" false (.cons (.var 3) .nil)) (.cons (.var 2) (.cons (.var 3) .nil))))) (.cons (.var 0) (.cons (.tlt "list" false (.cons (.var 1) .nil)) (.cons (.con 0) .nil))))) .nil)
def d_shows : Df := ⟨"shows", "shows", topS 15, ["paper", "hints", "unlikes", "goal"], ["paper", "hints", "unlikes", "goal"], false, b_shows, none⟩
def b_sides_of : Ss := (.cons (.ret (.tup (.cons (.tup (.cons (.bin false .Sub (.ix (.var 0) (.int 0)) (.int 1)) (.star (.sl false (.var 0) (.yes (.int 1)) .no) .nil))) (.cons (.call 4 (.cons (.var 0) .nil)) .nil)))) .nil)
def d_sides_of : Df := ⟨"sides_of", "sides_of", topS 16, ["unlike"], ["unlike"], false, b_sides_of, none⟩
def b__is_paper : Ss := (.cons (.ite (.or (.cons (.not (.isi (.var 0) "tuple")) (.cons (.cmp .Eq (.blt "len" false (.cons (.var 0) .nil)) (.int 0)) .nil))) (.cons (.ret (.bl false)) .nil) .nil) (.cons (.set 1 (.ix (.var 0) (.int 0))) (.cons (.ite (.cmp .Eq (.var 1) (.str "sum")) (.cons (.ret (.and (.cons (.cmp .Eq (.blt "len" false (.cons (.var 0) .nil)) (.int 3)) (.cons (.tyi false (.ix (.var 0) (.int 1)) "int") (.cons (.cmp .GtE (.ix (.var 0) (.int 1)) (.int 1)) (.cons (.call 9 (.cons (.ix (.var 0) (.int 2)) .nil)) .nil)))))) .nil) .nil) (.cons (.ite (.cmp .Eq (.var 1) (.str "never")) (.cons (.ret (.and (.cons (.cmp .Eq (.blt "len" false (.cons (.var 0) .nil)) (.int 2)) (.cons (.call 9 (.cons (.ix (.var 0) (.int 1)) .nil)) .nil)))) .nil) .nil) (.cons (.ite (.cmp .Eq (.var 1) (.str "split")) (.cons (.ret (.and (.cons (.cmp .Eq (.blt "len" false (.cons (.var 0) .nil)) (.int 4)) (.cons (.call 2 (.cons (.ix (.var 0) (.int 1)) .nil)) .nil)))) .nil) .nil) (.cons (.ret (.and (.cons (.cmp .Eq (.var 1) (.str "apart")) (.cons (.cmp .Eq (.blt "len" false (.cons (.var 0) .nil)) (.int 4)) (.cons (.tyi false (.ix (.var 0) (.int 1)) "int") (.cons (.cmp .GtE (.ix (.var 0) (.int 1)) (.int 0)) .nil)))))) .nil))))))
def d__is_paper : Df := ⟨"_is_paper", "_is_paper", topS 17, ["thing", "word"], ["thing"], false, b__is_paper, none⟩
def b__are_weights : Ss := (.cons (.ite (.not (.isi (.var 0) "list")) (.cons (.ret (.bl false)) .nil) .nil) (.cons (.for (.nm 1) (.seq (.var 0)) (.cons (.ite (.or (.cons (.tyi true (.var 1) "int") (.cons (.cmp .Lt (.var 1) (.int 0)) .nil))) (.cons (.ret (.bl false)) .nil) .nil) .nil)) (.cons (.ret (.bl true)) .nil)))
def d__are_weights : Df := ⟨"_are_weights", "_are_weights", topS 18, ["things", "thing"], ["things"], false, b__are_weights, none⟩
def b__law_purse : Ss := (.cons (.set 2 (.int 0)) (.cons (.ite (.cmp .Lt (.var 1) (.blt "len" false (.cons (.var 0) .nil))) (.cons (.set 2 (.ix (.var 0) (.var 1))) .nil) .nil) (.cons (.set 3 (.blt "abs" false (.cons (.var 2) .nil))) (.cons (.ret (.lst true (.cons (.bin false .Mult (.var 3) (.tlt "int" false (.cons (.cmp .GtE (.var 3) (.bin false .Pow (.int 10) (.int 18))) .nil))) (.cons (.bin false .Mod (.bin false .Add (.bin false .Add (.bin false .Mod (.var 2) (.int 2147483647)) (.bin false .Mult (.int 7919) (.var 1))) (.int 17)) (.int 2147483647)) (.cons (.int 0) .nil))))) .nil))))
def d__law_purse : Df := ⟨"_law_purse", "_law_purse", topS 20, ["script", "at", "cell", "far"], ["script", "at"], false, b__law_purse, none⟩
def b__law_take : Ss := (.cons (.ite (.cmp .Gt (.ix (.var 0) (.int 0)) (.int 0)) (.cons (.set 5 (.bin false .Mod (.ix (.var 0) (.int 0)) (.var 1))) (.cons (.sub (.var 0) (.int 0) (.bin false .FloorDiv (.ix (.var 0) (.int 0)) (.var 1))) (.cons (.ret (.var 5)) .nil))) .nil) (.cons (.sub (.var 0) (.int 2) (.bin false .Add (.ix (.var 0) (.int 2)) (.int 1))) (.cons (.set 2 (.ix (.var 0) (.int 2))) (.cons (.set 3 (.bin false .Mod (.bin false .Pow (.bin false .Add (.bin false .Add (.ix (.var 0) (.int 1)) (.bin false .Mult (.bin false .Mult (.int 48271) (.var 2)) (.var 2))) (.int 1)) (.int 5)) (.int 2147483647))) (.cons (.set 4 (.bin false .Mod (.bin false .Pow (.bin false .Add (.bin false .Mult (.var 3) (.bin false .Add (.bin false .Mult (.int 2) (.var 2)) (.int 30011))) (.var 2)) (.int 3)) (.int 998244353))) (.cons (.ret (.bin false .Mod (.bin false .FloorDiv (.bin false .Add (.bin false .Mult (.var 3) (.int 998244353)) (.var 4)) (.int 1009)) (.var 1))) .nil))))))
def d__law_take : Df := ⟨"_law_take", "_law_take", topS 21, ["purse", "many", "turn", "one", "other", "digit"], ["purse", "many"], false, b__law_take, none⟩
def b__law_form : Ss := (.cons (.set 3 (.lst true .nil)) (.cons (.for (.nm 4) (.rng1 (.var 1)) (.cons (.expr (.mth .append (.var 3) (.cons (.ix (.lst false (.cons (.int 0) (.cons (.bin false .Sub (.call 11 (.cons (.var 0) (.cons (.int 3) .nil))) (.int 1)) (.cons (.bin false .Sub (.call 11 (.cons (.var 0) (.cons (.bin false .Add (.bin false .Mult (.int 2) (.var 2)) (.int 1)) .nil))) (.var 2)) .nil)))) (.call 11 (.cons (.var 0) (.cons (.int 3) .nil)))) .nil))) .nil)) (.cons (.ret (.tlt "tuple" false (.cons (.var 3) .nil))) .nil)))
def d__law_form : Df := ⟨"_law_form", "_law_form", topS 22, ["purse", "many", "most", "numbers", "nth"], ["purse", "many", "most"], true, b__law_form, none⟩
def b__law_is_form : Ss := (.cons (.ite (.or (.cons (.not (.isi (.var 0) "tuple")) (.cons (.cmp .Eq (.var 0) (.tup .nil)) .nil))) (.cons (.ret (.bl false)) .nil) .nil) (.cons (.ret (.cmp .Eq (.lc false [1] (.nm 1) (.seq (.var 0)) (.yes (.or (.cons (.not (.isi (.var 1) "int")) (.cons (.isi (.var 1) "bool") .nil)))) (.var 1)) (.lst false .nil))) .nil))
def d__law_is_form : Df := ⟨"_law_is_form", "_law_is_form", topS 25, ["thing", "one"], ["thing"], false, b__law_is_form, none⟩
def b__law_leaf : Ss := (.cons (.set 3 (.ix (.var 0) (.neg (.int 1)))) (.cons (.ite (.cmp .NotEq (.blt "len" false (.cons (.var 3) .nil)) (.blt "len" false (.cons (.var 1) .nil))) (.cons (.ret (.bl false)) .nil) .nil) (.cons (.set 4 (.bin false .Mult (.lst false (.cons (.int 0) .nil)) (.blt "len" false (.cons (.var 2) .nil)))) (.cons (.for (.tp [5, 6]) (.zip (.var 3) (.var 1)) (.cons (.set 4 (.lc false [10, 9] (.tp [10, 9]) (.zip (.var 4) (.var 6)) .no (.bin false .Add (.var 10) (.bin false .Mult (.var 5) (.var 9))))) .nil)) (.cons (.ite (.cmp .Eq (.ix (.var 0) (.int 0)) (.str "never")) (.cons (.ret (.and (.cons (.cmp .Lt (.ix (.var 4) (.int 0)) (.int 0)) (.cons (.cmp .Eq (.sl false (.var 4) (.yes (.int 1)) .no) (.bin false .Mult (.lst false (.cons (.int 0) .nil)) (.bin false .Sub (.blt "len" false (.cons (.var 2) .nil)) (.int 1)))) .nil)))) .nil) .nil) (.cons (.set 7 (.lc false [8, 9] (.tp [8, 9]) (.zip (.var 2) (.var 4)) .no (.bin false .Sub (.bin false .Mult (.ix (.var 0) (.int 1)) (.var 8)) (.var 9)))) (.cons (.ret (.and (.cons (.cmp .Gt (.ix (.var 7) (.int 0)) (.neg (.ix (.var 0) (.int 1)))) (.cons (.cmp .Eq (.sl false (.var 7) (.yes (.int 1)) .no) (.bin false .Mult (.lst false (.cons (.int 0) .nil)) (.bin false .Sub (.blt "len" false (.cons (.var 2) .nil)) (.int 1)))) .nil)))) .nil)))))))
def d__law_leaf : Df := ⟨"_law_leaf", "_law_leaf", topS 26, ["paper", "hints", "goal", "weights", "total_form", "weight", "hint", "rest", "number", "more", "old"], ["paper", "hints", "goal"], false, b__law_leaf, none⟩
def b__law_is_weights : Ss := (.cons (.ite (.or (.cons (.not (.isi (.var 0) "list")) (.cons (.not (.call 13 (.cons (.bin false .Add (.tup (.cons (.int 0) .nil)) (.tlt "tuple" false (.cons (.var 0) .nil))) .nil))) .nil))) (.cons (.ret (.bl false)) .nil) .nil) (.cons (.ret (.cmp .Eq (.lc false [1] (.nm 1) (.seq (.var 0)) (.yes (.cmp .Lt (.var 1) (.int 0))) (.var 1)) (.lst false .nil))) .nil))
def d__law_is_weights : Df := ⟨"_law_is_weights", "_law_is_weights", topS 27, ["thing", "weight"], ["thing"], false, b__law_is_weights, none⟩
def b__law_shows : Ss := (.cons (.ite (.or (.cons (.not (.isi (.var 0) "tuple")) (.cons (.cmp .Eq (.var 0) (.tup .nil)) (.cons (.not (.isi (.ix (.var 0) (.int 0)) "str")) .nil)))) (.cons (.ret (.bl false)) .nil) .nil) (.cons (.ite (.and (.cons (.cmp .Eq (.ix (.var 0) (.int 0)) (.str "sum")) (.cons (.cmp .Eq (.blt "len" false (.cons (.var 0) .nil)) (.int 3)) .nil))) (.cons (.set 7 (.and (.cons (.call 13 (.cons (.tup (.cons (.ix (.var 0) (.int 1)) .nil)) .nil)) (.cons (.cmp .Gt (.ix (.var 0) (.int 1)) (.int 0)) (.cons (.call 15 (.cons (.ix (.var 0) (.int 2)) .nil)) .nil))))) (.cons (.ret (.and (.cons (.var 7) (.cons (.call 14 (.cons (.var 0) (.cons (.var 1) (.cons (.var 3) .nil)))) .nil)))) .nil)) .nil) (.cons (.ite (.and (.cons (.cmp .Eq (.ix (.var 0) (.int 0)) (.str "never")) (.cons (.cmp .Eq (.blt "len" false (.cons (.var 0) .nil)) (.int 2)) .nil))) (.cons (.ret (.and (.cons (.call 15 (.cons (.ix (.var 0) (.int 1)) .nil)) (.cons (.call 14 (.cons (.var 0) (.cons (.var 1) (.cons (.var 3) .nil)))) .nil)))) .nil) .nil) (.cons (.ite (.or (.cons (.cmp .NotIn (.ix (.var 0) (.int 0)) (.tup (.cons (.str "split") (.cons (.str "apart") .nil)))) (.cons (.cmp .NotEq (.blt "len" false (.cons (.var 0) .nil)) (.int 4)) (.cons (.cmp .Eq (.var 4) (.int 0)) .nil)))) (.cons (.ret (.bl false)) .nil) .nil) (.cons (.set 5 (.ix (.var 0) (.int 1))) (.cons (.ite (.cmp .Eq (.ix (.var 0) (.int 0)) (.str "split")) (.cons (.ite (.or (.cons (.not (.call 13 (.cons (.var 5) .nil))) (.cons (.cmp .NotEq (.blt "len" false (.cons (.var 5) .nil)) (.blt "len" false (.cons (.var 3) .nil))) .nil))) (.cons (.ret (.bl false)) .nil) .nil) (.cons (.set 8 (.var 5)) .nil)) (.cons (.ite (.or (.cons (.not (.call 13 (.cons (.tup (.cons (.var 5) .nil)) .nil))) (.cons (.not (.chn .LtE .Lt (.int 0) (.var 5) (.blt "len" false (.cons (.var 2) .nil)))) .nil))) (.cons (.ret (.bl false)) .nil) .nil) (.cons (.set 5 (.ix (.var 2) (.var 5))) (.cons (.set 8 (.bin false .Add (.tup (.cons (.bin false .Sub (.ix (.var 5) (.int 0)) (.int 1)) .nil)) (.sl false (.var 5) (.yes (.int 1)) .no))) .nil)))) (.cons (.set 6 (.bin false .Add (.tup (.cons (.bin false .Sub (.neg (.ix (.var 5) (.int 0))) (.int 1)) .nil)) (.tlt "tuple" false (.cons (.lc false [9] (.nm 9) (.seq (.sl false (.var 5) (.yes (.int 1)) .no)) .no (.neg (.var 9))) .nil)))) (.cons (.ite (.not (.call 16 (.cons (.ix (.var 0) (.int 2)) (.cons (.bin false .Add (.var 1) (.lst false (.cons (.var 8) .nil))) (.cons (.var 2) (.cons (.var 3) (.cons (.bin false .Sub (.var 4) (.int 1)) .nil))))))) (.cons (.ret (.bl false)) .nil) .nil) (.cons (.ret (.call 16 (.cons (.ix (.var 0) (.int 3)) (.cons (.bin false .Add (.var 1) (.lst false (.cons (.var 6) .nil))) (.cons (.var 2) (.cons (.var 3) (.cons (.bin false .Sub (.var 4) (.int 1)) .nil))))))) .nil)))))))))
def d__law_shows : Df := ⟨"_law_shows", "_law_shows", topS 28, ["paper", "hints", "unlikes", "goal", "deep", "key", "contra", "is_right", "ahead", "number"], ["paper", "hints", "unlikes", "goal", "deep"], false, b__law_shows, none⟩
def b__law_leaf_for : Ss := (.cons (.set 3 (.bin false .Add (.int 1) (.call 11 (.cons (.var 0) (.cons (.int 3) .nil))))) (.cons (.set 4 (.lc false [8] (.nm 8) (.seq (.var 1)) .no (.call 11 (.cons (.var 0) (.cons (.int 3) .nil))))) (.cons (.set 5 (.bin false .Sub (.bin false .Sub (.call 11 (.cons (.var 0) (.cons (.bin false .Add (.var 3) (.int 3)) .nil))) (.var 3)) (.int 1))) (.cons (.set 6 (.bin false .Mult (.lst false (.cons (.int 0) .nil)) (.blt "len" false (.cons (.var 2) .nil)))) (.cons (.for (.tp [7, 8]) (.zip (.var 4) (.var 1)) (.cons (.set 6 (.lc false [13, 12] (.tp [13, 12]) (.zip (.var 6) (.var 8)) .no (.bin false .Add (.var 13) (.bin false .Mult (.var 7) (.var 12))))) .nil)) (.cons (.ite (.cmp .Eq (.call 11 (.cons (.var 0) (.cons (.int 4) .nil))) (.int 3)) (.cons (.set 10 (.bin false .Sub (.call 11 (.cons (.var 0) (.cons (.int 4) .nil))) (.int 2))) (.cons (.ret (.tup (.cons (.tup (.cons (.str "never") (.cons (.bin false .Add (.var 4) (.lst false (.cons (.int 1) .nil))) .nil))) (.cons (.bin false .Add (.tup (.cons (.bin false .Sub (.var 10) (.ix (.var 6) (.int 0))) .nil)) (.tlt "tuple" false (.cons (.lc false [11] (.nm 11) (.seq (.sl false (.var 6) (.yes (.int 1)) .no)) .no (.neg (.var 11))) .nil))) .nil)))) .nil)) .nil) (.cons (.set 9 (.lc false [11, 12] (.tp [11, 12]) (.zip (.var 2) (.var 6)) .no (.bin false .Sub (.bin false .Mult (.var 3) (.var 11)) (.var 12)))) (.cons (.ret (.tup (.cons (.tup (.cons (.str "sum") (.cons (.var 3) (.cons (.bin false .Add (.var 4) (.lst false (.cons (.int 1) .nil))) .nil)))) (.cons (.bin false .Add (.tup (.cons (.bin false .Sub (.ix (.var 9) (.int 0)) (.var 5)) .nil)) (.tlt "tuple" false (.cons (.sl false (.var 9) (.yes (.int 1)) .no) .nil))) .nil)))) .nil))))))))
def d__law_leaf_for : Df := ⟨"_law_leaf_for", "_law_leaf_for", topS 29, ["purse", "hints", "goal", "times", "weights", "rest", "total_form", "weight", "hint", "wanted", "low", "number", "more", "old"], ["purse", "hints", "goal"], false, b__law_leaf_for, none⟩
def b_Forms_left : Ss := (.cons (.set 5 (.lc false [8] (.nm 8) (.seq (.var 2)) .no (.bin false .Mult (.var 1) (.var 8)))) (.cons (.for (.tp [6, 7]) (.zip (.var 3) (.var 4)) (.cons (.ite (.cmp .NotEq (.var 6) (.int 0)) (.cons (.set 5 (.lc false [8, 9] (.tp [8, 9]) (.zip (.var 5) (.var 7)) .no (.bin false .Sub (.var 8) (.bin false .Mult (.var 6) (.var 9))))) .nil) .nil) .nil)) (.cons (.ret (.ife (.blt "any" false (.cons (.sl false (.var 5) (.yes (.int 1)) .no) .nil)) .non (.ix (.var 5) (.int 0)))) .nil)))
def d_Forms_left : Df := ⟨"left", "Forms.left", clsS (topS 13) 0, ["self", "k", "goal", "weights", "hints", "told", "weight", "hint", "number", "further"], ["self", "k", "goal", "weights", "hints"], false, b_Forms_left, some (20, 87)⟩
def b_Forms_further : Ss := (.cons (.ret (.tup (.cons (.var 1) (.cons (.call 4 (.cons (.var 1) .nil)) .nil)))) .nil)
def d_Forms_further : Df := ⟨"further", "Forms.further", clsS (topS 13) 1, ["self", "form"], ["self", "form"], false, b_Forms_further, some (20, 68)⟩
def b_Forms_parted : Ss := (.cons (.ret (.call 7 (.cons (.var 1) .nil))) .nil)
def d_Forms_parted : Df := ⟨"parted", "Forms.parted", clsS (topS 13) 2, ["self", "unlike"], ["self", "unlike"], false, b_Forms_parted, some (20, 109)⟩
def b_Look__init__ : Ss := (.cons (.sfld 66 (.var 0) (.var 1)) (.cons (.sfld 88 (.var 0) (.var 2)) (.cons (.sfld 135 (.var 0) (.var 3)) (.cons (.sfld 72 (.var 0) (.var 4)) .nil))))
def d_Look__init__ : Df := ⟨"__init__", "Look.__init__", clsS (topS 14) 0, ["self", "forms", "length", "unlikes", "goal"], ["self", "forms", "length", "unlikes", "goal"], false, b_Look__init__, some (21, 1)⟩
def b_Look_shows : Ss := (.cons (.ite (.not (.call 8 (.cons (.var 1) .nil))) (.cons (.ret (.bl false)) .nil) .nil) (.cons (.ite (.cmp .Eq (.ix (.var 1) (.int 0)) (.str "sum")) (.cons (.ret (.mcl 33 (.var 0) (.cons (.ix (.var 1) (.int 1)) (.cons (.ix (.var 1) (.int 2)) (.cons (.var 2) .nil))))) .nil) .nil) (.cons (.ite (.cmp .Eq (.ix (.var 1) (.int 0)) (.str "never")) (.cons (.ret (.mcl 26 (.var 0) (.cons (.ix (.var 1) (.int 1)) (.cons (.var 2) .nil)))) .nil) .nil) (.cons (.ite (.cmp .Eq (.var 3) (.int 0)) (.cons (.ret (.bl false)) .nil) .nil) (.cons (.ite (.cmp .Eq (.ix (.var 1) (.int 0)) (.str "split")) (.cons (.ite (.cmp .NotEq (.blt "len" false (.cons (.ix (.var 1) (.int 1)) .nil)) (.fld (.var 0) 88)) (.cons (.ret (.bl false)) .nil) .nil) (.cons (.asg (.tp [4, 5]) (.mcl 68 (.fld (.var 0) 66) (.cons (.ix (.var 1) (.int 1)) .nil))) .nil)) (.cons (.ite (.cmp .GtE (.ix (.var 1) (.int 1)) (.blt "len" false (.cons (.fld (.var 0) 135) .nil))) (.cons (.ret (.bl false)) .nil) .nil) (.cons (.asg (.tp [4, 5]) (.mcl 109 (.fld (.var 0) 66) (.cons (.ix (.fld (.var 0) 135) (.ix (.var 1) (.int 1))) .nil))) .nil))) (.cons (.ret (.and (.cons (.mcl 124 (.var 0) (.cons (.ix (.var 1) (.int 2)) (.cons (.bin false .Add (.var 2) (.lst false (.cons (.var 4) .nil))) (.cons (.bin false .Sub (.var 3) (.int 1)) .nil)))) (.cons (.mcl 124 (.var 0) (.cons (.ix (.var 1) (.int 3)) (.cons (.bin false .Add (.var 2) (.lst false (.cons (.var 5) .nil))) (.cons (.bin false .Sub (.var 3) (.int 1)) .nil)))) .nil)))) .nil))))))
def d_Look_shows : Df := ⟨"shows", "Look.shows", clsS (topS 14) 1, ["self", "paper", "hints", "left", "further", "other"], ["self", "paper", "hints", "left"], false, b_Look_shows, some (21, 124)⟩
def b_Look__sum_shows : Ss := (.cons (.ite (.cmp .NotEq (.blt "len" false (.cons (.var 2) .nil)) (.blt "len" false (.cons (.var 3) .nil))) (.cons (.ret (.bl false)) .nil) .nil) (.cons (.set 4 (.mcl 87 (.fld (.var 0) 66) (.cons (.var 1) (.cons (.fld (.var 0) 72) (.cons (.var 2) (.cons (.var 3) .nil)))))) (.cons (.ret (.and (.cons (.cmp .IsNot (.var 4) .non) (.cons (.cmp .Gt (.var 4) (.neg (.var 1))) .nil)))) .nil)))
def d_Look__sum_shows : Df := ⟨"_sum_shows", "Look._sum_shows", clsS (topS 14) 2, ["self", "k", "weights", "hints", "told"], ["self", "k", "weights", "hints"], false, b_Look__sum_shows, some (21, 33)⟩
def b_Look__never_shows : Ss := (.cons (.ite (.cmp .NotEq (.blt "len" false (.cons (.var 1) .nil)) (.blt "len" false (.cons (.var 2) .nil))) (.cons (.ret (.bl false)) .nil) .nil) (.cons (.set 3 (.mcl 87 (.fld (.var 0) 66) (.cons (.int 0) (.cons (.fld (.var 0) 72) (.cons (.var 1) (.cons (.var 2) .nil)))))) (.cons (.ret (.and (.cons (.cmp .IsNot (.var 3) .non) (.cons (.cmp .Gt (.var 3) (.int 0)) .nil)))) .nil)))
def d_Look__never_shows : Df := ⟨"_never_shows", "Look._never_shows", clsS (topS 14) 3, ["self", "weights", "hints", "told"], ["self", "weights", "hints"], false, b_Look__never_shows, some (21, 26)⟩
def b_law : Ss := (.cons (.for (.nm 1) (.rng1 (.blt "max" false (.cons (.int 1) (.cons (.blt "min" false (.cons (.blt "len" false (.cons (.var 0) .nil)) (.cons (.int 6) .nil))) .nil)))) (.cons (.set 2 (.call 10 (.cons (.var 0) (.cons (.var 1) .nil)))) (.cons (.set 3 (.bin false .Add (.int 2) (.call 11 (.cons (.var 2) (.cons (.int 4) .nil))))) (.cons (.set 4 (.call 12 (.cons (.var 2) (.cons (.var 3) (.cons (.int 5) .nil))))) (.cons (.set 5 (.lc false [14] (.nm 14) (.rng1 (.call 11 (.cons (.var 2) (.cons (.int 5) .nil)))) .no (.call 12 (.cons (.var 2) (.cons (.var 3) (.cons (.int 5) .nil)))))) (.cons (.for (.nm 6) (.rng1 (.int 4)) (.cons (.asg (.tp [7, 8]) (.call 17 (.cons (.var 2) (.cons (.var 5) (.cons (.var 4) .nil))))) (.cons (.set 9 (.ix (.var 7) (.neg (.int 1)))) (.cons (.set 10 (.ix (.lst false (.cons (.bl true) (.cons (.neg (.int 1)) (.cons .non (.cons (.str "1") (.cons (.int 0) (.cons (.tup (.cons (.int 1) .nil)) (.cons (.int 2) .nil)))))))) (.call 11 (.cons (.var 2) (.cons (.int 7) .nil))))) (.cons (.set 11 (.call 11 (.cons (.var 2) (.cons (.bin false .Add (.blt "len" false (.cons (.var 9) .nil)) (.int 1)) .nil)))) (.cons (.set 12 (.lst false (.cons (.var 7) (.cons (.bin false .Add (.sl false (.var 7) .no (.yes (.neg (.int 1)))) (.tup (.cons (.sl false (.var 9) .no (.yes (.neg (.int 1)))) .nil))) (.cons (.bin false .Add (.sl false (.var 7) .no (.yes (.neg (.int 1)))) (.tup (.cons (.bin false .Add (.var 9) (.lst false (.cons (.int 0) .nil))) .nil))) (.cons (.bin false .Add (.sl false (.var 7) .no (.yes (.neg (.int 1)))) (.tup (.cons (.tlt "tuple" false (.cons (.var 9) .nil)) .nil))) .nil)))))) (.cons (.set 12 (.bin false .Add (.var 12) (.lst false (.cons (.bin false .Add (.sl false (.var 7) .no (.yes (.neg (.int 1)))) (.tup (.cons (.bin false .Add (.bin false .Add (.sl false (.var 9) .no (.yes (.var 11))) (.lst false (.cons (.var 10) .nil))) (.sl false (.var 9) (.yes (.bin false .Add (.var 11) (.int 1))) .no)) .nil))) (.cons (.bin false .Add (.bin false .Add (.sl false (.var 7) .no (.yes (.int 1))) (.tup (.cons (.var 10) .nil))) (.sl false (.var 7) (.yes (.int 2)) .no)) .nil))))) (.cons (.set 12 (.bin false .Add (.var 12) (.lst false (.cons (.bin false .Add (.tup (.cons (.str "sum") (.cons (.int 1) .nil))) (.sl false (.var 7) (.yes (.neg (.int 1))) .no)) (.cons (.bin false .Add (.tup (.cons (.str "never") .nil)) (.sl false (.var 7) (.yes (.neg (.int 1))) .no)) (.cons (.sl false (.var 7) .no (.yes (.neg (.int 1)))) (.cons (.bin false .Add (.var 7) (.tup (.cons (.lst false .nil) .nil))) (.cons (.tlt "list" false (.cons (.var 7) .nil)) .nil)))))))) (.cons (.for (.nm 13) (.seq (.var 12)) (.cons (.set 15 (.call 16 (.cons (.var 13) (.cons (.bin false .Add (.var 5) (.lst false (.cons (.var 8) .nil))) (.cons (.lst false .nil) (.cons (.var 4) (.cons (.int 10) .nil))))))) (.cons (.set 16 (.rp (.lst false (.cons (.var 13) (.cons (.var 5) (.cons (.var 8) .nil)))))) (.cons (.set 17 (.call 6 (.cons (.var 13) (.cons (.bin false .Add (.var 5) (.lst false (.cons (.var 8) .nil))) (.cons (.lst false .nil) (.cons (.var 4) .nil)))))) (.cons (.ite (.or (.cons (.not (.isi (.var 17) "bool")) (.cons (.cmp .NotEq (.var 17) (.var 15)) (.cons (.cmp .NotEq (.rp (.lst false (.cons (.var 13) (.cons (.var 5) (.cons (.var 8) .nil))))) (.var 16)) .nil)))) (.cons (.ret (.bl false)) .nil) .nil) .nil))))) .nil))))))))) .nil)))))) (.cons (.ret (.and (.cons (.call 6 (.cons (.tup (.cons (.str "sum") (.cons (.int 2) (.cons (.lst false (.cons (.int 1) .nil)) .nil)))) (.cons (.lst false (.cons (.tup (.cons (.neg (.int 1)) (.cons (.int 2) .nil))) .nil)) (.cons (.lst false .nil) (.cons (.tup (.cons (.int 0) (.cons (.int 1) .nil))) .nil))))) (.cons (.not (.call 6 (.cons (.tup (.cons (.str "sum") (.cons (.int 1) (.cons (.lst false (.cons (.int 1) .nil)) .nil)))) (.cons (.lst false (.cons (.tup (.cons (.neg (.int 2)) (.cons (.int 1) .nil))) .nil)) (.cons (.lst false .nil) (.cons (.tup (.cons (.neg (.int 3)) (.cons (.int 1) .nil))) .nil)))))) .nil)))) .nil))
def d_law : Df := ⟨"law", "law", topS 30, ["script", "cell", "purse", "length", "goal", "hints", "turn", "paper", "more", "weights", "odd", "at", "some", "one", "nth", "due", "kept", "told"], ["script"], false, b_law, none⟩
def tab : List Df := [d_is_whole, d_are_whole, d_is_form, d_often, d_contrary, d__look_form, d_shows, d_sides_of, d__is_paper, d__are_weights, d__law_purse, d__law_take, d__law_form, d__law_is_form, d__law_leaf, d__law_is_weights, d__law_shows, d__law_leaf_for, d_Forms_left, d_Forms_further, d_Forms_parted, d_Look__init__, d_Look_shows, d_Look__sum_shows, d_Look__never_shows]
abbrev i_is_whole : Nat := 0
abbrev i_are_whole : Nat := 1
abbrev i_is_form : Nat := 2
abbrev i_often : Nat := 3
abbrev i_contrary : Nat := 4
abbrev i__look_form : Nat := 5
abbrev i_shows : Nat := 6
abbrev i_sides_of : Nat := 7
abbrev i__is_paper : Nat := 8
abbrev i__are_weights : Nat := 9
abbrev i__law_purse : Nat := 10
abbrev i__law_take : Nat := 11
abbrev i__law_form : Nat := 12
abbrev i__law_is_form : Nat := 13
abbrev i__law_leaf : Nat := 14
abbrev i__law_is_weights : Nat := 15
abbrev i__law_shows : Nat := 16
abbrev i__law_leaf_for : Nat := 17
abbrev i_Forms_left : Nat := 18
abbrev i_Forms_further : Nat := 19
abbrev i_Forms_parted : Nat := 20
abbrev i_Look__init__ : Nat := 21
abbrev i_Look_shows : Nat := 22
abbrev i_Look__sum_shows : Nat := 23
abbrev i_Look__never_shows : Nat := 24
def conT : List (Str × Lit) := [("MOST_WITHIN", .int (10))]
def rzT : List Nat := [1]
def klsT : List Kl := [⟨20, none, [], [(87, 18), (68, 19), (109, 20)]⟩, ⟨21, some 21, [66, 88, 135, 72], [(124, 22), (33, 23), (26, 24)]⟩]
def ciT : Ci := ciOf klsT rzT
@[simp] theorem kn_20 : ciT.kn 20 = true := rfl
@[simp] theorem ini_20 : ciT.ini 20 = some none := rfl
@[simp] theorem mt_20_87 : ciT.mt 20 87 = some 18 := rfl
@[simp] theorem mt_20_68 : ciT.mt 20 68 = some 19 := rfl
@[simp] theorem mt_20_109 : ciT.mt 20 109 = some 20 := rfl
@[simp] theorem kn_21 : ciT.kn 21 = true := rfl
@[simp] theorem ini_21 : ciT.ini 21 = some (some 21) := rfl
@[simp] theorem fl_21_66 : ciT.fl 21 66 = true := rfl
@[simp] theorem fl_21_88 : ciT.fl 21 88 = true := rfl
@[simp] theorem fl_21_135 : ciT.fl 21 135 = true := rfl
@[simp] theorem fl_21_72 : ciT.fl 21 72 = true := rfl
@[simp] theorem mt_21_124 : ciT.mt 21 124 = some 22 := rfl
@[simp] theorem mt_21_33 : ciT.mt 21 33 = some 23 := rfl
@[simp] theorem mt_21_26 : ciT.mt 21 26 = some 24 := rfl
theorem tab_ok : tab.all (fun d => scB d.N d.ps (defScope d.st) && dfOk tab (conT.map (·.1)) (ciOf klsT rzT) d) = true := by decide +kernel
theorem kls_ok : klsB tab klsT = true := by decide +kernel
noncomputable abbrev SM (n i : Nat) : List D → Cells → Rs := semT tab (conOf conT) ciT n i
noncomputable abbrev TB (n : Nat) : Tb := ⟨semT tab (conOf conT) ciT n, conOf conT, ciT⟩
theorem e_is_whole (n : Nat) (cs : Cells) (d0 : D) : SM (n+1) 0 [d0] cs = (rns (TB n) b_is_whole [some d0] cs).bind finN := rfl
theorem e_are_whole (n : Nat) (cs : Cells) (d0 : D) : SM (n+1) 1 [d0] cs = (rns (TB n) b_are_whole [some d0, none] cs).bind finN := rfl
theorem e_is_form (n : Nat) (cs : Cells) (d0 : D) : SM (n+1) 2 [d0] cs = (rns (TB n) b_is_form [some d0] cs).bind finN := rfl
theorem e_often (n : Nat) (cs : Cells) (d0 d1 : D) : SM (n+1) 3 [d0, d1] cs = (rns (TB n) b_often [some d0, some d1, none] cs).bind finN := rfl
theorem e_contrary (n : Nat) (cs : Cells) (d0 : D) : SM (n+1) 4 [d0] cs = (rns (TB n) b_contrary [some d0, none] cs).bind finN := rfl
theorem e__look_form (n : Nat) (cs : Cells) (d0 : D) : SM (n+1) 5 [d0] cs = (rns (TB n) b__look_form [some d0] cs).bind finN := rfl
theorem e_shows (n : Nat) (cs : Cells) (d0 d1 d2 d3 : D) : SM (n+1) 6 [d0, d1, d2, d3] cs = (rns (TB n) b_shows [some d0, some d1, some d2, some d3] cs).bind finN := rfl
theorem e_sides_of (n : Nat) (cs : Cells) (d0 : D) : SM (n+1) 7 [d0] cs = (rns (TB n) b_sides_of [some d0] cs).bind finN := rfl
theorem e__is_paper (n : Nat) (cs : Cells) (d0 : D) : SM (n+1) 8 [d0] cs = (rns (TB n) b__is_paper [some d0, none] cs).bind finN := rfl
theorem e__are_weights (n : Nat) (cs : Cells) (d0 : D) : SM (n+1) 9 [d0] cs = (rns (TB n) b__are_weights [some d0, none] cs).bind finN := rfl
theorem e__law_purse (n : Nat) (cs : Cells) (d0 d1 : D) : SM (n+1) 10 [d0, d1] cs = (rns (TB n) b__law_purse [some d0, some d1, none, none] cs).bind finN := rfl
theorem e__law_take (n : Nat) (cs : Cells) (d0 d1 : D) : SM (n+1) 11 [d0, d1] cs = (rns (TB n) b__law_take [some d0, some d1, none, none, none, none] cs).bind finN := rfl
theorem e__law_form (n : Nat) (cs : Cells) (d0 d1 d2 : D) : SM (n+1) 12 [d0, d1, d2] cs = gcR cs.length ((rns (TB n) b__law_form [some d0, some d1, some d2, none, none] cs).bind finN) := rfl
theorem e__law_is_form (n : Nat) (cs : Cells) (d0 : D) : SM (n+1) 13 [d0] cs = (rns (TB n) b__law_is_form [some d0, none] cs).bind finN := rfl
theorem e__law_leaf (n : Nat) (cs : Cells) (d0 d1 d2 : D) : SM (n+1) 14 [d0, d1, d2] cs = (rns (TB n) b__law_leaf [some d0, some d1, some d2, none, none, none, none, none, none, none, none] cs).bind finN := rfl
theorem e__law_is_weights (n : Nat) (cs : Cells) (d0 : D) : SM (n+1) 15 [d0] cs = (rns (TB n) b__law_is_weights [some d0, none] cs).bind finN := rfl
theorem e__law_shows (n : Nat) (cs : Cells) (d0 d1 d2 d3 d4 : D) : SM (n+1) 16 [d0, d1, d2, d3, d4] cs = (rns (TB n) b__law_shows [some d0, some d1, some d2, some d3, some d4, none, none, none, none, none] cs).bind finN := rfl
theorem e__law_leaf_for (n : Nat) (cs : Cells) (d0 d1 d2 : D) : SM (n+1) 17 [d0, d1, d2] cs = (rns (TB n) b__law_leaf_for [some d0, some d1, some d2, none, none, none, none, none, none, none, none, none, none, none] cs).bind finN := rfl
theorem e_Forms_left (n : Nat) (cs : Cells) (d0 d1 d2 d3 d4 : D) : SM (n+1) 18 [d0, d1, d2, d3, d4] cs = (rns (TB n) b_Forms_left [some d0, some d1, some d2, some d3, some d4, none, none, none, none, none] cs).bind finN := rfl
theorem e_Forms_further (n : Nat) (cs : Cells) (d0 d1 : D) : SM (n+1) 19 [d0, d1] cs = (rns (TB n) b_Forms_further [some d0, some d1] cs).bind finN := rfl
theorem e_Forms_parted (n : Nat) (cs : Cells) (d0 d1 : D) : SM (n+1) 20 [d0, d1] cs = (rns (TB n) b_Forms_parted [some d0, some d1] cs).bind finN := rfl
theorem e_Look__init__ (n : Nat) (cs : Cells) (d0 d1 d2 d3 d4 : D) : SM (n+1) 21 [d0, d1, d2, d3, d4] cs = (rns (TB n) b_Look__init__ [some d0, some d1, some d2, some d3, some d4] cs).bind finN := rfl
theorem e_Look_shows (n : Nat) (cs : Cells) (d0 d1 d2 d3 : D) : SM (n+1) 22 [d0, d1, d2, d3] cs = (rns (TB n) b_Look_shows [some d0, some d1, some d2, some d3, none, none] cs).bind finN := rfl
theorem e_Look__sum_shows (n : Nat) (cs : Cells) (d0 d1 d2 d3 : D) : SM (n+1) 23 [d0, d1, d2, d3] cs = (rns (TB n) b_Look__sum_shows [some d0, some d1, some d2, some d3, none] cs).bind finN := rfl
theorem e_Look__never_shows (n : Nat) (cs : Cells) (d0 d1 d2 : D) : SM (n+1) 24 [d0, d1, d2] cs = (rns (TB n) b_Look__never_shows [some d0, some d1, some d2, none] cs).bind finN := rfl
theorem law_chk : lawOkG tab (conT.map (·.1)) (ciOf klsT rzT) d_law false true = true := by decide +kernel
noncomputable abbrev LW (n : Nat) : List D → Cells → Rs := semOf 1 18 false (rns (TB n) b_law)
theorem e_law (n : Nat) (cs : Cells) (d0 : D) : LW n [d0] cs = (rns (TB n) b_law [some d0, none, none, none, none, none, none, none, none, none, none, none, none, none, none, none, none, none] cs).bind finN := rfl
end EV

namespace EV
open PySem PySem.Spec PyProof.Rows L2 ZG
/-! ### purses -/
def PurseOk (k : Nat) (a b c : Int) : Prop := 0 ≤ a ∧ 0 ≤ b ∧ b < 2147483647 ∧ 0 ≤ c ∧ c ≤ (k : Int)
abbrev PC (a b c : Int) : Cell := .lst [.int a, .int b, .int c]
/-- a purse among cells that hold no cells -/
structure PS (pre suf : Cells) (k : Nat) (cs : Cells) : Prop where
  ex : ∃ a b c, cs = pre ++ PC a b c :: suf ∧ PurseOk k a b c
  c1 : pre.all (cleanC 0) = true
  c2 : suf.all (cleanC 0) = true
theorem PS.mono {pre suf : Cells} {k k' : Nat} {cs : Cells} (h : PS pre suf k cs) (hk : k ≤ k') : PS pre suf k' cs := by
  obtain ⟨⟨a, b, c, e, p1, p2, p3, p4, p5⟩, h1, h2⟩ := h
  exact ⟨⟨a, b, c, e, p1, p2, p3, p4, by omega⟩, h1, h2⟩
theorem take_ (n : Nat) {pre suf cs : Cells} {k : Nat} {many : Int} (h : PS pre suf k cs) (hk : k ≤ 1000000) (hm : 0 < many) (hm2 : many ≤ 1000000000) :
    Ev (SM (n+1) i__law_take [.ref pre.length, .int many] cs) fun d cs' => ∃ r : Int, d = .int r ∧ 0 ≤ r ∧ r < many ∧ PS pre suf (k+1) cs' := by
  obtain ⟨⟨a, b, c, rfl, p1, p2, p3, p4, p5⟩, h1, h2⟩ := h
  rw [e__law_take, b__law_take]
  have hl : many.natAbs.log2 < 9000 := by
    have : many.natAbs < 2 ^ 30 := by omega
    have h0 : many.natAbs ≠ 0 := by omega
    have := (Nat.log2_lt h0).mpr this
    omega
  (simp -implicitDefEqProofs [x_nil, x_cons, x_expr, x_doc, x_pas, x_cont, x_brk, x_ret, x_retN, x_ite, x_set, x_asg, x_sub, x_for, x_raise, x_sfld, x_nev, x_while, x_var, x_int, x_str, x_bl, x_non, x_con, x_tup, x_lst, x_bin, x_neg, x_notv, x_nott, x_andv, x_andt, x_orv, x_ort, x_cmpv, x_cmpt, x_chnv, x_chnt, x_ife, x_ix, x_sl, x_isi, x_isis, x_iso, x_tyiv, x_tyit, x_fld, x_mcl, x_new, x_blt, x_tlt, x_mth, x_call, x_how, x_dl, x_rp, x_lc, t_var, t_int, t_str, t_bl, t_non, t_con, t_tup, t_lst, t_bin, t_neg, t_ix, t_sl, t_isi, t_isis, t_iso, t_fld, t_mcl, t_new, t_blt, t_tlt, t_mth, t_call, t_how, t_lc, x_l0, x_l1, x_l2, x_av1, x_av2, x_ov1, x_ov2, x_at1, x_at2, x_ot1, x_ot2, x_p0, x_p1, x_o0, x_o1, x_seq, x_rng1, x_rng2, x_zip, sizeLine_eq, iL_len, setAll, setTg, wipeD, initS, ↓to_lb, ↓to_evl, ↓to_itl, lb_val, lb_exc, lb_none, itl_t, itl_f, evl_val, evl_none, evl_lb, ix_purse]; try simp only [of_lb, of_evl, of_itl])
  by_cases ha : 0 < a
  · (simp -implicitDefEqProofs [x_nil, x_cons, x_expr, x_doc, x_pas, x_cont, x_brk, x_ret, x_retN, x_ite, x_set, x_asg, x_sub, x_for, x_raise, x_sfld, x_nev, x_while, x_var, x_int, x_str, x_bl, x_non, x_con, x_tup, x_lst, x_bin, x_neg, x_notv, x_nott, x_andv, x_andt, x_orv, x_ort, x_cmpv, x_cmpt, x_chnv, x_chnt, x_ife, x_ix, x_sl, x_isi, x_isis, x_iso, x_tyiv, x_tyit, x_fld, x_mcl, x_new, x_blt, x_tlt, x_mth, x_call, x_how, x_dl, x_rp, x_lc, t_var, t_int, t_str, t_bl, t_non, t_con, t_tup, t_lst, t_bin, t_neg, t_ix, t_sl, t_isi, t_isis, t_iso, t_fld, t_mcl, t_new, t_blt, t_tlt, t_mth, t_call, t_how, t_lc, x_l0, x_l1, x_l2, x_av1, x_av2, x_ov1, x_ov2, x_at1, x_at2, x_ot1, x_ot2, x_p0, x_p1, x_o0, x_o1, x_seq, x_rng1, x_rng2, x_zip, sizeLine_eq, iL_len, setAll, setTg, wipeD, initS, ↓to_lb, ↓to_evl, ↓to_itl, lb_val, lb_exc, lb_none, itl_t, itl_f, evl_val, evl_none, evl_lb, ha, ix_purse, binD_mod, hm, binD_fdiv, hl, put_purse, ixN]; try simp only [of_lb, of_evl, of_itl])
    exact ⟨(draw_mod a many hm).1, (draw_mod a many hm).2, ⟨_, _, _, rfl, Int.ediv_nonneg p1 (by omega), p2, p3, p4, by omega⟩, h1, h2⟩
  · (simp -implicitDefEqProofs [x_nil, x_cons, x_expr, x_doc, x_pas, x_cont, x_brk, x_ret, x_retN, x_ite, x_set, x_asg, x_sub, x_for, x_raise, x_sfld, x_nev, x_while, x_var, x_int, x_str, x_bl, x_non, x_con, x_tup, x_lst, x_bin, x_neg, x_notv, x_nott, x_andv, x_andt, x_orv, x_ort, x_cmpv, x_cmpt, x_chnv, x_chnt, x_ife, x_ix, x_sl, x_isi, x_isis, x_iso, x_tyiv, x_tyit, x_fld, x_mcl, x_new, x_blt, x_tlt, x_mth, x_call, x_how, x_dl, x_rp, x_lc, t_var, t_int, t_str, t_bl, t_non, t_con, t_tup, t_lst, t_bin, t_neg, t_ix, t_sl, t_isi, t_isis, t_iso, t_fld, t_mcl, t_new, t_blt, t_tlt, t_mth, t_call, t_how, t_lc, x_l0, x_l1, x_l2, x_av1, x_av2, x_ov1, x_ov2, x_at1, x_at2, x_ot1, x_ot2, x_p0, x_p1, x_o0, x_o1, x_seq, x_rng1, x_rng2, x_zip, sizeLine_eq, iL_len, setAll, setTg, wipeD, initS, ↓to_lb, ↓to_evl, ↓to_itl, lb_val, lb_exc, lb_none, itl_t, itl_f, evl_val, evl_none, evl_lb, ha, ix_purse, put_purse, ixN]; try simp only [of_lb, of_evl, of_itl])
    have hc0 : 0 ≤ c + 1 := by omega
    have hc1 : c + 1 ≤ 1000001 := by omega
    have hq : 0 ≤ 48271 * (c + 1) * (c + 1) := Int.mul_nonneg (by omega) hc0
    have hq2 : 48271 * (c + 1) * (c + 1) ≤ 48271 * 1000001 * 1000001 := by
      have h1 : 48271 * (c + 1) ≤ 48271 * 1000001 := by omega
      have h2 : 48271 * (c + 1) * (c + 1) ≤ 48271 * 1000001 * (c + 1) := Int.mul_le_mul_of_nonneg_right h1 hc0
      omega
    generalize hQ : 48271 * (c + 1) * (c + 1) = q at hq hq2
    have hx : 0 ≤ b + q + 1 ∧ b + q + 1 < 2 ^ 64 := by omega
    (simp -implicitDefEqProofs [x_nil, x_cons, x_expr, x_doc, x_pas, x_cont, x_brk, x_ret, x_retN, x_ite, x_set, x_asg, x_sub, x_for, x_raise, x_sfld, x_nev, x_while, x_var, x_int, x_str, x_bl, x_non, x_con, x_tup, x_lst, x_bin, x_neg, x_notv, x_nott, x_andv, x_andt, x_orv, x_ort, x_cmpv, x_cmpt, x_chnv, x_chnt, x_ife, x_ix, x_sl, x_isi, x_isis, x_iso, x_tyiv, x_tyit, x_fld, x_mcl, x_new, x_blt, x_tlt, x_mth, x_call, x_how, x_dl, x_rp, x_lc, t_var, t_int, t_str, t_bl, t_non, t_con, t_tup, t_lst, t_bin, t_neg, t_ix, t_sl, t_isi, t_isis, t_iso, t_fld, t_mcl, t_new, t_blt, t_tlt, t_mth, t_call, t_how, t_lc, x_l0, x_l1, x_l2, x_av1, x_av2, x_ov1, x_ov2, x_at1, x_at2, x_ot1, x_ot2, x_p0, x_p1, x_o0, x_o1, x_seq, x_rng1, x_rng2, x_zip, sizeLine_eq, iL_len, setAll, setTg, wipeD, initS, ↓to_lb, ↓to_evl, ↓to_itl, lb_val, lb_exc, lb_none, itl_t, itl_f, evl_val, evl_none, evl_lb, mulL false _ 48271 (c + 1) (by decide), mulR false _ (48271 * (c + 1)) (c + 1) (by omega), hQ, binD_pow false _ (b + q + 1) 5 ⟨by decide, by decide, by omega⟩, binD_mod false _ _ 2147483647 (by decide)]; try simp only [of_lb, of_evl, of_itl])
    generalize hO : (b + q + 1) ^ 5 % 2147483647 = o
    have ho : 0 ≤ o ∧ o < 2147483647 := by rw [← hO]; exact draw_mod _ _ (by decide)
    have hy0 : 0 ≤ o * (2 * (c + 1) + 30011) := Int.mul_nonneg ho.1 (by omega)
    have hy1 : o * (2 * (c + 1) + 30011) ≤ 2147483647 * 2100000 := by
      have h1 : o * (2 * (c + 1) + 30011) ≤ 2147483647 * (2 * (c + 1) + 30011) := Int.mul_le_mul_of_nonneg_right (by omega) (by omega)
      omega
    (simp -implicitDefEqProofs [x_nil, x_cons, x_expr, x_doc, x_pas, x_cont, x_brk, x_ret, x_retN, x_ite, x_set, x_asg, x_sub, x_for, x_raise, x_sfld, x_nev, x_while, x_var, x_int, x_str, x_bl, x_non, x_con, x_tup, x_lst, x_bin, x_neg, x_notv, x_nott, x_andv, x_andt, x_orv, x_ort, x_cmpv, x_cmpt, x_chnv, x_chnt, x_ife, x_ix, x_sl, x_isi, x_isis, x_iso, x_tyiv, x_tyit, x_fld, x_mcl, x_new, x_blt, x_tlt, x_mth, x_call, x_how, x_dl, x_rp, x_lc, t_var, t_int, t_str, t_bl, t_non, t_con, t_tup, t_lst, t_bin, t_neg, t_ix, t_sl, t_isi, t_isis, t_iso, t_fld, t_mcl, t_new, t_blt, t_tlt, t_mth, t_call, t_how, t_lc, x_l0, x_l1, x_l2, x_av1, x_av2, x_ov1, x_ov2, x_at1, x_at2, x_ot1, x_ot2, x_p0, x_p1, x_o0, x_o1, x_seq, x_rng1, x_rng2, x_zip, sizeLine_eq, iL_len, setAll, setTg, wipeD, initS, ↓to_lb, ↓to_evl, ↓to_itl, lb_val, lb_exc, lb_none, itl_t, itl_f, evl_val, evl_none, evl_lb, mulL false _ 2 (c + 1) (by decide), mulL false _ o _ (by omega)]; try simp only [of_lb, of_evl, of_itl])
    generalize hY : o * (2 * (c + 1) + 30011) = y at hy0 hy1
    (simp -implicitDefEqProofs [x_nil, x_cons, x_expr, x_doc, x_pas, x_cont, x_brk, x_ret, x_retN, x_ite, x_set, x_asg, x_sub, x_for, x_raise, x_sfld, x_nev, x_while, x_var, x_int, x_str, x_bl, x_non, x_con, x_tup, x_lst, x_bin, x_neg, x_notv, x_nott, x_andv, x_andt, x_orv, x_ort, x_cmpv, x_cmpt, x_chnv, x_chnt, x_ife, x_ix, x_sl, x_isi, x_isis, x_iso, x_tyiv, x_tyit, x_fld, x_mcl, x_new, x_blt, x_tlt, x_mth, x_call, x_how, x_dl, x_rp, x_lc, t_var, t_int, t_str, t_bl, t_non, t_con, t_tup, t_lst, t_bin, t_neg, t_ix, t_sl, t_isi, t_isis, t_iso, t_fld, t_mcl, t_new, t_blt, t_tlt, t_mth, t_call, t_how, t_lc, x_l0, x_l1, x_l2, x_av1, x_av2, x_ov1, x_ov2, x_at1, x_at2, x_ot1, x_ot2, x_p0, x_p1, x_o0, x_o1, x_seq, x_rng1, x_rng2, x_zip, sizeLine_eq, iL_len, setAll, setTg, wipeD, initS, ↓to_lb, ↓to_evl, ↓to_itl, lb_val, lb_exc, lb_none, itl_t, itl_f, evl_val, evl_none, evl_lb, binD_pow false _ (y + (c + 1)) 3 ⟨by decide, by decide, by omega⟩, binD_mod false _ _ 998244353 (by decide), mulR false _ o 998244353 (by decide), binD_fdiv false _ _ 1009 ⟨by decide, by decide⟩, binD_mod false _ _ many hm]; try simp only [of_lb, of_evl, of_itl])
    exact ⟨(draw_mod _ many hm).1, (draw_mod _ many hm).2, ⟨_, _, _, rfl, p1, p2, p3, by omega, by omega⟩, h1, h2⟩
/-! ### forms that are drawn -/
theorem purse_ (n : Nat) (s : List Int) (at_ : Nat) (hat : at_ ≤ 1000) (cs : Cells) (hc : cs.all (cleanC 0) = true) :
    Ev (SM (n+1) i__law_purse [.frz (iL s), .int at_] cs) fun d cs' => d = .ref cs.length ∧ PS cs [] 0 cs' := by
  rw [e__law_purse, b__law_purse]
  (simp -implicitDefEqProofs [x_nil, x_cons, x_expr, x_doc, x_pas, x_cont, x_brk, x_ret, x_retN, x_ite, x_set, x_asg, x_sub, x_for, x_raise, x_sfld, x_nev, x_while, x_var, x_int, x_str, x_bl, x_non, x_con, x_tup, x_lst, x_bin, x_neg, x_notv, x_nott, x_andv, x_andt, x_orv, x_ort, x_cmpv, x_cmpt, x_chnv, x_chnt, x_ife, x_ix, x_sl, x_isi, x_isis, x_iso, x_tyiv, x_tyit, x_fld, x_mcl, x_new, x_blt, x_tlt, x_mth, x_call, x_how, x_dl, x_rp, x_lc, t_var, t_int, t_str, t_bl, t_non, t_con, t_tup, t_lst, t_bin, t_neg, t_ix, t_sl, t_isi, t_isis, t_iso, t_fld, t_mcl, t_new, t_blt, t_tlt, t_mth, t_call, t_how, t_lc, x_l0, x_l1, x_l2, x_av1, x_av2, x_ov1, x_ov2, x_at1, x_at2, x_ot1, x_ot2, x_p0, x_p1, x_o0, x_o1, x_seq, x_rng1, x_rng2, x_zip, sizeLine_eq, iL_len, setAll, setTg, wipeD, initS, ↓to_lb, ↓to_evl, ↓to_itl, lb_val, lb_exc, lb_none, itl_t, itl_f, evl_val, evl_none, evl_lb]; try simp only [of_lb, of_evl, of_itl])
  refine Ev.imp (Q := fun q cs1 => cs1 = cs ∧ ∃ x : Int, q = (.nx, [some (.frz (iL s)), some (.int at_), some (.int x), none])) ?_ ?_
  · by_cases c : at_ < s.length
    · have := at_nat s at_ s[at_] (List.getElem?_eq_getElem c)
      (simp -implicitDefEqProofs [x_nil, x_cons, x_expr, x_doc, x_pas, x_cont, x_brk, x_ret, x_retN, x_ite, x_set, x_asg, x_sub, x_for, x_raise, x_sfld, x_nev, x_while, x_var, x_int, x_str, x_bl, x_non, x_con, x_tup, x_lst, x_bin, x_neg, x_notv, x_nott, x_andv, x_andt, x_orv, x_ort, x_cmpv, x_cmpt, x_chnv, x_chnt, x_ife, x_ix, x_sl, x_isi, x_isis, x_iso, x_tyiv, x_tyit, x_fld, x_mcl, x_new, x_blt, x_tlt, x_mth, x_call, x_how, x_dl, x_rp, x_lc, t_var, t_int, t_str, t_bl, t_non, t_con, t_tup, t_lst, t_bin, t_neg, t_ix, t_sl, t_isi, t_isis, t_iso, t_fld, t_mcl, t_new, t_blt, t_tlt, t_mth, t_call, t_how, t_lc, x_l0, x_l1, x_l2, x_av1, x_av2, x_ov1, x_ov2, x_at1, x_at2, x_ot1, x_ot2, x_p0, x_p1, x_o0, x_o1, x_seq, x_rng1, x_rng2, x_zip, sizeLine_eq, iL_len, setAll, setTg, wipeD, initS, ↓to_lb, ↓to_evl, ↓to_itl, lb_val, lb_exc, lb_none, itl_t, itl_f, evl_val, evl_none, evl_lb, c, this]; try simp only [of_lb, of_evl, of_itl])
    · (simp -implicitDefEqProofs [x_nil, x_cons, x_expr, x_doc, x_pas, x_cont, x_brk, x_ret, x_retN, x_ite, x_set, x_asg, x_sub, x_for, x_raise, x_sfld, x_nev, x_while, x_var, x_int, x_str, x_bl, x_non, x_con, x_tup, x_lst, x_bin, x_neg, x_notv, x_nott, x_andv, x_andt, x_orv, x_ort, x_cmpv, x_cmpt, x_chnv, x_chnt, x_ife, x_ix, x_sl, x_isi, x_isis, x_iso, x_tyiv, x_tyit, x_fld, x_mcl, x_new, x_blt, x_tlt, x_mth, x_call, x_how, x_dl, x_rp, x_lc, t_var, t_int, t_str, t_bl, t_non, t_con, t_tup, t_lst, t_bin, t_neg, t_ix, t_sl, t_isi, t_isis, t_iso, t_fld, t_mcl, t_new, t_blt, t_tlt, t_mth, t_call, t_how, t_lc, x_l0, x_l1, x_l2, x_av1, x_av2, x_ov1, x_ov2, x_at1, x_at2, x_ot1, x_ot2, x_p0, x_p1, x_o0, x_o1, x_seq, x_rng1, x_rng2, x_zip, sizeLine_eq, iL_len, setAll, setTg, wipeD, initS, ↓to_lb, ↓to_evl, ↓to_itl, lb_val, lb_exc, lb_none, itl_t, itl_f, evl_val, evl_none, evl_lb, c]; try simp only [of_lb, of_evl, of_itl])
  · rintro q cs1 ⟨rfl, x, rfl⟩
    (simp -implicitDefEqProofs [x_nil, x_cons, x_expr, x_doc, x_pas, x_cont, x_brk, x_ret, x_retN, x_ite, x_set, x_asg, x_sub, x_for, x_raise, x_sfld, x_nev, x_while, x_var, x_int, x_str, x_bl, x_non, x_con, x_tup, x_lst, x_bin, x_neg, x_notv, x_nott, x_andv, x_andt, x_orv, x_ort, x_cmpv, x_cmpt, x_chnv, x_chnt, x_ife, x_ix, x_sl, x_isi, x_isis, x_iso, x_tyiv, x_tyit, x_fld, x_mcl, x_new, x_blt, x_tlt, x_mth, x_call, x_how, x_dl, x_rp, x_lc, t_var, t_int, t_str, t_bl, t_non, t_con, t_tup, t_lst, t_bin, t_neg, t_ix, t_sl, t_isi, t_isis, t_iso, t_fld, t_mcl, t_new, t_blt, t_tlt, t_mth, t_call, t_how, t_lc, x_l0, x_l1, x_l2, x_av1, x_av2, x_ov1, x_ov2, x_at1, x_at2, x_ot1, x_ot2, x_p0, x_p1, x_o0, x_o1, x_seq, x_rng1, x_rng2, x_zip, sizeLine_eq, iL_len, setAll, setTg, wipeD, initS, ↓to_lb, ↓to_evl, ↓to_itl, lb_val, lb_exc, lb_none, itl_t, itl_f, evl_val, evl_none, evl_lb, binD_mod false _ x 2147483647 (by decide), mulL false _ 7919 (at_ : Int) (by decide), binD_mod false _ _ 2147483647 (by decide), binD_pow false _ 10 18 ⟨by decide, by decide, by decide⟩]; try simp only [of_lb, of_evl, of_itl])
    have hm : ∀ (y : Int) (p : Prop) [Decidable p], binD false .Mult (.int y) (.int (if p then 1 else 0)) cs1 = some (.val (.int (y * (if p then 1 else 0))), cs1) := fun y p _ => mulR false cs1 y _ (by split <;> decide)
    generalize x.natAbs = far
    (simp -implicitDefEqProofs [x_nil, x_cons, x_expr, x_doc, x_pas, x_cont, x_brk, x_ret, x_retN, x_ite, x_set, x_asg, x_sub, x_for, x_raise, x_sfld, x_nev, x_while, x_var, x_int, x_str, x_bl, x_non, x_con, x_tup, x_lst, x_bin, x_neg, x_notv, x_nott, x_andv, x_andt, x_orv, x_ort, x_cmpv, x_cmpt, x_chnv, x_chnt, x_ife, x_ix, x_sl, x_isi, x_isis, x_iso, x_tyiv, x_tyit, x_fld, x_mcl, x_new, x_blt, x_tlt, x_mth, x_call, x_how, x_dl, x_rp, x_lc, t_var, t_int, t_str, t_bl, t_non, t_con, t_tup, t_lst, t_bin, t_neg, t_ix, t_sl, t_isi, t_isis, t_iso, t_fld, t_mcl, t_new, t_blt, t_tlt, t_mth, t_call, t_how, t_lc, x_l0, x_l1, x_l2, x_av1, x_av2, x_ov1, x_ov2, x_at1, x_at2, x_ot1, x_ot2, x_p0, x_p1, x_o0, x_o1, x_seq, x_rng1, x_rng2, x_zip, sizeLine_eq, iL_len, setAll, setTg, wipeD, initS, ↓to_lb, ↓to_evl, ↓to_itl, lb_val, lb_exc, lb_none, itl_t, itl_f, evl_val, evl_none, evl_lb, hm]; try simp only [of_lb, of_evl, of_itl])
    refine ⟨⟨_, _, _, rfl, ?_, (draw_mod _ 2147483647 (by decide)).1, (draw_mod _ 2147483647 (by decide)).2, by decide, by decide⟩, hc, rfl⟩
    split <;> omega
theorem PS.len {pre suf cs : Cells} {k : Nat} (h : PS pre suf k cs) : cs.length = pre.length + 1 + suf.length := by
  obtain ⟨⟨a, b, c, rfl, _⟩, _, _⟩ := h
  simp
  omega
theorem PS.push {pre suf cs : Cells} {k : Nat} {c : Cell} (h : PS pre suf k cs) (hc : cleanC 0 c = true) : PS pre (suf ++ [c]) k (cs ++ [c]) := by
  obtain ⟨⟨a, b, d, rfl, p⟩, h1, h2⟩ := h
  exact ⟨⟨a, b, d, by simp, p⟩, h1, by simp [hc]; simpa using h2⟩
theorem PS.last {pre suf cs : Cells} {k p : Nat} {c : Cell} (h : PS pre (suf ++ [c]) k cs) (hp : p = pre.length + 1 + suf.length) : cs[p]? = some c := by
  obtain ⟨⟨a, b, d, rfl, _⟩, _, _⟩ := h
  subst hp
  rw [List.getElem?_append_right (by omega)]
  have : pre.length + 1 + suf.length - pre.length = suf.length + 1 := by omega
  rw [this]
  simp
theorem PS.setl {pre suf cs : Cells} {k p : Nat} {c c' : Cell} (h : PS pre (suf ++ [c]) k cs) (hp : p = pre.length + 1 + suf.length) (hc : cleanC 0 c' = true) : PS pre (suf ++ [c']) k (cs.set p c') := by
  obtain ⟨⟨a, b, d, rfl, q⟩, h1, h2⟩ := h
  subst hp
  refine ⟨⟨a, b, d, ?_, q⟩, h1, ?_⟩
  · rw [List.set_append_right _ _ (by omega)]
    have : pre.length + 1 + suf.length - pre.length = suf.length + 1 := by omega
    rw [this]
    simp
  · simp only [List.all_append, Bool.and_eq_true] at h2 ⊢
    exact ⟨h2.1, by simp [hc]⟩
theorem PS.pop {pre suf cs : Cells} {k p : Nat} {c : Cell} (h : PS pre (suf ++ [c]) k cs) (hp : p = pre.length + 1 + suf.length) : PS pre suf k (cs.take p) := by
  obtain ⟨⟨a, b, d, rfl, q⟩, h1, h2⟩ := h
  subst hp
  refine ⟨⟨a, b, d, ?_, q⟩, h1, ?_⟩
  · have : pre ++ PC a b d :: (suf ++ [c]) = (pre ++ PC a b d :: suf) ++ [c] := by simp
    rw [this, List.take_left' (by simp; omega)]
  · simp only [List.all_append, Bool.and_eq_true] at h2 ⊢
    exact h2.1
theorem PS.all {pre suf cs : Cells} {k : Nat} (h : PS pre suf k cs) : cs.all (cleanC 0) = true := by
  obtain ⟨⟨a, b, c, rfl, _⟩, h1, h2⟩ := h
  simp only [List.all_append, List.all_cons, Bool.and_eq_true]
  exact ⟨h1, rfl, h2⟩
@[simp] theorem clean_iL (n : Nat) (f : List Int) : cleanA n (iL f) = true := cleanA_ints n f
theorem form_ (n : Nat) {pre suf cs : Cells} {k many : Nat} {most : Int} (h : PS pre suf k cs) (hk : k + 3 * many ≤ 900000) (hm : many ≤ 1000) (h1 : 1 ≤ most) (h2 : most ≤ 1000) :
    Ev (SM (n+2) i__law_form [.ref pre.length, .int many, .int most] cs) fun d cs' => ∃ f : List Int, d = .tup (iL f) ∧ f.length = many ∧ Between (-most) most f ∧ PS pre suf (k + 3 * many) cs' := by
  rw [e__law_form, b__law_form]
  refine ev_gc ?_
  (simp -implicitDefEqProofs [x_nil, x_cons, x_expr, x_doc, x_pas, x_cont, x_brk, x_ret, x_retN, x_ite, x_set, x_asg, x_sub, x_for, x_raise, x_sfld, x_nev, x_while, x_var, x_int, x_str, x_bl, x_non, x_con, x_tup, x_lst, x_bin, x_neg, x_notv, x_nott, x_andv, x_andt, x_orv, x_ort, x_cmpv, x_cmpt, x_chnv, x_chnt, x_ife, x_ix, x_sl, x_isi, x_isis, x_iso, x_tyiv, x_tyit, x_fld, x_mcl, x_new, x_blt, x_tlt, x_mth, x_call, x_how, x_dl, x_rp, x_lc, t_var, t_int, t_str, t_bl, t_non, t_con, t_tup, t_lst, t_bin, t_neg, t_ix, t_sl, t_isi, t_isis, t_iso, t_fld, t_mcl, t_new, t_blt, t_tlt, t_mth, t_call, t_how, t_lc, x_l0, x_l1, x_l2, x_av1, x_av2, x_ov1, x_ov2, x_at1, x_at2, x_ot1, x_ot2, x_p0, x_p1, x_o0, x_o1, x_seq, x_rng1, x_rng2, x_zip, sizeLine_eq, iL_len, setAll, setTg, wipeD, initS, ↓to_lb, ↓to_evl, ↓to_itl, lb_val, lb_exc, lb_none, itl_t, itl_f, evl_val, evl_none, evl_lb, srcRng1_nat many (by omega)]; try simp only [of_lb, of_evl, of_itl])
  have hlen := h.len
  refine ev_rng (lo := 0) many (fun j sl cs' => ∃ (f : List Int) (last : Option D), sl = [some (.ref pre.length), some (.int many), some (.int most), some (.ref cs.length), last] ∧ f.length = j ∧ Between (-most) most f ∧ PS pre (suf ++ [.lst (iL f)]) (k + 3 * j) cs') ?_ ?_ ?_
  · exact ⟨[], none, rfl, rfl, (fun x hx => nomatch hx), h.push rfl⟩
  · rintro j sl cs1 hj ⟨f, last, rfl, hf, hb, hp⟩
    have hr := hp.last hlen
    (simp -implicitDefEqProofs [x_nil, x_cons, x_expr, x_doc, x_pas, x_cont, x_brk, x_ret, x_retN, x_ite, x_set, x_asg, x_sub, x_for, x_raise, x_sfld, x_nev, x_while, x_var, x_int, x_str, x_bl, x_non, x_con, x_tup, x_lst, x_bin, x_neg, x_notv, x_nott, x_andv, x_andt, x_orv, x_ort, x_cmpv, x_cmpt, x_chnv, x_chnt, x_ife, x_ix, x_sl, x_isi, x_isis, x_iso, x_tyiv, x_tyit, x_fld, x_mcl, x_new, x_blt, x_tlt, x_mth, x_call, x_how, x_dl, x_rp, x_lc, t_var, t_int, t_str, t_bl, t_non, t_con, t_tup, t_lst, t_bin, t_neg, t_ix, t_sl, t_isi, t_isis, t_iso, t_fld, t_mcl, t_new, t_blt, t_tlt, t_mth, t_call, t_how, t_lc, x_l0, x_l1, x_l2, x_av1, x_av2, x_ov1, x_ov2, x_at1, x_at2, x_ot1, x_ot2, x_p0, x_p1, x_o0, x_o1, x_seq, x_rng1, x_rng2, x_zip, sizeLine_eq, iL_len, setAll, setTg, wipeD, initS, ↓to_lb, ↓to_evl, ↓to_itl, lb_val, lb_exc, lb_none, itl_t, itl_f, evl_val, evl_none, evl_lb, mth_app (TB (n+1)) [some (.ref pre.length), some (.int many), some (.int most), some (.ref cs.length), some (.int j)] cs1 3 _ rfl hr]; try simp only [of_lb, of_evl, of_itl])
    refine Ev.imp (take_ n hp (by omega) (by decide) (by decide)) ?_
    rintro _ cs2 ⟨r1, rfl, a1, a2, hp⟩
    (simp -implicitDefEqProofs [x_nil, x_cons, x_expr, x_doc, x_pas, x_cont, x_brk, x_ret, x_retN, x_ite, x_set, x_asg, x_sub, x_for, x_raise, x_sfld, x_nev, x_while, x_var, x_int, x_str, x_bl, x_non, x_con, x_tup, x_lst, x_bin, x_neg, x_notv, x_nott, x_andv, x_andt, x_orv, x_ort, x_cmpv, x_cmpt, x_chnv, x_chnt, x_ife, x_ix, x_sl, x_isi, x_isis, x_iso, x_tyiv, x_tyit, x_fld, x_mcl, x_new, x_blt, x_tlt, x_mth, x_call, x_how, x_dl, x_rp, x_lc, t_var, t_int, t_str, t_bl, t_non, t_con, t_tup, t_lst, t_bin, t_neg, t_ix, t_sl, t_isi, t_isis, t_iso, t_fld, t_mcl, t_new, t_blt, t_tlt, t_mth, t_call, t_how, t_lc, x_l0, x_l1, x_l2, x_av1, x_av2, x_ov1, x_ov2, x_at1, x_at2, x_ot1, x_ot2, x_p0, x_p1, x_o0, x_o1, x_seq, x_rng1, x_rng2, x_zip, sizeLine_eq, iL_len, setAll, setTg, wipeD, initS, ↓to_lb, ↓to_evl, ↓to_itl, lb_val, lb_exc, lb_none, itl_t, itl_f, evl_val, evl_none, evl_lb, mulL false cs2 2 most (by decide)]; try simp only [of_lb, of_evl, of_itl])
    refine Ev.imp (take_ n hp (by omega) (by omega) (by omega)) ?_
    rintro _ cs3 ⟨r2, rfl, b1, b2, hp⟩
    (simp -implicitDefEqProofs [x_nil, x_cons, x_expr, x_doc, x_pas, x_cont, x_brk, x_ret, x_retN, x_ite, x_set, x_asg, x_sub, x_for, x_raise, x_sfld, x_nev, x_while, x_var, x_int, x_str, x_bl, x_non, x_con, x_tup, x_lst, x_bin, x_neg, x_notv, x_nott, x_andv, x_andt, x_orv, x_ort, x_cmpv, x_cmpt, x_chnv, x_chnt, x_ife, x_ix, x_sl, x_isi, x_isis, x_iso, x_tyiv, x_tyit, x_fld, x_mcl, x_new, x_blt, x_tlt, x_mth, x_call, x_how, x_dl, x_rp, x_lc, t_var, t_int, t_str, t_bl, t_non, t_con, t_tup, t_lst, t_bin, t_neg, t_ix, t_sl, t_isi, t_isis, t_iso, t_fld, t_mcl, t_new, t_blt, t_tlt, t_mth, t_call, t_how, t_lc, x_l0, x_l1, x_l2, x_av1, x_av2, x_ov1, x_ov2, x_at1, x_at2, x_ot1, x_ot2, x_p0, x_p1, x_o0, x_o1, x_seq, x_rng1, x_rng2, x_zip, sizeLine_eq, iL_len, setAll, setTg, wipeD, initS, ↓to_lb, ↓to_evl, ↓to_itl, lb_val, lb_exc, lb_none, itl_t, itl_f, evl_val, evl_none, evl_lb]; try simp only [of_lb, of_evl, of_itl])
    refine Ev.imp (take_ n hp (by omega) (by decide) (by decide)) ?_
    rintro _ cs4 ⟨r3, rfl, c1, c2, hp⟩
    have fin : ∀ x : Int, -most ≤ x → x ≤ most → Ev (appendD (D.ref (List.length cs)) [.int x] cs4) fun _ cs5 => ∃ g : List Int, g.length = j + 1 ∧ Between (-most) most g ∧ PS pre (suf ++ [.lst (iL g)]) (k + 3 * (j + 1)) cs5 := by
      intro x x1 x2
      rw [append_ref cs4 (.int x) (hp.last hlen) (by rw [iL_len, sizeLine_eq]; omega)]
      refine ev_val.mpr ⟨f ++ [x], by simp [hf], fun y hy => ?_, ?_⟩
      · rcases List.mem_append.mp hy with hy | hy
        · exact hb y hy
        · rw [List.mem_singleton.mp hy]
          exact ⟨x1, x2⟩
      · have := (hp.setl (c' := .lst (iL (f ++ [x]))) hlen (by simp [cleanC])).mono (k' := k + 3 * (j + 1)) (by omega)
        simpa [iL] using this
    have hx : ∃ x : Int, -most ≤ x ∧ x ≤ most ∧ ixD (.lst [.int 0, .int (r1 - 1), .int (r2 - most)]) (.int r3) cs4 = some (.val (.int x), cs4) := by
      have h3 : r3 = 0 ∨ r3 = 1 ∨ r3 = 2 := by omega
      rcases h3 with rfl | rfl | rfl
      · exact ⟨0, by omega, by omega, by simp⟩
      · exact ⟨r1 - 1, by omega, by omega, by simp⟩
      · exact ⟨r2 - most, by omega, by omega, by simp⟩
    obtain ⟨x, x1, x2, e⟩ := hx
    rw [e, ev_val]
    refine Ev.imp (fin x x1 x2) ?_
    rintro d cs5 ⟨g, g1, g2, g3⟩
    exact turn_nx ⟨⟨_, rfl⟩, g, g1, g2, g3⟩
  · rintro sl cs1 ⟨f, last, rfl, hf, hb, hp⟩
    (simp -implicitDefEqProofs [x_nil, x_cons, x_expr, x_doc, x_pas, x_cont, x_brk, x_ret, x_retN, x_ite, x_set, x_asg, x_sub, x_for, x_raise, x_sfld, x_nev, x_while, x_var, x_int, x_str, x_bl, x_non, x_con, x_tup, x_lst, x_bin, x_neg, x_notv, x_nott, x_andv, x_andt, x_orv, x_ort, x_cmpv, x_cmpt, x_chnv, x_chnt, x_ife, x_ix, x_sl, x_isi, x_isis, x_iso, x_tyiv, x_tyit, x_fld, x_mcl, x_new, x_blt, x_tlt, x_mth, x_call, x_how, x_dl, x_rp, x_lc, t_var, t_int, t_str, t_bl, t_non, t_con, t_tup, t_lst, t_bin, t_neg, t_ix, t_sl, t_isi, t_isis, t_iso, t_fld, t_mcl, t_new, t_blt, t_tlt, t_mth, t_call, t_how, t_lc, x_l0, x_l1, x_l2, x_av1, x_av2, x_ov1, x_ov2, x_at1, x_at2, x_ot1, x_ot2, x_p0, x_p1, x_o0, x_o1, x_seq, x_rng1, x_rng2, x_zip, sizeLine_eq, iL_len, setAll, setTg, wipeD, initS, ↓to_lb, ↓to_evl, ↓to_itl, lb_val, lb_exc, lb_none, itl_t, itl_f, evl_val, evl_none, evl_lb, tuple_ref cs1 false (hp.last hlen)]; try simp only [of_lb, of_evl, of_itl])
    refine ⟨by simp [clean], fun c hc => ?_, f, rfl, hf, hb, hp.pop hlen⟩
    have := all_mono ((hp.pop hlen).all) cs.length
    rw [List.all_eq_true] at this
    exact this c hc
section
variable (n : Nat) (cs : Cells)
theorem are_whole_t {ds : List D} (h : ds.all known = true) : SM (n+1) i_are_whole [.tup ds] cs = some (.val (.bl (ds.all isI)), cs) := by
  rw [e_are_whole, b_are_whole]
  (simp -implicitDefEqProofs [x_nil, x_cons, x_expr, x_doc, x_pas, x_cont, x_brk, x_ret, x_retN, x_ite, x_set, x_asg, x_sub, x_for, x_raise, x_sfld, x_nev, x_while, x_var, x_int, x_str, x_bl, x_non, x_con, x_tup, x_lst, x_bin, x_neg, x_notv, x_nott, x_andv, x_andt, x_orv, x_ort, x_cmpv, x_cmpt, x_chnv, x_chnt, x_ife, x_ix, x_sl, x_isi, x_isis, x_iso, x_tyiv, x_tyit, x_fld, x_mcl, x_new, x_blt, x_tlt, x_mth, x_call, x_how, x_dl, x_rp, x_lc, t_var, t_int, t_str, t_bl, t_non, t_con, t_tup, t_lst, t_bin, t_neg, t_ix, t_sl, t_isi, t_isis, t_iso, t_fld, t_mcl, t_new, t_blt, t_tlt, t_mth, t_call, t_how, t_lc, x_l0, x_l1, x_l2, x_av1, x_av2, x_ov1, x_ov2, x_at1, x_at2, x_ot1, x_ot2, x_p0, x_p1, x_o0, x_o1, x_seq, x_rng1, x_rng2, x_zip, sizeLine_eq, iL_len, setAll, setTg, wipeD, initS, ↓to_lb, ↓to_evl, ↓to_itl, lb_val, lb_exc, lb_none, itl_t, itl_f, evl_val, evl_none, evl_lb]; try simp only [of_lb, of_evl, of_itl])
  obtain ⟨o', e⟩ := for_all (i := 1) (cs := cs) (body := rns (TB n) (.cons (.ite (.tyi true (.var 1) "int") (.cons (.ret (.bl false)) .nil) .nil) .nil)) (fun o => [some (.tup ds), o]) (fun _ _ => rfl) isI ds (fun x hx => by
    have hk := List.all_eq_true.mp h x hx
    (simp -implicitDefEqProofs [x_nil, x_cons, x_expr, x_doc, x_pas, x_cont, x_brk, x_ret, x_retN, x_ite, x_set, x_asg, x_sub, x_for, x_raise, x_sfld, x_nev, x_while, x_var, x_int, x_str, x_bl, x_non, x_con, x_tup, x_lst, x_bin, x_neg, x_notv, x_nott, x_andv, x_andt, x_orv, x_ort, x_cmpv, x_cmpt, x_chnv, x_chnt, x_ife, x_ix, x_sl, x_isi, x_isis, x_iso, x_tyiv, x_tyit, x_fld, x_mcl, x_new, x_blt, x_tlt, x_mth, x_call, x_how, x_dl, x_rp, x_lc, t_var, t_int, t_str, t_bl, t_non, t_con, t_tup, t_lst, t_bin, t_neg, t_ix, t_sl, t_isi, t_isis, t_iso, t_fld, t_mcl, t_new, t_blt, t_tlt, t_mth, t_call, t_how, t_lc, x_l0, x_l1, x_l2, x_av1, x_av2, x_ov1, x_ov2, x_at1, x_at2, x_ot1, x_ot2, x_p0, x_p1, x_o0, x_o1, x_seq, x_rng1, x_rng2, x_zip, sizeLine_eq, iL_len, setAll, setTg, wipeD, initS, ↓to_lb, ↓to_evl, ↓to_itl, lb_val, lb_exc, lb_none, itl_t, itl_f, evl_val, evl_none, evl_lb, tyi_t hk cs]; try simp only [of_lb, of_evl, of_itl])
    cases isI x <;> (simp -implicitDefEqProofs [x_nil, x_cons, x_expr, x_doc, x_pas, x_cont, x_brk, x_ret, x_retN, x_ite, x_set, x_asg, x_sub, x_for, x_raise, x_sfld, x_nev, x_while, x_var, x_int, x_str, x_bl, x_non, x_con, x_tup, x_lst, x_bin, x_neg, x_notv, x_nott, x_andv, x_andt, x_orv, x_ort, x_cmpv, x_cmpt, x_chnv, x_chnt, x_ife, x_ix, x_sl, x_isi, x_isis, x_iso, x_tyiv, x_tyit, x_fld, x_mcl, x_new, x_blt, x_tlt, x_mth, x_call, x_how, x_dl, x_rp, x_lc, t_var, t_int, t_str, t_bl, t_non, t_con, t_tup, t_lst, t_bin, t_neg, t_ix, t_sl, t_isi, t_isis, t_iso, t_fld, t_mcl, t_new, t_blt, t_tlt, t_mth, t_call, t_how, t_lc, x_l0, x_l1, x_l2, x_av1, x_av2, x_ov1, x_ov2, x_at1, x_at2, x_ot1, x_ot2, x_p0, x_p1, x_o0, x_o1, x_seq, x_rng1, x_rng2, x_zip, sizeLine_eq, iL_len, setAll, setTg, wipeD, initS, ↓to_lb, ↓to_evl, ↓to_itl, lb_val, lb_exc, lb_none, itl_t, itl_f, evl_val, evl_none, evl_lb]; try simp only [of_lb, of_evl, of_itl])) none
  rw [e]
  by_cases c : ds.all isI = true
  · (simp -implicitDefEqProofs [x_nil, x_cons, x_expr, x_doc, x_pas, x_cont, x_brk, x_ret, x_retN, x_ite, x_set, x_asg, x_sub, x_for, x_raise, x_sfld, x_nev, x_while, x_var, x_int, x_str, x_bl, x_non, x_con, x_tup, x_lst, x_bin, x_neg, x_notv, x_nott, x_andv, x_andt, x_orv, x_ort, x_cmpv, x_cmpt, x_chnv, x_chnt, x_ife, x_ix, x_sl, x_isi, x_isis, x_iso, x_tyiv, x_tyit, x_fld, x_mcl, x_new, x_blt, x_tlt, x_mth, x_call, x_how, x_dl, x_rp, x_lc, t_var, t_int, t_str, t_bl, t_non, t_con, t_tup, t_lst, t_bin, t_neg, t_ix, t_sl, t_isi, t_isis, t_iso, t_fld, t_mcl, t_new, t_blt, t_tlt, t_mth, t_call, t_how, t_lc, x_l0, x_l1, x_l2, x_av1, x_av2, x_ov1, x_ov2, x_at1, x_at2, x_ot1, x_ot2, x_p0, x_p1, x_o0, x_o1, x_seq, x_rng1, x_rng2, x_zip, sizeLine_eq, iL_len, setAll, setTg, wipeD, initS, ↓to_lb, ↓to_evl, ↓to_itl, lb_val, lb_exc, lb_none, itl_t, itl_f, evl_val, evl_none, evl_lb, c]; try simp only [of_lb, of_evl, of_itl])
  · simp only [Bool.not_eq_true] at c
    (simp -implicitDefEqProofs [x_nil, x_cons, x_expr, x_doc, x_pas, x_cont, x_brk, x_ret, x_retN, x_ite, x_set, x_asg, x_sub, x_for, x_raise, x_sfld, x_nev, x_while, x_var, x_int, x_str, x_bl, x_non, x_con, x_tup, x_lst, x_bin, x_neg, x_notv, x_nott, x_andv, x_andt, x_orv, x_ort, x_cmpv, x_cmpt, x_chnv, x_chnt, x_ife, x_ix, x_sl, x_isi, x_isis, x_iso, x_tyiv, x_tyit, x_fld, x_mcl, x_new, x_blt, x_tlt, x_mth, x_call, x_how, x_dl, x_rp, x_lc, t_var, t_int, t_str, t_bl, t_non, t_con, t_tup, t_lst, t_bin, t_neg, t_ix, t_sl, t_isi, t_isis, t_iso, t_fld, t_mcl, t_new, t_blt, t_tlt, t_mth, t_call, t_how, t_lc, x_l0, x_l1, x_l2, x_av1, x_av2, x_ov1, x_ov2, x_at1, x_at2, x_ot1, x_ot2, x_p0, x_p1, x_o0, x_o1, x_seq, x_rng1, x_rng2, x_zip, sizeLine_eq, iL_len, setAll, setTg, wipeD, initS, ↓to_lb, ↓to_evl, ↓to_itl, lb_val, lb_exc, lb_none, itl_t, itl_f, evl_val, evl_none, evl_lb, c]; try simp only [of_lb, of_evl, of_itl])
theorem are_whole_l {ds : List D} (h : ds.all known = true) : SM (n+1) i_are_whole [.lst ds] cs = some (.val (.bl (ds.all isI)), cs) := by
  rw [e_are_whole, b_are_whole]
  (simp -implicitDefEqProofs [x_nil, x_cons, x_expr, x_doc, x_pas, x_cont, x_brk, x_ret, x_retN, x_ite, x_set, x_asg, x_sub, x_for, x_raise, x_sfld, x_nev, x_while, x_var, x_int, x_str, x_bl, x_non, x_con, x_tup, x_lst, x_bin, x_neg, x_notv, x_nott, x_andv, x_andt, x_orv, x_ort, x_cmpv, x_cmpt, x_chnv, x_chnt, x_ife, x_ix, x_sl, x_isi, x_isis, x_iso, x_tyiv, x_tyit, x_fld, x_mcl, x_new, x_blt, x_tlt, x_mth, x_call, x_how, x_dl, x_rp, x_lc, t_var, t_int, t_str, t_bl, t_non, t_con, t_tup, t_lst, t_bin, t_neg, t_ix, t_sl, t_isi, t_isis, t_iso, t_fld, t_mcl, t_new, t_blt, t_tlt, t_mth, t_call, t_how, t_lc, x_l0, x_l1, x_l2, x_av1, x_av2, x_ov1, x_ov2, x_at1, x_at2, x_ot1, x_ot2, x_p0, x_p1, x_o0, x_o1, x_seq, x_rng1, x_rng2, x_zip, sizeLine_eq, iL_len, setAll, setTg, wipeD, initS, ↓to_lb, ↓to_evl, ↓to_itl, lb_val, lb_exc, lb_none, itl_t, itl_f, evl_val, evl_none, evl_lb]; try simp only [of_lb, of_evl, of_itl])
  obtain ⟨o', e⟩ := for_all (i := 1) (cs := cs) (body := rns (TB n) (.cons (.ite (.tyi true (.var 1) "int") (.cons (.ret (.bl false)) .nil) .nil) .nil)) (fun o => [some (.lst ds), o]) (fun _ _ => rfl) isI ds (fun x hx => by
    have hk := List.all_eq_true.mp h x hx
    (simp -implicitDefEqProofs [x_nil, x_cons, x_expr, x_doc, x_pas, x_cont, x_brk, x_ret, x_retN, x_ite, x_set, x_asg, x_sub, x_for, x_raise, x_sfld, x_nev, x_while, x_var, x_int, x_str, x_bl, x_non, x_con, x_tup, x_lst, x_bin, x_neg, x_notv, x_nott, x_andv, x_andt, x_orv, x_ort, x_cmpv, x_cmpt, x_chnv, x_chnt, x_ife, x_ix, x_sl, x_isi, x_isis, x_iso, x_tyiv, x_tyit, x_fld, x_mcl, x_new, x_blt, x_tlt, x_mth, x_call, x_how, x_dl, x_rp, x_lc, t_var, t_int, t_str, t_bl, t_non, t_con, t_tup, t_lst, t_bin, t_neg, t_ix, t_sl, t_isi, t_isis, t_iso, t_fld, t_mcl, t_new, t_blt, t_tlt, t_mth, t_call, t_how, t_lc, x_l0, x_l1, x_l2, x_av1, x_av2, x_ov1, x_ov2, x_at1, x_at2, x_ot1, x_ot2, x_p0, x_p1, x_o0, x_o1, x_seq, x_rng1, x_rng2, x_zip, sizeLine_eq, iL_len, setAll, setTg, wipeD, initS, ↓to_lb, ↓to_evl, ↓to_itl, lb_val, lb_exc, lb_none, itl_t, itl_f, evl_val, evl_none, evl_lb, tyi_t hk cs]; try simp only [of_lb, of_evl, of_itl])
    cases isI x <;> (simp -implicitDefEqProofs [x_nil, x_cons, x_expr, x_doc, x_pas, x_cont, x_brk, x_ret, x_retN, x_ite, x_set, x_asg, x_sub, x_for, x_raise, x_sfld, x_nev, x_while, x_var, x_int, x_str, x_bl, x_non, x_con, x_tup, x_lst, x_bin, x_neg, x_notv, x_nott, x_andv, x_andt, x_orv, x_ort, x_cmpv, x_cmpt, x_chnv, x_chnt, x_ife, x_ix, x_sl, x_isi, x_isis, x_iso, x_tyiv, x_tyit, x_fld, x_mcl, x_new, x_blt, x_tlt, x_mth, x_call, x_how, x_dl, x_rp, x_lc, t_var, t_int, t_str, t_bl, t_non, t_con, t_tup, t_lst, t_bin, t_neg, t_ix, t_sl, t_isi, t_isis, t_iso, t_fld, t_mcl, t_new, t_blt, t_tlt, t_mth, t_call, t_how, t_lc, x_l0, x_l1, x_l2, x_av1, x_av2, x_ov1, x_ov2, x_at1, x_at2, x_ot1, x_ot2, x_p0, x_p1, x_o0, x_o1, x_seq, x_rng1, x_rng2, x_zip, sizeLine_eq, iL_len, setAll, setTg, wipeD, initS, ↓to_lb, ↓to_evl, ↓to_itl, lb_val, lb_exc, lb_none, itl_t, itl_f, evl_val, evl_none, evl_lb]; try simp only [of_lb, of_evl, of_itl])) none
  rw [e]
  by_cases c : ds.all isI = true
  · (simp -implicitDefEqProofs [x_nil, x_cons, x_expr, x_doc, x_pas, x_cont, x_brk, x_ret, x_retN, x_ite, x_set, x_asg, x_sub, x_for, x_raise, x_sfld, x_nev, x_while, x_var, x_int, x_str, x_bl, x_non, x_con, x_tup, x_lst, x_bin, x_neg, x_notv, x_nott, x_andv, x_andt, x_orv, x_ort, x_cmpv, x_cmpt, x_chnv, x_chnt, x_ife, x_ix, x_sl, x_isi, x_isis, x_iso, x_tyiv, x_tyit, x_fld, x_mcl, x_new, x_blt, x_tlt, x_mth, x_call, x_how, x_dl, x_rp, x_lc, t_var, t_int, t_str, t_bl, t_non, t_con, t_tup, t_lst, t_bin, t_neg, t_ix, t_sl, t_isi, t_isis, t_iso, t_fld, t_mcl, t_new, t_blt, t_tlt, t_mth, t_call, t_how, t_lc, x_l0, x_l1, x_l2, x_av1, x_av2, x_ov1, x_ov2, x_at1, x_at2, x_ot1, x_ot2, x_p0, x_p1, x_o0, x_o1, x_seq, x_rng1, x_rng2, x_zip, sizeLine_eq, iL_len, setAll, setTg, wipeD, initS, ↓to_lb, ↓to_evl, ↓to_itl, lb_val, lb_exc, lb_none, itl_t, itl_f, evl_val, evl_none, evl_lb, c]; try simp only [of_lb, of_evl, of_itl])
  · simp only [Bool.not_eq_true] at c
    (simp -implicitDefEqProofs [x_nil, x_cons, x_expr, x_doc, x_pas, x_cont, x_brk, x_ret, x_retN, x_ite, x_set, x_asg, x_sub, x_for, x_raise, x_sfld, x_nev, x_while, x_var, x_int, x_str, x_bl, x_non, x_con, x_tup, x_lst, x_bin, x_neg, x_notv, x_nott, x_andv, x_andt, x_orv, x_ort, x_cmpv, x_cmpt, x_chnv, x_chnt, x_ife, x_ix, x_sl, x_isi, x_isis, x_iso, x_tyiv, x_tyit, x_fld, x_mcl, x_new, x_blt, x_tlt, x_mth, x_call, x_how, x_dl, x_rp, x_lc, t_var, t_int, t_str, t_bl, t_non, t_con, t_tup, t_lst, t_bin, t_neg, t_ix, t_sl, t_isi, t_isis, t_iso, t_fld, t_mcl, t_new, t_blt, t_tlt, t_mth, t_call, t_how, t_lc, x_l0, x_l1, x_l2, x_av1, x_av2, x_ov1, x_ov2, x_at1, x_at2, x_ot1, x_ot2, x_p0, x_p1, x_o0, x_o1, x_seq, x_rng1, x_rng2, x_zip, sizeLine_eq, iL_len, setAll, setTg, wipeD, initS, ↓to_lb, ↓to_evl, ↓to_itl, lb_val, lb_exc, lb_none, itl_t, itl_f, evl_val, evl_none, evl_lb, c]; try simp only [of_lb, of_evl, of_itl])
theorem is_form_ {d : D} (h : known1 d = true) : SM (n+2) i_is_form [d] cs = some (.val (.bl (isF d)), cs) := by
  rw [e_is_form, b_is_form]
  cases d with
  | tup ds =>
    have := are_whole_t n cs (ds := ds) h
    cases ds with
    | nil => (simp -implicitDefEqProofs [x_nil, x_cons, x_expr, x_doc, x_pas, x_cont, x_brk, x_ret, x_retN, x_ite, x_set, x_asg, x_sub, x_for, x_raise, x_sfld, x_nev, x_while, x_var, x_int, x_str, x_bl, x_non, x_con, x_tup, x_lst, x_bin, x_neg, x_notv, x_nott, x_andv, x_andt, x_orv, x_ort, x_cmpv, x_cmpt, x_chnv, x_chnt, x_ife, x_ix, x_sl, x_isi, x_isis, x_iso, x_tyiv, x_tyit, x_fld, x_mcl, x_new, x_blt, x_tlt, x_mth, x_call, x_how, x_dl, x_rp, x_lc, t_var, t_int, t_str, t_bl, t_non, t_con, t_tup, t_lst, t_bin, t_neg, t_ix, t_sl, t_isi, t_isis, t_iso, t_fld, t_mcl, t_new, t_blt, t_tlt, t_mth, t_call, t_how, t_lc, x_l0, x_l1, x_l2, x_av1, x_av2, x_ov1, x_ov2, x_at1, x_at2, x_ot1, x_ot2, x_p0, x_p1, x_o0, x_o1, x_seq, x_rng1, x_rng2, x_zip, sizeLine_eq, iL_len, setAll, setTg, wipeD, initS, ↓to_lb, ↓to_evl, ↓to_itl, lb_val, lb_exc, lb_none, itl_t, itl_f, evl_val, evl_none, evl_lb, isTy, isF]; try simp only [of_lb, of_evl, of_itl])
    | cons x ds =>
      (simp -implicitDefEqProofs [x_nil, x_cons, x_expr, x_doc, x_pas, x_cont, x_brk, x_ret, x_retN, x_ite, x_set, x_asg, x_sub, x_for, x_raise, x_sfld, x_nev, x_while, x_var, x_int, x_str, x_bl, x_non, x_con, x_tup, x_lst, x_bin, x_neg, x_notv, x_nott, x_andv, x_andt, x_orv, x_ort, x_cmpv, x_cmpt, x_chnv, x_chnt, x_ife, x_ix, x_sl, x_isi, x_isis, x_iso, x_tyiv, x_tyit, x_fld, x_mcl, x_new, x_blt, x_tlt, x_mth, x_call, x_how, x_dl, x_rp, x_lc, t_var, t_int, t_str, t_bl, t_non, t_con, t_tup, t_lst, t_bin, t_neg, t_ix, t_sl, t_isi, t_isis, t_iso, t_fld, t_mcl, t_new, t_blt, t_tlt, t_mth, t_call, t_how, t_lc, x_l0, x_l1, x_l2, x_av1, x_av2, x_ov1, x_ov2, x_at1, x_at2, x_ot1, x_ot2, x_p0, x_p1, x_o0, x_o1, x_seq, x_rng1, x_rng2, x_zip, sizeLine_eq, iL_len, setAll, setTg, wipeD, initS, ↓to_lb, ↓to_evl, ↓to_itl, lb_val, lb_exc, lb_none, itl_t, itl_f, evl_val, evl_none, evl_lb, isTy, isF, this]; try simp only [of_lb, of_evl, of_itl])
  | lst ds => (simp -implicitDefEqProofs [x_nil, x_cons, x_expr, x_doc, x_pas, x_cont, x_brk, x_ret, x_retN, x_ite, x_set, x_asg, x_sub, x_for, x_raise, x_sfld, x_nev, x_while, x_var, x_int, x_str, x_bl, x_non, x_con, x_tup, x_lst, x_bin, x_neg, x_notv, x_nott, x_andv, x_andt, x_orv, x_ort, x_cmpv, x_cmpt, x_chnv, x_chnt, x_ife, x_ix, x_sl, x_isi, x_isis, x_iso, x_tyiv, x_tyit, x_fld, x_mcl, x_new, x_blt, x_tlt, x_mth, x_call, x_how, x_dl, x_rp, x_lc, t_var, t_int, t_str, t_bl, t_non, t_con, t_tup, t_lst, t_bin, t_neg, t_ix, t_sl, t_isi, t_isis, t_iso, t_fld, t_mcl, t_new, t_blt, t_tlt, t_mth, t_call, t_how, t_lc, x_l0, x_l1, x_l2, x_av1, x_av2, x_ov1, x_ov2, x_at1, x_at2, x_ot1, x_ot2, x_p0, x_p1, x_o0, x_o1, x_seq, x_rng1, x_rng2, x_zip, sizeLine_eq, iL_len, setAll, setTg, wipeD, initS, ↓to_lb, ↓to_evl, ↓to_itl, lb_val, lb_exc, lb_none, itl_t, itl_f, evl_val, evl_none, evl_lb, isTy, isF]; try simp only [of_lb, of_evl, of_itl])
  | frz ds => (simp -implicitDefEqProofs [x_nil, x_cons, x_expr, x_doc, x_pas, x_cont, x_brk, x_ret, x_retN, x_ite, x_set, x_asg, x_sub, x_for, x_raise, x_sfld, x_nev, x_while, x_var, x_int, x_str, x_bl, x_non, x_con, x_tup, x_lst, x_bin, x_neg, x_notv, x_nott, x_andv, x_andt, x_orv, x_ort, x_cmpv, x_cmpt, x_chnv, x_chnt, x_ife, x_ix, x_sl, x_isi, x_isis, x_iso, x_tyiv, x_tyit, x_fld, x_mcl, x_new, x_blt, x_tlt, x_mth, x_call, x_how, x_dl, x_rp, x_lc, t_var, t_int, t_str, t_bl, t_non, t_con, t_tup, t_lst, t_bin, t_neg, t_ix, t_sl, t_isi, t_isis, t_iso, t_fld, t_mcl, t_new, t_blt, t_tlt, t_mth, t_call, t_how, t_lc, x_l0, x_l1, x_l2, x_av1, x_av2, x_ov1, x_ov2, x_at1, x_at2, x_ot1, x_ot2, x_p0, x_p1, x_o0, x_o1, x_seq, x_rng1, x_rng2, x_zip, sizeLine_eq, iL_len, setAll, setTg, wipeD, initS, ↓to_lb, ↓to_evl, ↓to_itl, lb_val, lb_exc, lb_none, itl_t, itl_f, evl_val, evl_none, evl_lb, isTy, isF]; try simp only [of_lb, of_evl, of_itl])
  | dct ks ds => (simp -implicitDefEqProofs [x_nil, x_cons, x_expr, x_doc, x_pas, x_cont, x_brk, x_ret, x_retN, x_ite, x_set, x_asg, x_sub, x_for, x_raise, x_sfld, x_nev, x_while, x_var, x_int, x_str, x_bl, x_non, x_con, x_tup, x_lst, x_bin, x_neg, x_notv, x_nott, x_andv, x_andt, x_orv, x_ort, x_cmpv, x_cmpt, x_chnv, x_chnt, x_ife, x_ix, x_sl, x_isi, x_isis, x_iso, x_tyiv, x_tyit, x_fld, x_mcl, x_new, x_blt, x_tlt, x_mth, x_call, x_how, x_dl, x_rp, x_lc, t_var, t_int, t_str, t_bl, t_non, t_con, t_tup, t_lst, t_bin, t_neg, t_ix, t_sl, t_isi, t_isis, t_iso, t_fld, t_mcl, t_new, t_blt, t_tlt, t_mth, t_call, t_how, t_lc, x_l0, x_l1, x_l2, x_av1, x_av2, x_ov1, x_ov2, x_at1, x_at2, x_ot1, x_ot2, x_p0, x_p1, x_o0, x_o1, x_seq, x_rng1, x_rng2, x_zip, sizeLine_eq, iL_len, setAll, setTg, wipeD, initS, ↓to_lb, ↓to_evl, ↓to_itl, lb_val, lb_exc, lb_none, itl_t, itl_f, evl_val, evl_none, evl_lb, isTy, isF]; try simp only [of_lb, of_evl, of_itl])
  | non => (simp -implicitDefEqProofs [x_nil, x_cons, x_expr, x_doc, x_pas, x_cont, x_brk, x_ret, x_retN, x_ite, x_set, x_asg, x_sub, x_for, x_raise, x_sfld, x_nev, x_while, x_var, x_int, x_str, x_bl, x_non, x_con, x_tup, x_lst, x_bin, x_neg, x_notv, x_nott, x_andv, x_andt, x_orv, x_ort, x_cmpv, x_cmpt, x_chnv, x_chnt, x_ife, x_ix, x_sl, x_isi, x_isis, x_iso, x_tyiv, x_tyit, x_fld, x_mcl, x_new, x_blt, x_tlt, x_mth, x_call, x_how, x_dl, x_rp, x_lc, t_var, t_int, t_str, t_bl, t_non, t_con, t_tup, t_lst, t_bin, t_neg, t_ix, t_sl, t_isi, t_isis, t_iso, t_fld, t_mcl, t_new, t_blt, t_tlt, t_mth, t_call, t_how, t_lc, x_l0, x_l1, x_l2, x_av1, x_av2, x_ov1, x_ov2, x_at1, x_at2, x_ot1, x_ot2, x_p0, x_p1, x_o0, x_o1, x_seq, x_rng1, x_rng2, x_zip, sizeLine_eq, iL_len, setAll, setTg, wipeD, initS, ↓to_lb, ↓to_evl, ↓to_itl, lb_val, lb_exc, lb_none, itl_t, itl_f, evl_val, evl_none, evl_lb, isTy, isF]; try simp only [of_lb, of_evl, of_itl])
  | bl b => (simp -implicitDefEqProofs [x_nil, x_cons, x_expr, x_doc, x_pas, x_cont, x_brk, x_ret, x_retN, x_ite, x_set, x_asg, x_sub, x_for, x_raise, x_sfld, x_nev, x_while, x_var, x_int, x_str, x_bl, x_non, x_con, x_tup, x_lst, x_bin, x_neg, x_notv, x_nott, x_andv, x_andt, x_orv, x_ort, x_cmpv, x_cmpt, x_chnv, x_chnt, x_ife, x_ix, x_sl, x_isi, x_isis, x_iso, x_tyiv, x_tyit, x_fld, x_mcl, x_new, x_blt, x_tlt, x_mth, x_call, x_how, x_dl, x_rp, x_lc, t_var, t_int, t_str, t_bl, t_non, t_con, t_tup, t_lst, t_bin, t_neg, t_ix, t_sl, t_isi, t_isis, t_iso, t_fld, t_mcl, t_new, t_blt, t_tlt, t_mth, t_call, t_how, t_lc, x_l0, x_l1, x_l2, x_av1, x_av2, x_ov1, x_ov2, x_at1, x_at2, x_ot1, x_ot2, x_p0, x_p1, x_o0, x_o1, x_seq, x_rng1, x_rng2, x_zip, sizeLine_eq, iL_len, setAll, setTg, wipeD, initS, ↓to_lb, ↓to_evl, ↓to_itl, lb_val, lb_exc, lb_none, itl_t, itl_f, evl_val, evl_none, evl_lb, isTy, isF]; try simp only [of_lb, of_evl, of_itl])
  | int b => (simp -implicitDefEqProofs [x_nil, x_cons, x_expr, x_doc, x_pas, x_cont, x_brk, x_ret, x_retN, x_ite, x_set, x_asg, x_sub, x_for, x_raise, x_sfld, x_nev, x_while, x_var, x_int, x_str, x_bl, x_non, x_con, x_tup, x_lst, x_bin, x_neg, x_notv, x_nott, x_andv, x_andt, x_orv, x_ort, x_cmpv, x_cmpt, x_chnv, x_chnt, x_ife, x_ix, x_sl, x_isi, x_isis, x_iso, x_tyiv, x_tyit, x_fld, x_mcl, x_new, x_blt, x_tlt, x_mth, x_call, x_how, x_dl, x_rp, x_lc, t_var, t_int, t_str, t_bl, t_non, t_con, t_tup, t_lst, t_bin, t_neg, t_ix, t_sl, t_isi, t_isis, t_iso, t_fld, t_mcl, t_new, t_blt, t_tlt, t_mth, t_call, t_how, t_lc, x_l0, x_l1, x_l2, x_av1, x_av2, x_ov1, x_ov2, x_at1, x_at2, x_ot1, x_ot2, x_p0, x_p1, x_o0, x_o1, x_seq, x_rng1, x_rng2, x_zip, sizeLine_eq, iL_len, setAll, setTg, wipeD, initS, ↓to_lb, ↓to_evl, ↓to_itl, lb_val, lb_exc, lb_none, itl_t, itl_f, evl_val, evl_none, evl_lb, isTy, isF]; try simp only [of_lb, of_evl, of_itl])
  | str b => (simp -implicitDefEqProofs [x_nil, x_cons, x_expr, x_doc, x_pas, x_cont, x_brk, x_ret, x_retN, x_ite, x_set, x_asg, x_sub, x_for, x_raise, x_sfld, x_nev, x_while, x_var, x_int, x_str, x_bl, x_non, x_con, x_tup, x_lst, x_bin, x_neg, x_notv, x_nott, x_andv, x_andt, x_orv, x_ort, x_cmpv, x_cmpt, x_chnv, x_chnt, x_ife, x_ix, x_sl, x_isi, x_isis, x_iso, x_tyiv, x_tyit, x_fld, x_mcl, x_new, x_blt, x_tlt, x_mth, x_call, x_how, x_dl, x_rp, x_lc, t_var, t_int, t_str, t_bl, t_non, t_con, t_tup, t_lst, t_bin, t_neg, t_ix, t_sl, t_isi, t_isis, t_iso, t_fld, t_mcl, t_new, t_blt, t_tlt, t_mth, t_call, t_how, t_lc, x_l0, x_l1, x_l2, x_av1, x_av2, x_ov1, x_ov2, x_at1, x_at2, x_ot1, x_ot2, x_p0, x_p1, x_o0, x_o1, x_seq, x_rng1, x_rng2, x_zip, sizeLine_eq, iL_len, setAll, setTg, wipeD, initS, ↓to_lb, ↓to_evl, ↓to_itl, lb_val, lb_exc, lb_none, itl_t, itl_f, evl_val, evl_none, evl_lb, isTy, isF]; try simp only [of_lb, of_evl, of_itl])
  | ins _ _ _ => cases h
  | st _ => cases h
  | ref _ => cases h
  | obj _ => cases h
theorem look_form_ {d : D} (h : known1 d = true) : SM (n+3) i__look_form [d] cs = if isF d = true then some (.val .non, cs) else some (.exc ⟨1, [], []⟩, cs) := by
  rw [e__look_form, b__look_form]
  (simp -implicitDefEqProofs [x_nil, x_cons, x_expr, x_doc, x_pas, x_cont, x_brk, x_ret, x_retN, x_ite, x_set, x_asg, x_sub, x_for, x_raise, x_sfld, x_nev, x_while, x_var, x_int, x_str, x_bl, x_non, x_con, x_tup, x_lst, x_bin, x_neg, x_notv, x_nott, x_andv, x_andt, x_orv, x_ort, x_cmpv, x_cmpt, x_chnv, x_chnt, x_ife, x_ix, x_sl, x_isi, x_isis, x_iso, x_tyiv, x_tyit, x_fld, x_mcl, x_new, x_blt, x_tlt, x_mth, x_call, x_how, x_dl, x_rp, x_lc, t_var, t_int, t_str, t_bl, t_non, t_con, t_tup, t_lst, t_bin, t_neg, t_ix, t_sl, t_isi, t_isis, t_iso, t_fld, t_mcl, t_new, t_blt, t_tlt, t_mth, t_call, t_how, t_lc, x_l0, x_l1, x_l2, x_av1, x_av2, x_ov1, x_ov2, x_at1, x_at2, x_ot1, x_ot2, x_p0, x_p1, x_o0, x_o1, x_seq, x_rng1, x_rng2, x_zip, sizeLine_eq, iL_len, setAll, setTg, wipeD, initS, ↓to_lb, ↓to_evl, ↓to_itl, lb_val, lb_exc, lb_none, itl_t, itl_f, evl_val, evl_none, evl_lb, is_form_ n cs h]; try simp only [of_lb, of_evl, of_itl])
  cases isF d <;> (simp -implicitDefEqProofs [x_nil, x_cons, x_expr, x_doc, x_pas, x_cont, x_brk, x_ret, x_retN, x_ite, x_set, x_asg, x_sub, x_for, x_raise, x_sfld, x_nev, x_while, x_var, x_int, x_str, x_bl, x_non, x_con, x_tup, x_lst, x_bin, x_neg, x_notv, x_nott, x_andv, x_andt, x_orv, x_ort, x_cmpv, x_cmpt, x_chnv, x_chnt, x_ife, x_ix, x_sl, x_isi, x_isis, x_iso, x_tyiv, x_tyit, x_fld, x_mcl, x_new, x_blt, x_tlt, x_mth, x_call, x_how, x_dl, x_rp, x_lc, t_var, t_int, t_str, t_bl, t_non, t_con, t_tup, t_lst, t_bin, t_neg, t_ix, t_sl, t_isi, t_isis, t_iso, t_fld, t_mcl, t_new, t_blt, t_tlt, t_mth, t_call, t_how, t_lc, x_l0, x_l1, x_l2, x_av1, x_av2, x_ov1, x_ov2, x_at1, x_at2, x_ot1, x_ot2, x_p0, x_p1, x_o0, x_o1, x_seq, x_rng1, x_rng2, x_zip, sizeLine_eq, iL_len, setAll, setTg, wipeD, initS, ↓to_lb, ↓to_evl, ↓to_itl, lb_val, lb_exc, lb_none, itl_t, itl_f, evl_val, evl_none, evl_lb]; try simp only [of_lb, of_evl, of_itl])
theorem look_ok {f : List Int} (h0 : f ≠ []) : SM (n+3) i__look_form [.tup (iL f)] cs = some (.val .non, cs) := by
  rw [look_form_ n cs (known1_iL f), if_pos (isF_iL h0)]
end
section
variable (n : Nat) (cs : Cells)
theorem often_ {f : List Int} {m : Int} {a b : Nat} (h0 : f ≠ []) (hl : f.length ≤ 1000) (hf : BndF a f) (hm : m.natAbs < 2 ^ b) (hab : a + b < 1000000) : SM (n+4) i_often [.tup (iL f), .int m] cs = some (.val (.tup (iL (oftF f m))), cs) := by
  rw [e_often, b_often]
  have hw : SM (n+3) i_is_whole [.int m] cs = some (.val (.bl true), cs) := by
    rw [e_is_whole, b_is_whole]
    (simp -implicitDefEqProofs [x_nil, x_cons, x_expr, x_doc, x_pas, x_cont, x_brk, x_ret, x_retN, x_ite, x_set, x_asg, x_sub, x_for, x_raise, x_sfld, x_nev, x_while, x_var, x_int, x_str, x_bl, x_non, x_con, x_tup, x_lst, x_bin, x_neg, x_notv, x_nott, x_andv, x_andt, x_orv, x_ort, x_cmpv, x_cmpt, x_chnv, x_chnt, x_ife, x_ix, x_sl, x_isi, x_isis, x_iso, x_tyiv, x_tyit, x_fld, x_mcl, x_new, x_blt, x_tlt, x_mth, x_call, x_how, x_dl, x_rp, x_lc, t_var, t_int, t_str, t_bl, t_non, t_con, t_tup, t_lst, t_bin, t_neg, t_ix, t_sl, t_isi, t_isis, t_iso, t_fld, t_mcl, t_new, t_blt, t_tlt, t_mth, t_call, t_how, t_lc, x_l0, x_l1, x_l2, x_av1, x_av2, x_ov1, x_ov2, x_at1, x_at2, x_ot1, x_ot2, x_p0, x_p1, x_o0, x_o1, x_seq, x_rng1, x_rng2, x_zip, sizeLine_eq, iL_len, setAll, setTg, wipeD, initS, ↓to_lb, ↓to_evl, ↓to_itl, lb_val, lb_exc, lb_none, itl_t, itl_f, evl_val, evl_none, evl_lb]; try simp only [of_lb, of_evl, of_itl])
  (simp -implicitDefEqProofs [x_nil, x_cons, x_expr, x_doc, x_pas, x_cont, x_brk, x_ret, x_retN, x_ite, x_set, x_asg, x_sub, x_for, x_raise, x_sfld, x_nev, x_while, x_var, x_int, x_str, x_bl, x_non, x_con, x_tup, x_lst, x_bin, x_neg, x_notv, x_nott, x_andv, x_andt, x_orv, x_ort, x_cmpv, x_cmpt, x_chnv, x_chnt, x_ife, x_ix, x_sl, x_isi, x_isis, x_iso, x_tyiv, x_tyit, x_fld, x_mcl, x_new, x_blt, x_tlt, x_mth, x_call, x_how, x_dl, x_rp, x_lc, t_var, t_int, t_str, t_bl, t_non, t_con, t_tup, t_lst, t_bin, t_neg, t_ix, t_sl, t_isi, t_isis, t_iso, t_fld, t_mcl, t_new, t_blt, t_tlt, t_mth, t_call, t_how, t_lc, x_l0, x_l1, x_l2, x_av1, x_av2, x_ov1, x_ov2, x_at1, x_at2, x_ot1, x_ot2, x_p0, x_p1, x_o0, x_o1, x_seq, x_rng1, x_rng2, x_zip, sizeLine_eq, iL_len, setAll, setTg, wipeD, initS, ↓to_lb, ↓to_evl, ↓to_itl, lb_val, lb_exc, lb_none, itl_t, itl_f, evl_val, evl_none, evl_lb, look_ok n cs h0, hw]; try simp only [of_lb, of_evl, of_itl])
  rw [lcD_map (F := fun d => match d with | .int a => .int (a * m) | _ => .non) (items := iL f) (g := [])]
  · simp [iL, oftF, Function.comp_def]
  · (simp -implicitDefEqProofs [x_nil, x_cons, x_expr, x_doc, x_pas, x_cont, x_brk, x_ret, x_retN, x_ite, x_set, x_asg, x_sub, x_for, x_raise, x_sfld, x_nev, x_while, x_var, x_int, x_str, x_bl, x_non, x_con, x_tup, x_lst, x_bin, x_neg, x_notv, x_nott, x_andv, x_andt, x_orv, x_ort, x_cmpv, x_cmpt, x_chnv, x_chnt, x_ife, x_ix, x_sl, x_isi, x_isis, x_iso, x_tyiv, x_tyit, x_fld, x_mcl, x_new, x_blt, x_tlt, x_mth, x_call, x_how, x_dl, x_rp, x_lc, t_var, t_int, t_str, t_bl, t_non, t_con, t_tup, t_lst, t_bin, t_neg, t_ix, t_sl, t_isi, t_isis, t_iso, t_fld, t_mcl, t_new, t_blt, t_tlt, t_mth, t_call, t_how, t_lc, x_l0, x_l1, x_l2, x_av1, x_av2, x_ov1, x_ov2, x_at1, x_at2, x_ot1, x_ot2, x_p0, x_p1, x_o0, x_o1, x_seq, x_rng1, x_rng2, x_zip, sizeLine_eq, iL_len, setAll, setTg, wipeD, initS, ↓to_lb, ↓to_evl, ↓to_itl, lb_val, lb_exc, lb_none, itl_t, itl_f, evl_val, evl_none, evl_lb]; try simp only [of_lb, of_evl, of_itl])
  · exact grdN cs
  · rw [iL_len]; simp [sizeLine]; omega
  · intro x hx
    obtain ⟨i, rfl, hi⟩ := iL_mem hx
    (simp -implicitDefEqProofs [x_nil, x_cons, x_expr, x_doc, x_pas, x_cont, x_brk, x_ret, x_retN, x_ite, x_set, x_asg, x_sub, x_for, x_raise, x_sfld, x_nev, x_while, x_var, x_int, x_str, x_bl, x_non, x_con, x_tup, x_lst, x_bin, x_neg, x_notv, x_nott, x_andv, x_andt, x_orv, x_ort, x_cmpv, x_cmpt, x_chnv, x_chnt, x_ife, x_ix, x_sl, x_isi, x_isis, x_iso, x_tyiv, x_tyit, x_fld, x_mcl, x_new, x_blt, x_tlt, x_mth, x_call, x_how, x_dl, x_rp, x_lc, t_var, t_int, t_str, t_bl, t_non, t_con, t_tup, t_lst, t_bin, t_neg, t_ix, t_sl, t_isi, t_isis, t_iso, t_fld, t_mcl, t_new, t_blt, t_tlt, t_mth, t_call, t_how, t_lc, x_l0, x_l1, x_l2, x_av1, x_av2, x_ov1, x_ov2, x_at1, x_at2, x_ot1, x_ot2, x_p0, x_p1, x_o0, x_o1, x_seq, x_rng1, x_rng2, x_zip, sizeLine_eq, iL_len, setAll, setTg, wipeD, initS, ↓to_lb, ↓to_evl, ↓to_itl, lb_val, lb_exc, lb_none, itl_t, itl_f, evl_val, evl_none, evl_lb, mulW false cs i m a b (hf i hi) hm hab]; try simp only [of_lb, of_evl, of_itl])
theorem contrary_ {f : List Int} {a : Nat} (h0 : f ≠ []) (hl : f.length ≤ 1000) (hf : BndF a f) (ha : a < 900000) : SM (n+5) i_contrary [.tup (iL f)] cs = some (.val (.tup (iL (conF f))), cs) := by
  rw [e_contrary, b_contrary]
  (simp -implicitDefEqProofs [x_nil, x_cons, x_expr, x_doc, x_pas, x_cont, x_brk, x_ret, x_retN, x_ite, x_set, x_asg, x_sub, x_for, x_raise, x_sfld, x_nev, x_while, x_var, x_int, x_str, x_bl, x_non, x_con, x_tup, x_lst, x_bin, x_neg, x_notv, x_nott, x_andv, x_andt, x_orv, x_ort, x_cmpv, x_cmpt, x_chnv, x_chnt, x_ife, x_ix, x_sl, x_isi, x_isis, x_iso, x_tyiv, x_tyit, x_fld, x_mcl, x_new, x_blt, x_tlt, x_mth, x_call, x_how, x_dl, x_rp, x_lc, t_var, t_int, t_str, t_bl, t_non, t_con, t_tup, t_lst, t_bin, t_neg, t_ix, t_sl, t_isi, t_isis, t_iso, t_fld, t_mcl, t_new, t_blt, t_tlt, t_mth, t_call, t_how, t_lc, x_l0, x_l1, x_l2, x_av1, x_av2, x_ov1, x_ov2, x_at1, x_at2, x_ot1, x_ot2, x_p0, x_p1, x_o0, x_o1, x_seq, x_rng1, x_rng2, x_zip, sizeLine_eq, iL_len, setAll, setTg, wipeD, initS, ↓to_lb, ↓to_evl, ↓to_itl, lb_val, lb_exc, lb_none, itl_t, itl_f, evl_val, evl_none, evl_lb, often_ n cs h0 hl hf (m := -1) (b := 1) (by decide) (by omega)]; try simp only [of_lb, of_evl, of_itl])
  cases f with
  | nil => exact absurd rfl h0
  | cons x f =>
    simp only [List.length_cons] at hl
    have h1 : (oftF f (-1)).length = f.length := oftF_len _ _
    have hz := binD_tup false cs [D.int (-x - 1)] (List.map D.int (oftF f (-1))) (by simp [sizeLine_eq]; omega)
    have : oftF (x :: f) (-1) = x * -1 :: oftF f (-1) := rfl
    rw [this]
    (simp -implicitDefEqProofs [x_nil, x_cons, x_expr, x_doc, x_pas, x_cont, x_brk, x_ret, x_retN, x_ite, x_set, x_asg, x_sub, x_for, x_raise, x_sfld, x_nev, x_while, x_var, x_int, x_str, x_bl, x_non, x_con, x_tup, x_lst, x_bin, x_neg, x_notv, x_nott, x_andv, x_andt, x_orv, x_ort, x_cmpv, x_cmpt, x_chnv, x_chnt, x_ife, x_ix, x_sl, x_isi, x_isis, x_iso, x_tyiv, x_tyit, x_fld, x_mcl, x_new, x_blt, x_tlt, x_mth, x_call, x_how, x_dl, x_rp, x_lc, t_var, t_int, t_str, t_bl, t_non, t_con, t_tup, t_lst, t_bin, t_neg, t_ix, t_sl, t_isi, t_isis, t_iso, t_fld, t_mcl, t_new, t_blt, t_tlt, t_mth, t_call, t_how, t_lc, x_l0, x_l1, x_l2, x_av1, x_av2, x_ov1, x_ov2, x_at1, x_at2, x_ot1, x_ot2, x_p0, x_p1, x_o0, x_o1, x_seq, x_rng1, x_rng2, x_zip, sizeLine_eq, iL_len, setAll, setTg, wipeD, initS, ↓to_lb, ↓to_evl, ↓to_itl, lb_val, lb_exc, lb_none, itl_t, itl_f, evl_val, evl_none, evl_lb, iL, hz, conF]; try simp only [of_lb, of_evl, of_itl])
end
structure Fs (m : Nat) (B : Int) (gs : List (List Int)) : Prop where
  len : ∀ g ∈ gs, g.length = m
  btw : ∀ g ∈ gs, Between (-B) B g
structure FormsI (pre suf : Cells) (k most len : Nat) (B : Int) (j : Nat) (acc : List D) (cs : Cells) : Prop where
  ps : PS pre suf (k + most * j) cs
  ex : ∃ gs : List (List Int), acc = hD gs ∧ gs.length = j ∧ Fs len B gs
section
variable (n : Nat)
/-- some forms of one length, drawn in a comprehension -/
theorem forms_ {pre suf cs : Cells} {k len N : Nat} {B : Int} {i : Nat} {vs : List Nat} {src : Slots → Cells → RsG ItD} {f : Slots → Cells → Rs} {sl : Slots} {T : Tb} {Q : D → Cells → Prop} (h : PS pre suf k cs) (hk : k + 3 * len * N ≤ 900000) (hN : N ≤ 1000) (hl : len ≤ 1000) (h1 : 1 ≤ B) (h2 : B ≤ 1000)
    (hs0 : src sl cs = some (.val ⟨rngList 0 N, []⟩, cs)) (hf : ∀ j cs, f ((wipeD sl vs).set i (some (.int ((j : Nat) : Int)))) cs = SM (n+2) i__law_form [.ref pre.length, .int len, .int B] cs)
    (he : ∀ gs cs', gs.length = N → Fs len B gs → PS pre suf (k + 3 * len * N) cs' → Q (.lst (hD gs)) cs') : Ev (lcD false (.nm i) vs src (tstO (evo T .no)) f sl cs) Q := by
  refine ev_lcR N (by omega) (FormsI pre suf k (3 * len) len B) hs0 ⟨h, [], rfl, rfl, (fun g hg => nomatch hg), fun g hg => nomatch hg⟩ ?_ ?_
  · rintro j acc cs1 hj ⟨hp, gs, rfl, hg, hfs⟩
    rw [hf]
    have : k + 3 * len * j + 3 * len ≤ k + 3 * len * N := by
      have : 3 * len * (j + 1) ≤ 3 * len * N := Nat.mul_le_mul_left _ hj
      rw [Nat.mul_add, Nat.mul_one] at this
      omega
    refine (form_ n hp (by omega) hl h1 h2).imp ?_
    rintro _ cs2 ⟨g, rfl, g1, g2, g3⟩
    refine ⟨?_, gs ++ [g], by simp [hD], by simp [hg], ?_, ?_⟩
    · have e : k + 3 * len * (j + 1) = k + 3 * len * j + 3 * len := by rw [Nat.mul_add, Nat.mul_one, Nat.add_assoc]
      rw [e]
      exact g3
    · intro x hx
      rcases List.mem_append.mp hx with hx | hx
      · exact hfs.len x hx
      · rw [List.mem_singleton.mp hx]; exact g1
    · intro x hx
      rcases List.mem_append.mp hx with hx | hx
      · exact hfs.btw x hx
      · rw [List.mem_singleton.mp hx]; exact g2
  · rintro ds cs' ⟨hp, gs, rfl, hg, hfs⟩
    exact he gs cs' hg hfs hp
end
end EV

namespace EV
open PySem PySem.Spec PyProof.Rows L2 ZG
theorem at0_zeros (L j : Nat) : at0 (zeros L) j = 0 := by
  unfold at0 zeros
  by_cases h : j < L
  · rw [List.getElem?_replicate, if_pos h]; rfl
  · rw [List.getElem?_replicate, if_neg h]; rfl
theorem at0_ledGo {ns : List Int} {gs : List (List Int)} {t : List Int} (h : ∀ g ∈ gs, g.length = t.length) (j : Nat) : at0 (ledGo t ns gs) j = at0 t j + dot ns (gs.map fun g => at0 g j) :=
  ledGo_at (fun f => at0 f j) t.length (fun f g a b => at0_add (a.trans b.symm) j) (fun f k => at0_oft f k j) ns gs t rfl h
/-! ### what a paper comes to: pure mathematics -/
/-- a goal, k times, less all hints, so often -/
def leftF (k : Int) (goal ws : List Int) (hs : List (List Int)) : List Int := ledGo (oftF goal k) (oftF ws (-1)) hs
def zeroT (l : List Int) : Bool := l.all (· == 0)
theorem leftF_fold (k : Int) (goal ws : List Int) (hs : List (List Int)) : leftF k goal ws hs = (ws.zip hs).foldl (fun t p => addF t (oftF p.2 (p.1 * -1))) (oftF goal k) := by
  unfold leftF
  rw [sq_fold []]
  unfold oftF
  rw [List.zip_map_left, List.foldl_map]
  rfl
theorem leftF_len {k : Int} {goal ws : List Int} {hs : List (List Int)} (h : ∀ g ∈ hs, g.length = goal.length) : (leftF k goal ws hs).length = goal.length := by
  unfold leftF
  rw [ledGo_len _ _ _ (fun g hg => by rw [oftF_len]; exact h g hg), oftF_len]
/-- all hints, so often, put together -/
def totF (L : Nat) (ws : List Int) (hs : List (List Int)) : List Int := ledGo (zeros L) ws hs
theorem totF_len {L : Nat} {ws : List Int} {hs : List (List Int)} (h : ∀ g ∈ hs, g.length = L) : (totF L ws hs).length = L := by
  unfold totF
  rw [ledGo_len _ _ _ (fun g hg => by rw [h g hg]; simp [zeros])]
  simp [zeros]
theorem leftF_tot {k : Int} {goal ws : List Int} {hs : List (List Int)} (h : ∀ g ∈ hs, g.length = goal.length) : leftF k goal ws hs = addF (oftF goal k) (oftF (totF goal.length ws hs) (-1)) := by
  have t := totF_len (ws := ws) h
  have e : (oftF goal k).length = (oftF (totF goal.length ws hs) (-1)).length := by rw [oftF_len, oftF_len, t]
  refine ext0 (by rw [leftF_len h, addF_len e, oftF_len]) fun j => ?_
  rw [at0_add e, at0_oft, at0_oft]
  unfold leftF totF
  rw [at0_ledGo (fun g hg => by rw [oftF_len]; exact h g hg), at0_ledGo (fun g hg => by rw [h g hg]; simp [zeros]), dot_oft, at0_oft, at0_zeros]
  omega
theorem zeroT_oft (l : List Int) : zeroT (oftF l (-1)) = zeroT l := by
  unfold zeroT oftF
  rw [List.all_map]
  congr 1
  funext x
  simp only [Function.comp_apply]
  rw [Bool.eq_iff_iff, beq_iff_eq, beq_iff_eq]
  omega
theorem zeroT_dec : ∀ (l : List Int) (m : Nat), l.length = m → zeroT l = decide (l = zeros m)
  | [], m, h => by subst h; rfl
  | x :: l, m, h => by
    subst h
    have := zeroT_dec l l.length rfl
    unfold zeroT zeros at this ⊢
    rw [List.all_cons, this, List.length_cons, List.replicate_succ]
    rw [Bool.eq_iff_iff]
    simp
def sumM (k : Int) (ws : List Int) (hs : List (List Int)) (goal : List Int) : Bool :=
  decide (ws.length = hs.length) && (zeroT (leftF k goal ws hs).tail && decide (-k < (leftF k goal ws hs).headD 0))
def nevM (ws : List Int) (hs : List (List Int)) (goal : List Int) : Bool :=
  decide (ws.length = hs.length) && (zeroT (leftF 0 goal ws hs).tail && decide (0 < (leftF 0 goal ws hs).headD 0))
theorem nevM_tot {ws : List Int} {hs : List (List Int)} {goal : List Int} (h0 : goal ≠ []) (h : ∀ g ∈ hs, g.length = goal.length) :
    nevM ws hs goal = (decide (ws.length = hs.length) && (decide ((totF goal.length ws hs).headD 0 < 0) && zeroT (totF goal.length ws hs).tail)) := by
  unfold nevM
  have e : leftF 0 goal ws hs = oftF (totF goal.length ws hs) (-1) := by
    rw [leftF_tot h]
    have t := totF_len (ws := ws) h
    refine ext0 (by rw [addF_len (by rw [oftF_len, oftF_len, t]), oftF_len, oftF_len, t]) fun j => ?_
    rw [at0_add (by rw [oftF_len, oftF_len, t]), at0_oft]
    omega
  rw [e]
  have t := totF_len (ws := ws) h
  cases hr : totF goal.length ws hs with
  | nil =>
    rw [hr] at t
    exact absurd (List.length_eq_zero_iff.mp t.symm) h0
  | cons x r =>
    rw [tail_oft, zeroT_oft]
    show (_ && (zeroT r && decide (0 < x * -1))) = (_ && (decide (x < 0) && zeroT r))
    rw [Bool.and_comm (decide (x < 0))]
    congr 2
    rw [decide_eq_decide]
    omega
theorem not_any_zero (r : List Int) : (!r.any (· != 0)) = zeroT r := by
  unfold zeroT
  rw [List.not_any_eq_all_not]
  congr 1
  funext x
  simp only [bne, Bool.not_not]
theorem any_z (r : List Int) (own : Bool) (cs : Cells) : bltD "any" own [.lst (iL r)] cs = some (.val (.bl (!zeroT r)), cs) := by
  rw [any_iL, ← not_any_zero, Bool.not_not]
def sideF : List Int → List Int
  | [] => []
  | x :: r => (x - 1) :: r
/-! ### data of known kinds, so deep -/
def kd : Nat → D → Bool
  | _, .non => true
  | _, .bl _ => true
  | _, .int i => decide (i.natAbs < 2 ^ 200)
  | _, .str x => PyData.strOk x
  | n + 1, .tup ds => decide (ds.length ≤ 1000) && ds.all (kd n)
  | n + 1, .lst ds => decide (ds.length ≤ 1000) && ds.all (kd n)
  | _, _ => false
theorem kd_tup {n : Nat} {ds : List D} (h : kd n (.tup ds) = true) : ∃ m, n = m + 1 ∧ ds.length ≤ 1000 ∧ ∀ d ∈ ds, kd m d = true := by
  cases n with
  | zero => simp [kd] at h
  | succ m =>
    simp only [kd, Bool.and_eq_true, decide_eq_true_eq] at h
    exact ⟨m, rfl, h.1, fun d hd => List.all_eq_true.mp h.2 d hd⟩
theorem kd_lst {n : Nat} {ds : List D} (h : kd n (.lst ds) = true) : ∃ m, n = m + 1 ∧ ds.length ≤ 1000 ∧ ∀ d ∈ ds, kd m d = true := by
  cases n with
  | zero => simp [kd] at h
  | succ m =>
    simp only [kd, Bool.and_eq_true, decide_eq_true_eq] at h
    exact ⟨m, rfl, h.1, fun d hd => List.all_eq_true.mp h.2 d hd⟩
theorem kd_mkT {n : Nat} {ds : List D} (hl : ds.length ≤ 1000) (h : ∀ d ∈ ds, kd n d = true) : kd (n + 1) (.tup ds) = true := by
  simp only [kd, Bool.and_eq_true, decide_eq_true_eq]
  exact ⟨hl, List.all_eq_true.mpr h⟩
theorem kd_mkL {n : Nat} {ds : List D} (hl : ds.length ≤ 1000) (h : ∀ d ∈ ds, kd n d = true) : kd (n + 1) (.lst ds) = true := by
  simp only [kd, Bool.and_eq_true, decide_eq_true_eq]
  exact ⟨hl, List.all_eq_true.mpr h⟩
theorem kd_mono : ∀ {n m : Nat} {d : D}, kd n d = true → n ≤ m → kd m d = true
  | 0, m, d, h, _ => by
    cases d <;> first | (simp [kd] at h; done) | (simpa [kd] using h)
  | n + 1, 0, _, _, e => by omega
  | n + 1, m + 1, d, h, e => by
    cases d with
    | tup ds =>
      simp only [kd, Bool.and_eq_true, decide_eq_true_eq] at h ⊢
      exact ⟨h.1, List.all_eq_true.mpr fun x hx => kd_mono (List.all_eq_true.mp h.2 x hx) (by omega)⟩
    | lst ds =>
      simp only [kd, Bool.and_eq_true, decide_eq_true_eq] at h ⊢
      exact ⟨h.1, List.all_eq_true.mpr fun x hx => kd_mono (List.all_eq_true.mp h.2 x hx) (by omega)⟩
    | _ => first | (simp [kd] at h; done) | (simpa [kd] using h)
theorem kd_known {n : Nat} {d : D} (h : kd n d = true) : known d = true := by
  cases d <;> first | rfl | (cases n <;> simp [kd] at h)
theorem kd_known1 {n : Nat} {d : D} (h : kd n d = true) : known1 d = true := by
  cases d with
  | tup ds =>
    obtain ⟨m, _, _, h2⟩ := kd_tup h
    exact List.all_eq_true.mpr fun x hx => kd_known (h2 x hx)
  | lst ds =>
    obtain ⟨m, _, _, h2⟩ := kd_lst h
    exact List.all_eq_true.mpr fun x hx => kd_known (h2 x hx)
  | _ => first | rfl | (cases n <;> simp [kd] at h)
structure PyOk (n : Nat) (p : PyData) : Prop where
  lay : p.canLay0 = true
  dep : p.depth ≤ n
  sho : p.showable = true
structure PyOkA (n : Nat) (ps : List PyData) : Prop where
  lay : PyData.canLayAll0 ps = true
  dep : PyData.depthAll ps ≤ n
  sho : PyData.showableAll ps = true
theorem kd_pyA (cs : Cells) {n : Nat} (ih : ∀ d, kd n d = true → ∃ p, toPy cs d = some p ∧ PyOk n p) : ∀ ds : List D, (∀ d ∈ ds, kd n d = true) → ∃ ps, toPyA cs ds = some ps ∧ PyOkA n ps ∧ ps.length = ds.length
  | [], _ => ⟨[], by simp [toPyA], ⟨by simp [PyData.canLayAll0], by simp [PyData.depthAll], by simp [PyData.showableAll]⟩, rfl⟩
  | d :: ds, h => by
    obtain ⟨p, e, o⟩ := ih d (h d List.mem_cons_self)
    obtain ⟨ps, e2, o2, l⟩ := kd_pyA cs ih ds fun x hx => h x (List.mem_cons_of_mem _ hx)
    refine ⟨p :: ps, by simp [toPyA, e, e2], ⟨by simp [PyData.canLayAll0, o.lay, o2.lay], ?_, by simp [PyData.showableAll, o.sho, o2.sho]⟩, by simp [l]⟩
    have := o.dep
    have := o2.dep
    simp only [PyData.depthAll]
    omega
theorem small_log {i : Int} (h : i.natAbs < 2 ^ 200) : i.natAbs.log2 < 1920 := Nat.lt_of_le_of_lt (log2_le h) (by decide)
theorem kd_py (cs : Cells) : ∀ (n : Nat) (d : D), kd n d = true → ∃ p, toPy cs d = some p ∧ PyOk n p
  | n, .non, _ => ⟨.none, by simp [toPy], by simp [PyData.canLay0], by simp [PyData.depth], by simp [PyData.showable]⟩
  | n, .bl b, _ => ⟨.bool b, by simp [toPy], by simp [PyData.canLay0], by simp [PyData.depth], by simp [PyData.showable]⟩
  | n, .int i, h => ⟨.int i, by simp [toPy], by simp [PyData.canLay0], by simp [PyData.depth], by
    have h : decide (i.natAbs < 2 ^ 200) = true := by cases n <;> simpa only [kd] using h
    simpa [PyData.showable] using small_log (of_decide_eq_true h)⟩
  | n, .str x, h => ⟨.str x, by simp [toPy], by
    have h : PyData.strOk x = true := by cases n <;> simpa only [kd] using h
    simpa [PyData.canLay0] using h, by simp [PyData.depth], by simp [PyData.showable]⟩
  | 0, .tup ds, h => by simp [kd] at h
  | 0, .lst ds, h => by simp [kd] at h
  | n + 1, .tup ds, h => by
    obtain ⟨m, e, _, h2⟩ := kd_tup h
    cases e
    obtain ⟨ps, e, o, _⟩ := kd_pyA cs (fun d hd => kd_py cs n d hd) ds h2
    have := o.dep
    exact ⟨.tuple ps, by simp [toPy, e], by simp [PyData.canLay0, o.lay], by simp only [PyData.depth]; omega, by simp [PyData.showable, o.sho]⟩
  | n + 1, .lst ds, h => by
    obtain ⟨m, e, _, h2⟩ := kd_lst h
    cases e
    obtain ⟨ps, e, o, _⟩ := kd_pyA cs (fun d hd => kd_py cs n d hd) ds h2
    have := o.dep
    exact ⟨.list ps, by simp [toPy, e], by simp [PyData.canLay0, o.lay], by simp only [PyData.depth]; omega, by simp [PyData.showable, o.sho]⟩
  | n, .frz _, h => by cases n <;> simp [kd] at h
  | n, .dct _ _, h => by cases n <;> simp [kd] at h
  | n, .ins _ _ _, h => by cases n <;> simp [kd] at h
  | n, .st _, h => by cases n <;> simp [kd] at h
  | n, .ref _, h => by cases n <;> simp [kd] at h
  | n, .obj _, h => by cases n <;> simp [kd] at h
theorem PyOk.shaped {n : Nat} {p : PyData} (o : PyOk n p) (hn : n ≤ 60) : SeqAt.shaped p = true := by
  have := o.dep
  simp only [SeqAt.shaped, o.lay, Bool.true_and, decide_eq_true_eq]
  omega
def isW (w : Str) : D → Bool
  | .str x => x == w
  | _ => false
def isNt : D → Bool
  | .tup ds => ds.isEmpty
  | _ => false
theorem toPy_none (cs : Cells) {d : D} {p : PyData} (h : toPy cs d = some p) (w : Str) : PyData.eqv p (.str w) = isW w d := by
  cases d with
  | non => cases h; simp [PyData.eqv, isW]
  | bl b => cases h; simp [PyData.eqv, isW]
  | int b => cases h; simp [PyData.eqv, isW]
  | str b => cases h; simp [PyData.eqv, isW]
  | tup ds =>
    simp only [toPy, Option.map_eq_some_iff] at h
    obtain ⟨ps, _, rfl⟩ := h
    simp [PyData.eqv, isW]
  | lst ds =>
    simp only [toPy, Option.map_eq_some_iff] at h
    obtain ⟨ps, _, rfl⟩ := h
    simp [PyData.eqv, isW]
  | frz ds =>
    simp only [toPy, Option.map_eq_some_iff] at h
    obtain ⟨ps, _, rfl⟩ := h
    simp [PyData.eqv, isW]
  | ref n =>
    simp only [toPy] at h
    split at h
    · simp only [Option.map_eq_some_iff] at h
      obtain ⟨ps, _, rfl⟩ := h
      simp [PyData.eqv, isW]
    · cases h
  | dct _ _ => simp [toPy] at h
  | ins _ _ _ => simp [toPy] at h
  | st _ => simp [toPy] at h
  | obj _ => simp [toPy] at h
theorem eq_word (cs : Cells) {n : Nat} {d : D} (h : kd n d = true) (hn : n ≤ 60) (w : Str) (hw : PyData.strOk w = true) : cmpD .Eq d (.str w) cs = some (.val (.bl (isW w d)), cs) := by
  refine eq_do cs ?_
  obtain ⟨p, e, o⟩ := kd_py cs n d h
  unfold eqD
  rw [e]
  simp only [toPy]
  rw [if_pos ⟨o.shaped hn, by simp [SeqAt.shaped, PyData.canLay0, PyData.depth, hw]⟩, toPy_none cs e]
theorem eqvAll_nil (ps : List PyData) : PyData.eqvAll ps [] = ps.isEmpty := by
  cases ps <;> simp [PyData.eqvAll]
theorem eq_nilt (cs : Cells) {n : Nat} {d : D} (h : kd n d = true) (hn : n ≤ 60) : cmpD .Eq d (.tup []) cs = some (.val (.bl (isNt d)), cs) := by
  refine eq_do cs ?_
  obtain ⟨p, e, o⟩ := kd_py cs n d h
  have e2 : toPy cs (.tup []) = some (.tuple []) := by simp [toPy, toPyA]
  unfold eqD
  rw [e, e2]
  dsimp only
  rw [if_pos ⟨o.shaped hn, by simp [SeqAt.shaped, PyData.canLay0, PyData.canLayAll0, PyData.depth, PyData.depthAll]⟩]
  cases d with
  | non => cases e; simp [PyData.eqv, isNt]
  | bl b => cases e; simp [PyData.eqv, isNt]
  | int b => cases e; simp [PyData.eqv, isNt]
  | str b => cases e; simp [PyData.eqv, isNt]
  | tup ds =>
    simp only [toPy, Option.map_eq_some_iff] at e
    obtain ⟨ps, e3, rfl⟩ := e
    simp only [PyData.eqv, isNt, eqvAll_nil]
    cases ds with
    | nil => simp only [toPyA, Option.some.injEq] at e3; rw [← e3]; rfl
    | cons x r =>
      simp only [toPyA] at e3
      split at e3
      · cases e3; rfl
      · cases e3
  | lst ds =>
    simp only [toPy, Option.map_eq_some_iff] at e
    obtain ⟨ps, _, rfl⟩ := e
    simp [PyData.eqv, isNt]
  | _ => cases n <;> simp [kd] at h
theorem eq_nill (cs : Cells) {n : Nat} {ds : List D} (h : ∀ d ∈ ds, kd n d = true) (hn : n ≤ 50) : cmpD .Eq (.lst ds) (.lst []) cs = some (.val (.bl ds.isEmpty), cs) := by
  refine eq_do cs ?_
  obtain ⟨ps, e, o, hl⟩ := kd_pyA cs (fun d hd => kd_py cs n d hd) ds h
  have e1 : toPy cs (.lst ds) = some (.list ps) := by simp [toPy, e]
  have e2 : toPy cs (.lst []) = some (.list []) := by simp [toPy, toPyA]
  have := o.dep
  unfold eqD
  rw [e1, e2]
  dsimp only
  have sh : SeqAt.shaped (.list ps) = true := by
    have dd : (PyData.list ps).depth = PyData.depthAll ps + 1 := by simp [PyData.depth]
    have ly : (PyData.list ps).canLay0 = true := by simp [PyData.canLay0, o.lay]
    unfold SeqAt.shaped
    rw [ly, dd, Bool.true_and, decide_eq_true_eq]
    omega
  rw [if_pos ⟨sh, by simp [SeqAt.shaped, PyData.canLay0, PyData.canLayAll0, PyData.depth, PyData.depthAll]⟩]
  simp only [PyData.eqv, eqvAll_nil]
  cases ps <;> cases ds <;> first | rfl | cases hl
theorem kd_int {n : Nat} {i : Int} (h : kd n (.int i) = true) : i.natAbs < 2 ^ 200 := by
  cases n <;> simpa [kd] using h
theorem kd_iL {n : Nat} {f : List Int} (h : ∀ x ∈ f, x.natAbs < 2 ^ 200) : ∀ d ∈ iL f, kd n d = true := by
  intro d hd
  obtain ⟨i, rfl, hi⟩ := iL_mem hd
  have := h i hi
  cases n <;> simpa [kd] using this
/-! ### what a thing is as a paper -/
inductive Pc where
  | sum (k : Int) (ws : List Int) | nev (ws : List Int) | spl (f : List Int) (a b : D) | apt (i : Nat) (a b : D)
def Pc.enc : Pc → D
  | .sum k ws => .tup [.str "sum", .int k, .lst (iL ws)]
  | .nev ws => .tup [.str "never", .lst (iL ws)]
  | .spl f a b => .tup [.str "split", .tup (iL f), a, b]
  | .apt i a b => .tup [.str "apart", .int i, a, b]
def toI : D → Int
  | .int i => i
  | _ => 0
def isWt : D → Bool
  | .int i => decide (0 ≤ i)
  | _ => false
def isWts : D → Bool
  | .lst ws => ws.all isWt
  | _ => false
theorem toI_iL {ds : List D} (h : ds.all isI = true) : ds = iL (ds.map toI) := by
  induction ds with
  | nil => rfl
  | cons x r ih =>
    rw [List.all_cons, Bool.and_eq_true] at h
    rw [List.map_cons]
    show _ = D.int (toI x) :: iL (r.map toI)
    rw [← ih h.2]
    cases x <;> first | rfl | cases h.1
theorem wt_isI {ds : List D} (h : ds.all isWt = true) : ds.all isI = true := by
  refine List.all_eq_true.mpr fun x hx => ?_
  have := List.all_eq_true.mp h x hx
  cases x <;> first | rfl | cases this
theorem wt_pos {ds : List D} (h : ds.all isWt = true) : ∀ w ∈ ds.map toI, 0 ≤ w := by
  intro w hw
  obtain ⟨x, hx, rfl⟩ := List.mem_map.mp hw
  have := List.all_eq_true.mp h x hx
  cases x <;> first | exact of_decide_eq_true this | cases this
def papR (w : Str) (r : List D) : Option Pc :=
  if w = "sum" then (match r with
    | [.int k, .lst ws] => if 1 ≤ k ∧ ws.all isWt = true then some (.sum k (ws.map toI)) else none
    | _ => none)
  else if w = "never" then (match r with
    | [.lst ws] => if ws.all isWt = true then some (.nev (ws.map toI)) else none
    | _ => none)
  else if w = "split" then (match r with
    | [.tup f, a, b] => if isF (.tup f) = true then some (.spl (f.map toI) a b) else none
    | _ => none)
  else if w = "apart" then (match r with
    | [.int i, a, b] => if 0 ≤ i then some (.apt i.toNat a b) else none
    | _ => none)
  else none
def papD : D → Option Pc
  | .tup (.str w :: r) => papR w r
  | _ => none
def Pc.Ok (n : Nat) : Pc → Prop
  | .sum k ws => 1 ≤ k ∧ k.natAbs < 2 ^ 200 ∧ ws.length ≤ 1000 ∧ ∀ w ∈ ws, 0 ≤ w ∧ w.natAbs < 2 ^ 200
  | .nev ws => ws.length ≤ 1000 ∧ ∀ w ∈ ws, 0 ≤ w ∧ w.natAbs < 2 ^ 200
  | .spl f a b => f ≠ [] ∧ f.length ≤ 1000 ∧ BndF 200 f ∧ kd n a = true ∧ kd n b = true
  | .apt _ a b => kd n a = true ∧ kd n b = true
theorem ok_ws {n : Nat} {ws : List D} (h : kd n (.lst ws) = true) (a : ws.all isWt = true) : (ws.map toI).length ≤ 1000 ∧ ∀ w ∈ ws.map toI, 0 ≤ w ∧ w.natAbs < 2 ^ 200 := by
  obtain ⟨m, _, hl, h2⟩ := kd_lst h
  refine ⟨by rw [List.length_map]; exact hl, fun w hw => ⟨wt_pos a w hw, ?_⟩⟩
  obtain ⟨x, hx, rfl⟩ := List.mem_map.mp hw
  have := List.all_eq_true.mp a x hx
  have k := h2 x hx
  cases x <;> first | exact kd_int k | cases this
theorem isF_all {f : List D} (h : isF (.tup f) = true) : f ≠ [] ∧ f.all isI = true := by
  simp only [isF, Bool.and_eq_true, Bool.not_eq_true', List.isEmpty_eq_false_iff] at h
  exact h
theorem papD_ok {n : Nat} {d : D} {c : Pc} (h : kd n d = true) (e : papD d = some c) : d = c.enc ∧ ∃ m, n = m + 1 ∧ c.Ok m := by
  unfold papD at e
  split at e
  · rename_i w r
    obtain ⟨m, rfl, hl, h2⟩ := kd_tup h
    unfold papR at e
    split at e
    · rename_i hw
      subst hw
      split at e
      · rename_i k ws
        split at e
        · rename_i c
          cases e
          refine ⟨by simp [Pc.enc, ← toI_iL (wt_isI c.2)], m, rfl, c.1, kd_int (h2 _ (by simp)), ok_ws (h2 _ (by simp)) c.2⟩
        · cases e
      · cases e
    · split at e
      · rename_i hw
        subst hw
        split at e
        · rename_i ws
          split at e
          · rename_i c
            cases e
            exact ⟨by simp [Pc.enc, ← toI_iL (wt_isI c)], m, rfl, ok_ws (h2 _ (by simp)) c⟩
          · cases e
        · cases e
      · split at e
        · rename_i hw
          subst hw
          split at e
          · rename_i f a b
            split at e
            · rename_i c
              cases e
              obtain ⟨f0, f1⟩ := isF_all c
              obtain ⟨m', _, l, hf⟩ := kd_tup (h2 (.tup f) (by simp))
              refine ⟨by simp [Pc.enc, ← toI_iL f1], m, rfl, by simpa using f0, by rw [List.length_map]; exact l, fun x hx => ?_, h2 _ (by simp), h2 _ (by simp)⟩
              obtain ⟨y, hy, rfl⟩ := List.mem_map.mp hx
              have := List.all_eq_true.mp f1 y hy
              have k := hf y hy
              cases y <;> first | exact kd_int k | cases this
            · cases e
          · cases e
        · split at e
          · rename_i hw
            subst hw
            split at e
            · rename_i i a b
              split at e
              · rename_i c
                cases e
                refine ⟨?_, m, rfl, h2 _ (by simp), h2 _ (by simp)⟩
                have : ((i.toNat : Nat) : Int) = i := by omega
                simp [Pc.enc, this]
              · cases e
            · cases e
          · cases e
  · cases e
def showsD (un : List (List Int)) (goal : List Int) : Nat → List (List Int) → D → Bool
  | 0, hs, d => match papD d with
    | some (.sum k ws) => sumM k ws hs goal
    | some (.nev ws) => nevM ws hs goal
    | _ => false
  | l + 1, hs, d => match papD d with
    | some (.sum k ws) => sumM k ws hs goal
    | some (.nev ws) => nevM ws hs goal
    | some (.spl f a b) => decide (f.length = goal.length) && (showsD un goal l (hs ++ [f]) a && showsD un goal l (hs ++ [conF f]) b)
    | some (.apt i a b) => (match un[i]? with
      | some u => showsD un goal l (hs ++ [sideF u]) a && showsD un goal l (hs ++ [conF u]) b
      | none => false)
    | none => false
theorem showsD_none {un : List (List Int)} {goal : List Int} {l : Nat} {hs : List (List Int)} {d : D} (h : papD d = none) : showsD un goal l hs d = false := by
  cases l <;> simp only [showsD, h]
theorem sideF_len {f : List Int} : (sideF f).length = f.length := by
  cases f <;> rfl
theorem hD_app (hs : List (List Int)) (f : List Int) : hD hs ++ [D.tup (iL f)] = hD (hs ++ [f]) := by simp [hD]
theorem all_app {hs : List (List Int)} {f : List Int} {P : List Int → Prop} (h : ∀ h ∈ hs, P h) (e : P f) : ∀ h ∈ hs ++ [f], P h := by
  intro x hx
  rcases List.mem_append.mp hx with hx | hx
  · exact h x hx
  · rw [List.mem_singleton.mp hx]; exact e
theorem BndF.con {a : Nat} {f : List Int} (h : BndF a f) : BndF (a + 1) (conF f) := by
  cases f with
  | nil => intro x hx; cases hx
  | cons y r =>
    have p : (2 : Nat) ^ (a + 1) = 2 * 2 ^ a := by rw [Nat.pow_succ]; omega
    have q : 1 ≤ (2 : Nat) ^ a := Nat.one_le_two_pow
    intro x hx
    rw [p]
    rcases List.mem_cons.mp hx with rfl | hx
    · have := h y List.mem_cons_self
      omega
    · unfold oftF at hx
      obtain ⟨z, hz, rfl⟩ := List.mem_map.mp hx
      have := h z (List.mem_cons_of_mem _ hz)
      omega
theorem BndF.side {a : Nat} {f : List Int} (h : BndF a f) : BndF (a + 1) (sideF f) := by
  cases f with
  | nil => intro x hx; cases hx
  | cons y r =>
    have p : (2 : Nat) ^ (a + 1) = 2 * 2 ^ a := by rw [Nat.pow_succ]; omega
    have q : 1 ≤ (2 : Nat) ^ a := Nat.one_le_two_pow
    intro x hx
    rw [p]
    rcases List.mem_cons.mp hx with rfl | hx
    · have := h y List.mem_cons_self
      omega
    · have := h x (List.mem_cons_of_mem _ hx)
      omega
/-! ### papers' words -/
theorem w_ns : ("never" : Str) ≠ "sum" := by decide +kernel
theorem w_ps : ("split" : Str) ≠ "sum" := by decide +kernel
theorem w_pn : ("split" : Str) ≠ "never" := by decide +kernel
theorem w_as : ("apart" : Str) ≠ "sum" := by decide +kernel
theorem w_an : ("apart" : Str) ≠ "never" := by decide +kernel
theorem w_ap : ("apart" : Str) ≠ "split" := by decide +kernel
theorem lst2 {α : Type} {r : List α} (h : r.length = 2) : ∃ a b, r = [a, b] := by
  match r, h with
  | [a, b], _ => exact ⟨a, b, rfl⟩
theorem lst1 {α : Type} {r : List α} (h : r.length = 1) : ∃ a, r = [a] := by
  match r, h with
  | [a], _ => exact ⟨a, rfl⟩
theorem lst3 {α : Type} {r : List α} (h : r.length = 3) : ∃ a b c, r = [a, b, c] := by
  match r, h with
  | [a, b, c], _ => exact ⟨a, b, c, rfl⟩
theorem pap_sum (a b : D) : (papR "sum" [a, b]).isSome = (isI a && (decide (1 ≤ toI a) && isWts b)) := by
  unfold papR
  rw [if_pos rfl]
  cases a with
  | int k =>
    cases b with
    | lst ws =>
      by_cases c : 1 ≤ k
      · cases d : ws.all isWt
        · simp only [isI, toI, isWts, d, c]; simp
        · simp only [isI, toI, isWts, d, c]; simp
      · simp only [isI, toI, isWts, c]; simp
    | _ => simp only [isI, toI, isWts]; simp
  | _ => simp only [isI]; simp
theorem pap_sum_no {r : List D} (h : r.length ≠ 2) : papR "sum" r = none := by
  unfold papR
  rw [if_pos rfl]
  split
  · exact absurd rfl h
  · rfl
theorem pap_nev (b : D) : (papR "never" [b]).isSome = isWts b := by
  unfold papR
  rw [if_neg w_ns, if_pos rfl]
  cases b with
  | lst ws =>
    cases d : ws.all isWt
    · simp only [isWts, d]; simp
    · simp only [isWts, d]; simp
  | _ => simp only [isWts]; simp
theorem pap_nev_no {r : List D} (h : r.length ≠ 1) : papR "never" r = none := by
  unfold papR
  rw [if_neg w_ns, if_pos rfl]
  split
  · exact absurd rfl h
  · rfl
theorem pap_spl (f a b : D) : (papR "split" [f, a, b]).isSome = isF f := by
  unfold papR
  rw [if_neg w_ps, if_neg w_pn, if_pos rfl]
  cases f with
  | tup g =>
    cases d : isF (.tup g)
    · simp only [d]; simp
    · simp only [d]; simp
  | _ => simp only [isF]; simp
theorem pap_spl_no {r : List D} (h : r.length ≠ 3) : papR "split" r = none := by
  unfold papR
  rw [if_neg w_ps, if_neg w_pn, if_pos rfl]
  split
  · exact absurd rfl h
  · rfl
theorem pap_apt (i a b : D) : (papR "apart" [i, a, b]).isSome = (isI i && decide (0 ≤ toI i)) := by
  unfold papR
  rw [if_neg w_as, if_neg w_an, if_neg w_ap, if_pos rfl]
  cases i with
  | int k =>
    by_cases c : 0 ≤ k
    · simp only [isI, toI, c]; simp
    · simp only [isI, toI, c]; simp
  | _ => simp only [isI]; simp
theorem pap_apt_no {r : List D} (h : r.length ≠ 3) : papR "apart" r = none := by
  unfold papR
  rw [if_neg w_as, if_neg w_an, if_neg w_ap, if_pos rfl]
  split
  · exact absurd rfl h
  · rfl
theorem pap_other {w : Str} (h1 : w ≠ "sum") (h2 : w ≠ "never") (h3 : w ≠ "split") (h4 : w ≠ "apart") (r : List D) : papR w r = none := by
  unfold papR
  rw [if_neg h1, if_neg h2, if_neg h3, if_neg h4]
theorem isW_no {w x : Str} (h : x ≠ w) : isW w (.str x) = false := by
  simp only [isW]
  exact beq_eq_false_iff_ne.mpr h
theorem int_ne {a b : Nat} (h : a ≠ b) : ¬ (a : Int) = (b : Int) := by omega
end EV

namespace EV
open PySem PySem.Spec PyProof.Rows L2 ZG
abbrev FI : D := .ins 20 [] []
structure LeftI (k : Int) (G W H : D) (m : Nat) (goal : List Int) (cs : Cells) (l : List (Int × List Int)) (sl : Slots) (cs' : Cells) : Prop where
  same : cs' = cs
  ex : ∃ (acc : List Int) (o6 o7 : Option D), sl = [some FI, some (.int k), some G, some W, some H, some (.lst (iL acc)), o6, o7, none, none] ∧ acc.length = m ∧ (∀ p ∈ l, p.2.length = m ∧ BndF 300 p.2 ∧ p.1.natAbs < 2 ^ 200) ∧ l.foldl (fun t p => addF t (oftF p.2 (p.1 * -1))) acc = goal
section
variable (n : Nat) (cs : Cells)
theorem left_ {k : Int} {goal ws : List Int} {hs : List (List Int)} (h0 : goal ≠ []) (hL : goal.length ≤ 1000) (hg : BndF 300 goal) (hh : ∀ h ∈ hs, h.length = goal.length ∧ BndF 300 h) (hw : ∀ w ∈ ws, w.natAbs < 2 ^ 200) (hk : k.natAbs < 2 ^ 200) :
    SM (n+1) i_Forms_left [FI, .int k, .tup (iL goal), .lst (iL ws), .lst (hD hs)] cs = some (.val (if zeroT (leftF k goal ws hs).tail = true then .int ((leftF k goal ws hs).headD 0) else .non), cs) := by
  rw [e_Forms_left, b_Forms_left]
  refine ev_at.mp ?_
  (simp -implicitDefEqProofs [x_nil, x_cons, x_expr, x_doc, x_pas, x_cont, x_brk, x_ret, x_retN, x_ite, x_set, x_asg, x_sub, x_for, x_raise, x_sfld, x_nev, x_while, x_var, x_int, x_str, x_bl, x_non, x_con, x_tup, x_lst, x_bin, x_neg, x_notv, x_nott, x_andv, x_andt, x_orv, x_ort, x_cmpv, x_cmpt, x_chnv, x_chnt, x_ife, x_ix, x_sl, x_isi, x_isis, x_iso, x_tyiv, x_tyit, x_fld, x_mcl, x_new, x_blt, x_tlt, x_mth, x_call, x_how, x_dl, x_rp, x_lc, t_var, t_int, t_str, t_bl, t_non, t_con, t_tup, t_lst, t_bin, t_neg, t_ix, t_sl, t_isi, t_isis, t_iso, t_fld, t_mcl, t_new, t_blt, t_tlt, t_mth, t_call, t_how, t_lc, x_l0, x_l1, x_l2, x_av1, x_av2, x_ov1, x_ov2, x_at1, x_at2, x_ot1, x_ot2, x_p0, x_p1, x_o0, x_o1, x_seq, x_rng1, x_rng2, x_zip, sizeLine_eq, iL_len, setAll, setTg, wipeD, initS, ↓to_lb, ↓to_evl, ↓to_itl, lb_val, lb_exc, lb_none, itl_t, itl_f, evl_val, evl_none, evl_lb]; try simp only [of_lb, of_evl, of_itl])
  rw [lcD_map (F := fun d => match d with | .int a => .int (k * a) | _ => .non) (items := iL goal) (g := [])]
  · have e : (iL goal).map (fun d => match d with | .int a => .int (k * a) | _ => .non) = iL (oftF goal k) := by
      simp [iL, oftF, Function.comp_def, Int.mul_comm]
    rw [e]
    (simp -implicitDefEqProofs [x_nil, x_cons, x_expr, x_doc, x_pas, x_cont, x_brk, x_ret, x_retN, x_ite, x_set, x_asg, x_sub, x_for, x_raise, x_sfld, x_nev, x_while, x_var, x_int, x_str, x_bl, x_non, x_con, x_tup, x_lst, x_bin, x_neg, x_notv, x_nott, x_andv, x_andt, x_orv, x_ort, x_cmpv, x_cmpt, x_chnv, x_chnt, x_ife, x_ix, x_sl, x_isi, x_isis, x_iso, x_tyiv, x_tyit, x_fld, x_mcl, x_new, x_blt, x_tlt, x_mth, x_call, x_how, x_dl, x_rp, x_lc, t_var, t_int, t_str, t_bl, t_non, t_con, t_tup, t_lst, t_bin, t_neg, t_ix, t_sl, t_isi, t_isis, t_iso, t_fld, t_mcl, t_new, t_blt, t_tlt, t_mth, t_call, t_how, t_lc, x_l0, x_l1, x_l2, x_av1, x_av2, x_ov1, x_ov2, x_at1, x_at2, x_ot1, x_ot2, x_p0, x_p1, x_o0, x_o1, x_seq, x_rng1, x_rng2, x_zip, sizeLine_eq, iL_len, setAll, setTg, wipeD, initS, ↓to_lb, ↓to_evl, ↓to_itl, lb_val, lb_exc, lb_none, itl_t, itl_f, evl_val, evl_none, evl_lb, zip_hD]; try simp only [of_lb, of_evl, of_itl])
    refine ev_items (fun p : Int × List Int => D.tup [.int p.1, .tup (iL p.2)]) (LeftI k (.tup (iL goal)) (.lst (iL ws)) (.lst (hD hs)) goal.length (leftF k goal ws hs) cs) ?_ ?_ (ws.zip hs) _ cs ?_
    · rintro ⟨w, g⟩ r sl cs1 ⟨rfl, acc, o6, o7, rfl, ha, hl, hf⟩
      obtain ⟨q1, q3, q2⟩ := hl (w, g) List.mem_cons_self
      simp only at q1 q2 q3
      refine ⟨_, rfl, ?_⟩
      have hl' : ∀ p ∈ r, p.2.length = goal.length ∧ BndF 300 p.2 ∧ p.1.natAbs < 2 ^ 200 := fun p hp => hl p (List.mem_cons_of_mem _ hp)
      by_cases c : w = 0
      · subst c
        (simp -implicitDefEqProofs [x_nil, x_cons, x_expr, x_doc, x_pas, x_cont, x_brk, x_ret, x_retN, x_ite, x_set, x_asg, x_sub, x_for, x_raise, x_sfld, x_nev, x_while, x_var, x_int, x_str, x_bl, x_non, x_con, x_tup, x_lst, x_bin, x_neg, x_notv, x_nott, x_andv, x_andt, x_orv, x_ort, x_cmpv, x_cmpt, x_chnv, x_chnt, x_ife, x_ix, x_sl, x_isi, x_isis, x_iso, x_tyiv, x_tyit, x_fld, x_mcl, x_new, x_blt, x_tlt, x_mth, x_call, x_how, x_dl, x_rp, x_lc, t_var, t_int, t_str, t_bl, t_non, t_con, t_tup, t_lst, t_bin, t_neg, t_ix, t_sl, t_isi, t_isis, t_iso, t_fld, t_mcl, t_new, t_blt, t_tlt, t_mth, t_call, t_how, t_lc, x_l0, x_l1, x_l2, x_av1, x_av2, x_ov1, x_ov2, x_at1, x_at2, x_ot1, x_ot2, x_p0, x_p1, x_o0, x_o1, x_seq, x_rng1, x_rng2, x_zip, sizeLine_eq, iL_len, setAll, setTg, wipeD, initS, ↓to_lb, ↓to_evl, ↓to_itl, lb_val, lb_exc, lb_none, itl_t, itl_f, evl_val, evl_none, evl_lb]; try simp only [of_lb, of_evl, of_itl])
        refine turn_nx ⟨rfl, acc, _, _, rfl, ha, hl', ?_⟩
        rw [← hf, List.foldl_cons]
        simp only
        have : (0 : Int) * -1 = 0 := rfl
        rw [this, addF_zero acc g (by rw [q1, ha])]
      · (simp -implicitDefEqProofs [x_nil, x_cons, x_expr, x_doc, x_pas, x_cont, x_brk, x_ret, x_retN, x_ite, x_set, x_asg, x_sub, x_for, x_raise, x_sfld, x_nev, x_while, x_var, x_int, x_str, x_bl, x_non, x_con, x_tup, x_lst, x_bin, x_neg, x_notv, x_nott, x_andv, x_andt, x_orv, x_ort, x_cmpv, x_cmpt, x_chnv, x_chnt, x_ife, x_ix, x_sl, x_isi, x_isis, x_iso, x_tyiv, x_tyit, x_fld, x_mcl, x_new, x_blt, x_tlt, x_mth, x_call, x_how, x_dl, x_rp, x_lc, t_var, t_int, t_str, t_bl, t_non, t_con, t_tup, t_lst, t_bin, t_neg, t_ix, t_sl, t_isi, t_isis, t_iso, t_fld, t_mcl, t_new, t_blt, t_tlt, t_mth, t_call, t_how, t_lc, x_l0, x_l1, x_l2, x_av1, x_av2, x_ov1, x_ov2, x_at1, x_at2, x_ot1, x_ot2, x_p0, x_p1, x_o0, x_o1, x_seq, x_rng1, x_rng2, x_zip, sizeLine_eq, iL_len, setAll, setTg, wipeD, initS, ↓to_lb, ↓to_evl, ↓to_itl, lb_val, lb_exc, lb_none, itl_t, itl_f, evl_val, evl_none, evl_lb, c]; try simp only [of_lb, of_evl, of_itl])
        rw [lcD_map (F := fun d => match d with | .tup [.int u, .int v] => .int (u - w * v) | _ => .non) (items := zipD (iL acc) (iL g)) (g := [])]
        · rw [mapZip _ (fun u v => u - w * v) fun _ _ => rfl]
          (simp -implicitDefEqProofs [x_nil, x_cons, x_expr, x_doc, x_pas, x_cont, x_brk, x_ret, x_retN, x_ite, x_set, x_asg, x_sub, x_for, x_raise, x_sfld, x_nev, x_while, x_var, x_int, x_str, x_bl, x_non, x_con, x_tup, x_lst, x_bin, x_neg, x_notv, x_nott, x_andv, x_andt, x_orv, x_ort, x_cmpv, x_cmpt, x_chnv, x_chnt, x_ife, x_ix, x_sl, x_isi, x_isis, x_iso, x_tyiv, x_tyit, x_fld, x_mcl, x_new, x_blt, x_tlt, x_mth, x_call, x_how, x_dl, x_rp, x_lc, t_var, t_int, t_str, t_bl, t_non, t_con, t_tup, t_lst, t_bin, t_neg, t_ix, t_sl, t_isi, t_isis, t_iso, t_fld, t_mcl, t_new, t_blt, t_tlt, t_mth, t_call, t_how, t_lc, x_l0, x_l1, x_l2, x_av1, x_av2, x_ov1, x_ov2, x_at1, x_at2, x_ot1, x_ot2, x_p0, x_p1, x_o0, x_o1, x_seq, x_rng1, x_rng2, x_zip, sizeLine_eq, iL_len, setAll, setTg, wipeD, initS, ↓to_lb, ↓to_evl, ↓to_itl, lb_val, lb_exc, lb_none, itl_t, itl_f, evl_val, evl_none, evl_lb]; try simp only [of_lb, of_evl, of_itl])
          refine turn_nx ⟨rfl, _, _, _, rfl, ?_, hl', ?_⟩
          · rw [List.length_zipWith]; omega
          · rw [← hf, List.foldl_cons]
            congr 1
            simp only [addF, oftF, List.zipWith_map_right]
            congr 1
            funext u v
            rw [Int.mul_comm w v, Int.mul_neg, Int.mul_one, Int.mul_neg]
            omega
        · (simp -implicitDefEqProofs [x_nil, x_cons, x_expr, x_doc, x_pas, x_cont, x_brk, x_ret, x_retN, x_ite, x_set, x_asg, x_sub, x_for, x_raise, x_sfld, x_nev, x_while, x_var, x_int, x_str, x_bl, x_non, x_con, x_tup, x_lst, x_bin, x_neg, x_notv, x_nott, x_andv, x_andt, x_orv, x_ort, x_cmpv, x_cmpt, x_chnv, x_chnt, x_ife, x_ix, x_sl, x_isi, x_isis, x_iso, x_tyiv, x_tyit, x_fld, x_mcl, x_new, x_blt, x_tlt, x_mth, x_call, x_how, x_dl, x_rp, x_lc, t_var, t_int, t_str, t_bl, t_non, t_con, t_tup, t_lst, t_bin, t_neg, t_ix, t_sl, t_isi, t_isis, t_iso, t_fld, t_mcl, t_new, t_blt, t_tlt, t_mth, t_call, t_how, t_lc, x_l0, x_l1, x_l2, x_av1, x_av2, x_ov1, x_ov2, x_at1, x_at2, x_ot1, x_ot2, x_p0, x_p1, x_o0, x_o1, x_seq, x_rng1, x_rng2, x_zip, sizeLine_eq, iL_len, setAll, setTg, wipeD, initS, ↓to_lb, ↓to_evl, ↓to_itl, lb_val, lb_exc, lb_none, itl_t, itl_f, evl_val, evl_none, evl_lb]; try simp only [of_lb, of_evl, of_itl])
        · exact grdN _
        · rw [zip_iL]; simp [sizeLine]; omega
        · intro y hy
          rw [zip_iL] at hy
          obtain ⟨⟨u, v⟩, huv, rfl⟩ := List.mem_map.mp hy
          (simp -implicitDefEqProofs [x_nil, x_cons, x_expr, x_doc, x_pas, x_cont, x_brk, x_ret, x_retN, x_ite, x_set, x_asg, x_sub, x_for, x_raise, x_sfld, x_nev, x_while, x_var, x_int, x_str, x_bl, x_non, x_con, x_tup, x_lst, x_bin, x_neg, x_notv, x_nott, x_andv, x_andt, x_orv, x_ort, x_cmpv, x_cmpt, x_chnv, x_chnt, x_ife, x_ix, x_sl, x_isi, x_isis, x_iso, x_tyiv, x_tyit, x_fld, x_mcl, x_new, x_blt, x_tlt, x_mth, x_call, x_how, x_dl, x_rp, x_lc, t_var, t_int, t_str, t_bl, t_non, t_con, t_tup, t_lst, t_bin, t_neg, t_ix, t_sl, t_isi, t_isis, t_iso, t_fld, t_mcl, t_new, t_blt, t_tlt, t_mth, t_call, t_how, t_lc, x_l0, x_l1, x_l2, x_av1, x_av2, x_ov1, x_ov2, x_at1, x_at2, x_ot1, x_ot2, x_p0, x_p1, x_o0, x_o1, x_seq, x_rng1, x_rng2, x_zip, sizeLine_eq, iL_len, setAll, setTg, wipeD, initS, ↓to_lb, ↓to_evl, ↓to_itl, lb_val, lb_exc, lb_none, itl_t, itl_f, evl_val, evl_none, evl_lb, mulW false cs1 w v 200 300 q2 (q3 v (List.of_mem_zip huv).2) (by decide)]; try simp only [of_lb, of_evl, of_itl])
    · rintro sl cs1 ⟨rfl, acc, o6, o7, rfl, ha, _, hf⟩
      have hf : acc = leftF k goal ws hs := hf
      subst hf
      cases hr : leftF k goal ws hs with
      | nil =>
        rw [hr] at ha
        exact absurd (List.length_eq_zero_iff.mp ha.symm) h0
      | cons x r =>
        (simp -implicitDefEqProofs [x_nil, x_cons, x_expr, x_doc, x_pas, x_cont, x_brk, x_ret, x_retN, x_ite, x_set, x_asg, x_sub, x_for, x_raise, x_sfld, x_nev, x_while, x_var, x_int, x_str, x_bl, x_non, x_con, x_tup, x_lst, x_bin, x_neg, x_notv, x_nott, x_andv, x_andt, x_orv, x_ort, x_cmpv, x_cmpt, x_chnv, x_chnt, x_ife, x_ix, x_sl, x_isi, x_isis, x_iso, x_tyiv, x_tyit, x_fld, x_mcl, x_new, x_blt, x_tlt, x_mth, x_call, x_how, x_dl, x_rp, x_lc, t_var, t_int, t_str, t_bl, t_non, t_con, t_tup, t_lst, t_bin, t_neg, t_ix, t_sl, t_isi, t_isis, t_iso, t_fld, t_mcl, t_new, t_blt, t_tlt, t_mth, t_call, t_how, t_lc, x_l0, x_l1, x_l2, x_av1, x_av2, x_ov1, x_ov2, x_at1, x_at2, x_ot1, x_ot2, x_p0, x_p1, x_o0, x_o1, x_seq, x_rng1, x_rng2, x_zip, sizeLine_eq, iL_len, setAll, setTg, wipeD, initS, ↓to_lb, ↓to_evl, ↓to_itl, lb_val, lb_exc, lb_none, itl_t, itl_f, evl_val, evl_none, evl_lb, any_z]; try simp only [of_lb, of_evl, of_itl])
        cases zeroT r
        · (simp -implicitDefEqProofs [x_nil, x_cons, x_expr, x_doc, x_pas, x_cont, x_brk, x_ret, x_retN, x_ite, x_set, x_asg, x_sub, x_for, x_raise, x_sfld, x_nev, x_while, x_var, x_int, x_str, x_bl, x_non, x_con, x_tup, x_lst, x_bin, x_neg, x_notv, x_nott, x_andv, x_andt, x_orv, x_ort, x_cmpv, x_cmpt, x_chnv, x_chnt, x_ife, x_ix, x_sl, x_isi, x_isis, x_iso, x_tyiv, x_tyit, x_fld, x_mcl, x_new, x_blt, x_tlt, x_mth, x_call, x_how, x_dl, x_rp, x_lc, t_var, t_int, t_str, t_bl, t_non, t_con, t_tup, t_lst, t_bin, t_neg, t_ix, t_sl, t_isi, t_isis, t_iso, t_fld, t_mcl, t_new, t_blt, t_tlt, t_mth, t_call, t_how, t_lc, x_l0, x_l1, x_l2, x_av1, x_av2, x_ov1, x_ov2, x_at1, x_at2, x_ot1, x_ot2, x_p0, x_p1, x_o0, x_o1, x_seq, x_rng1, x_rng2, x_zip, sizeLine_eq, iL_len, setAll, setTg, wipeD, initS, ↓to_lb, ↓to_evl, ↓to_itl, lb_val, lb_exc, lb_none, itl_t, itl_f, evl_val, evl_none, evl_lb]; try simp only [of_lb, of_evl, of_itl])
        · (simp -implicitDefEqProofs [x_nil, x_cons, x_expr, x_doc, x_pas, x_cont, x_brk, x_ret, x_retN, x_ite, x_set, x_asg, x_sub, x_for, x_raise, x_sfld, x_nev, x_while, x_var, x_int, x_str, x_bl, x_non, x_con, x_tup, x_lst, x_bin, x_neg, x_notv, x_nott, x_andv, x_andt, x_orv, x_ort, x_cmpv, x_cmpt, x_chnv, x_chnt, x_ife, x_ix, x_sl, x_isi, x_isis, x_iso, x_tyiv, x_tyit, x_fld, x_mcl, x_new, x_blt, x_tlt, x_mth, x_call, x_how, x_dl, x_rp, x_lc, t_var, t_int, t_str, t_bl, t_non, t_con, t_tup, t_lst, t_bin, t_neg, t_ix, t_sl, t_isi, t_isis, t_iso, t_fld, t_mcl, t_new, t_blt, t_tlt, t_mth, t_call, t_how, t_lc, x_l0, x_l1, x_l2, x_av1, x_av2, x_ov1, x_ov2, x_at1, x_at2, x_ot1, x_ot2, x_p0, x_p1, x_o0, x_o1, x_seq, x_rng1, x_rng2, x_zip, sizeLine_eq, iL_len, setAll, setTg, wipeD, initS, ↓to_lb, ↓to_evl, ↓to_itl, lb_val, lb_exc, lb_none, itl_t, itl_f, evl_val, evl_none, evl_lb]; try simp only [of_lb, of_evl, of_itl])
    · refine ⟨rfl, oftF goal k, _, _, rfl, oftF_len _ _, fun p hp => ?_, ?_⟩
      · obtain ⟨p1, p2⟩ := List.of_mem_zip hp
        exact ⟨(hh _ p2).1, (hh _ p2).2, hw _ p1⟩
      · exact (leftF_fold k goal ws hs).symm
  · (simp -implicitDefEqProofs [x_nil, x_cons, x_expr, x_doc, x_pas, x_cont, x_brk, x_ret, x_retN, x_ite, x_set, x_asg, x_sub, x_for, x_raise, x_sfld, x_nev, x_while, x_var, x_int, x_str, x_bl, x_non, x_con, x_tup, x_lst, x_bin, x_neg, x_notv, x_nott, x_andv, x_andt, x_orv, x_ort, x_cmpv, x_cmpt, x_chnv, x_chnt, x_ife, x_ix, x_sl, x_isi, x_isis, x_iso, x_tyiv, x_tyit, x_fld, x_mcl, x_new, x_blt, x_tlt, x_mth, x_call, x_how, x_dl, x_rp, x_lc, t_var, t_int, t_str, t_bl, t_non, t_con, t_tup, t_lst, t_bin, t_neg, t_ix, t_sl, t_isi, t_isis, t_iso, t_fld, t_mcl, t_new, t_blt, t_tlt, t_mth, t_call, t_how, t_lc, x_l0, x_l1, x_l2, x_av1, x_av2, x_ov1, x_ov2, x_at1, x_at2, x_ot1, x_ot2, x_p0, x_p1, x_o0, x_o1, x_seq, x_rng1, x_rng2, x_zip, sizeLine_eq, iL_len, setAll, setTg, wipeD, initS, ↓to_lb, ↓to_evl, ↓to_itl, lb_val, lb_exc, lb_none, itl_t, itl_f, evl_val, evl_none, evl_lb]; try simp only [of_lb, of_evl, of_itl])
  · exact grdN _
  · rw [iL_len]; simp [sizeLine]; omega
  · intro y hy
    obtain ⟨i, rfl, hi⟩ := iL_mem hy
    (simp -implicitDefEqProofs [x_nil, x_cons, x_expr, x_doc, x_pas, x_cont, x_brk, x_ret, x_retN, x_ite, x_set, x_asg, x_sub, x_for, x_raise, x_sfld, x_nev, x_while, x_var, x_int, x_str, x_bl, x_non, x_con, x_tup, x_lst, x_bin, x_neg, x_notv, x_nott, x_andv, x_andt, x_orv, x_ort, x_cmpv, x_cmpt, x_chnv, x_chnt, x_ife, x_ix, x_sl, x_isi, x_isis, x_iso, x_tyiv, x_tyit, x_fld, x_mcl, x_new, x_blt, x_tlt, x_mth, x_call, x_how, x_dl, x_rp, x_lc, t_var, t_int, t_str, t_bl, t_non, t_con, t_tup, t_lst, t_bin, t_neg, t_ix, t_sl, t_isi, t_isis, t_iso, t_fld, t_mcl, t_new, t_blt, t_tlt, t_mth, t_call, t_how, t_lc, x_l0, x_l1, x_l2, x_av1, x_av2, x_ov1, x_ov2, x_at1, x_at2, x_ot1, x_ot2, x_p0, x_p1, x_o0, x_o1, x_seq, x_rng1, x_rng2, x_zip, sizeLine_eq, iL_len, setAll, setTg, wipeD, initS, ↓to_lb, ↓to_evl, ↓to_itl, lb_val, lb_exc, lb_none, itl_t, itl_f, evl_val, evl_none, evl_lb, mulW false cs k i 200 300 hk (hg i hi) (by decide)]; try simp only [of_lb, of_evl, of_itl])
end
section
variable (cs : Cells)
@[simp] theorem s_sum_sum : cmpD .Eq (.str "sum") (.str "sum") cs = some (.val (.bl true), cs) := eq_do cs ((eqD_str cs _ _ (by decide +kernel) (by decide +kernel)).trans (congrArg some (by decide +kernel)))
@[simp] theorem s_sum_never : cmpD .Eq (.str "sum") (.str "never") cs = some (.val (.bl false), cs) := eq_do cs ((eqD_str cs _ _ (by decide +kernel) (by decide +kernel)).trans (congrArg some (by decide +kernel)))
@[simp] theorem s_sum_split : cmpD .Eq (.str "sum") (.str "split") cs = some (.val (.bl false), cs) := eq_do cs ((eqD_str cs _ _ (by decide +kernel) (by decide +kernel)).trans (congrArg some (by decide +kernel)))
@[simp] theorem s_sum_apart : cmpD .Eq (.str "sum") (.str "apart") cs = some (.val (.bl false), cs) := eq_do cs ((eqD_str cs _ _ (by decide +kernel) (by decide +kernel)).trans (congrArg some (by decide +kernel)))
@[simp] theorem s_never_sum : cmpD .Eq (.str "never") (.str "sum") cs = some (.val (.bl false), cs) := eq_do cs ((eqD_str cs _ _ (by decide +kernel) (by decide +kernel)).trans (congrArg some (by decide +kernel)))
@[simp] theorem s_never_never : cmpD .Eq (.str "never") (.str "never") cs = some (.val (.bl true), cs) := eq_do cs ((eqD_str cs _ _ (by decide +kernel) (by decide +kernel)).trans (congrArg some (by decide +kernel)))
@[simp] theorem s_never_split : cmpD .Eq (.str "never") (.str "split") cs = some (.val (.bl false), cs) := eq_do cs ((eqD_str cs _ _ (by decide +kernel) (by decide +kernel)).trans (congrArg some (by decide +kernel)))
@[simp] theorem s_never_apart : cmpD .Eq (.str "never") (.str "apart") cs = some (.val (.bl false), cs) := eq_do cs ((eqD_str cs _ _ (by decide +kernel) (by decide +kernel)).trans (congrArg some (by decide +kernel)))
@[simp] theorem s_split_sum : cmpD .Eq (.str "split") (.str "sum") cs = some (.val (.bl false), cs) := eq_do cs ((eqD_str cs _ _ (by decide +kernel) (by decide +kernel)).trans (congrArg some (by decide +kernel)))
@[simp] theorem s_split_never : cmpD .Eq (.str "split") (.str "never") cs = some (.val (.bl false), cs) := eq_do cs ((eqD_str cs _ _ (by decide +kernel) (by decide +kernel)).trans (congrArg some (by decide +kernel)))
@[simp] theorem s_split_split : cmpD .Eq (.str "split") (.str "split") cs = some (.val (.bl true), cs) := eq_do cs ((eqD_str cs _ _ (by decide +kernel) (by decide +kernel)).trans (congrArg some (by decide +kernel)))
@[simp] theorem s_split_apart : cmpD .Eq (.str "split") (.str "apart") cs = some (.val (.bl false), cs) := eq_do cs ((eqD_str cs _ _ (by decide +kernel) (by decide +kernel)).trans (congrArg some (by decide +kernel)))
@[simp] theorem s_apart_sum : cmpD .Eq (.str "apart") (.str "sum") cs = some (.val (.bl false), cs) := eq_do cs ((eqD_str cs _ _ (by decide +kernel) (by decide +kernel)).trans (congrArg some (by decide +kernel)))
@[simp] theorem s_apart_never : cmpD .Eq (.str "apart") (.str "never") cs = some (.val (.bl false), cs) := eq_do cs ((eqD_str cs _ _ (by decide +kernel) (by decide +kernel)).trans (congrArg some (by decide +kernel)))
@[simp] theorem s_apart_split : cmpD .Eq (.str "apart") (.str "split") cs = some (.val (.bl false), cs) := eq_do cs ((eqD_str cs _ _ (by decide +kernel) (by decide +kernel)).trans (congrArg some (by decide +kernel)))
@[simp] theorem s_apart_apart : cmpD .Eq (.str "apart") (.str "apart") cs = some (.val (.bl true), cs) := eq_do cs ((eqD_str cs _ _ (by decide +kernel) (by decide +kernel)).trans (congrArg some (by decide +kernel)))
end
end EV

namespace EV
open PySem PySem.Spec PyProof.Rows L2 ZG
theorem get_last (cs : Cells) (c : Cell) : (cs ++ [c])[cs.length]? = some c := by simp
theorem set_last (cs : Cells) (c c' : Cell) : (cs ++ [c]).set cs.length c' = cs ++ [c'] := by
  rw [List.set_append_right _ _ (Nat.le_refl _)]
  simp
theorem fput_last (fl : Nat → Nat → Bool) (k c : Nat) (ks : List Nat) (ds : List D) (v : D) (cs : Cells) (h : fl c k = true) (hl : ks.length < 1000) : fputD fl k (.ref cs.length) v (cs ++ [.ins c ks ds]) = some (.val (), cs ++ [.ins c (putK k ks) (putA k v ks ds)]) := by
  unfold fputD
  dsimp only
  rw [get_last]
  dsimp only
  rw [if_pos ⟨h, hl⟩, set_last]
@[simp] theorem clean_hD (n : Nat) : ∀ hs : List (List Int), cleanA n (hD hs) = true
  | [] => rfl
  | h :: hs => by
    have := clean_hD n hs
    simp only [hD, List.map_cons, cleanA, clean, clean_iL, Bool.true_and] at this ⊢
    exact this
abbrev LI (L : Int) (un : List (List Int)) (goal : List Int) : D := .ins 21 [66, 88, 135, 72] [FI, .int L, .lst (hD un), .tup (iL goal)]
section
variable (n : Nat) (cs : Cells)
theorem look_mk {L : Int} {un : List (List Int)} {goal : List Int} (hc : cs.all (cleanC 0) = true) : newD false (SM (n+1) i_Look__init__) 21 [FI, .int L, .lst (hD un), .tup (iL goal)] cs = some (.val (LI L un goal), cs) := by
  refine newD_good cs ?_ ?_ (all_mono hc _)
  · rw [e_Look__init__, b_Look__init__]
    (simp -implicitDefEqProofs [x_nil, x_cons, x_expr, x_doc, x_pas, x_cont, x_brk, x_ret, x_retN, x_ite, x_set, x_asg, x_sub, x_for, x_raise, x_sfld, x_nev, x_while, x_var, x_int, x_str, x_bl, x_non, x_con, x_tup, x_lst, x_bin, x_neg, x_notv, x_nott, x_andv, x_andt, x_orv, x_ort, x_cmpv, x_cmpt, x_chnv, x_chnt, x_ife, x_ix, x_sl, x_isi, x_isis, x_iso, x_tyiv, x_tyit, x_fld, x_mcl, x_new, x_blt, x_tlt, x_mth, x_call, x_how, x_dl, x_rp, x_lc, t_var, t_int, t_str, t_bl, t_non, t_con, t_tup, t_lst, t_bin, t_neg, t_ix, t_sl, t_isi, t_isis, t_iso, t_fld, t_mcl, t_new, t_blt, t_tlt, t_mth, t_call, t_how, t_lc, x_l0, x_l1, x_l2, x_av1, x_av2, x_ov1, x_ov2, x_at1, x_at2, x_ot1, x_ot2, x_p0, x_p1, x_o0, x_o1, x_seq, x_rng1, x_rng2, x_zip, sizeLine_eq, iL_len, setAll, setTg, wipeD, initS, ↓to_lb, ↓to_evl, ↓to_itl, lb_val, lb_exc, lb_none, itl_t, itl_f, evl_val, evl_none, evl_lb, fput_last, putK, putA]; try simp only [of_lb, of_evl, of_itl])
  · simp [cleanA, clean]
theorem sum_shows_ {L k : Int} {un : List (List Int)} {goal ws : List Int} {hs : List (List Int)} (h0 : goal ≠ []) (hL : goal.length ≤ 1000) (hg : BndF 300 goal) (hh : ∀ h ∈ hs, h.length = goal.length ∧ BndF 300 h) (hw : ∀ w ∈ ws, w.natAbs < 2 ^ 200) (hk : k.natAbs < 2 ^ 200) :
    SM (n+2) i_Look__sum_shows [LI L un goal, .int k, .lst (iL ws), .lst (hD hs)] cs = some (.val (.bl (sumM k ws hs goal)), cs) := by
  rw [e_Look__sum_shows, b_Look__sum_shows]
  unfold sumM
  by_cases c : ws.length = hs.length
  · have W := left_ n cs h0 hL hg hh hw hk
    (simp -implicitDefEqProofs [x_nil, x_cons, x_expr, x_doc, x_pas, x_cont, x_brk, x_ret, x_retN, x_ite, x_set, x_asg, x_sub, x_for, x_raise, x_sfld, x_nev, x_while, x_var, x_int, x_str, x_bl, x_non, x_con, x_tup, x_lst, x_bin, x_neg, x_notv, x_nott, x_andv, x_andt, x_orv, x_ort, x_cmpv, x_cmpt, x_chnv, x_chnt, x_ife, x_ix, x_sl, x_isi, x_isis, x_iso, x_tyiv, x_tyit, x_fld, x_mcl, x_new, x_blt, x_tlt, x_mth, x_call, x_how, x_dl, x_rp, x_lc, t_var, t_int, t_str, t_bl, t_non, t_con, t_tup, t_lst, t_bin, t_neg, t_ix, t_sl, t_isi, t_isis, t_iso, t_fld, t_mcl, t_new, t_blt, t_tlt, t_mth, t_call, t_how, t_lc, x_l0, x_l1, x_l2, x_av1, x_av2, x_ov1, x_ov2, x_at1, x_at2, x_ot1, x_ot2, x_p0, x_p1, x_o0, x_o1, x_seq, x_rng1, x_rng2, x_zip, sizeLine_eq, iL_len, setAll, setTg, wipeD, initS, ↓to_lb, ↓to_evl, ↓to_itl, lb_val, lb_exc, lb_none, itl_t, itl_f, evl_val, evl_none, evl_lb, hD_len, c, W]; try simp only [of_lb, of_evl, of_itl])
    cases zeroT (leftF k goal ws hs).tail
    · (simp -implicitDefEqProofs [x_nil, x_cons, x_expr, x_doc, x_pas, x_cont, x_brk, x_ret, x_retN, x_ite, x_set, x_asg, x_sub, x_for, x_raise, x_sfld, x_nev, x_while, x_var, x_int, x_str, x_bl, x_non, x_con, x_tup, x_lst, x_bin, x_neg, x_notv, x_nott, x_andv, x_andt, x_orv, x_ort, x_cmpv, x_cmpt, x_chnv, x_chnt, x_ife, x_ix, x_sl, x_isi, x_isis, x_iso, x_tyiv, x_tyit, x_fld, x_mcl, x_new, x_blt, x_tlt, x_mth, x_call, x_how, x_dl, x_rp, x_lc, t_var, t_int, t_str, t_bl, t_non, t_con, t_tup, t_lst, t_bin, t_neg, t_ix, t_sl, t_isi, t_isis, t_iso, t_fld, t_mcl, t_new, t_blt, t_tlt, t_mth, t_call, t_how, t_lc, x_l0, x_l1, x_l2, x_av1, x_av2, x_ov1, x_ov2, x_at1, x_at2, x_ot1, x_ot2, x_p0, x_p1, x_o0, x_o1, x_seq, x_rng1, x_rng2, x_zip, sizeLine_eq, iL_len, setAll, setTg, wipeD, initS, ↓to_lb, ↓to_evl, ↓to_itl, lb_val, lb_exc, lb_none, itl_t, itl_f, evl_val, evl_none, evl_lb]; try simp only [of_lb, of_evl, of_itl])
    · (simp -implicitDefEqProofs [x_nil, x_cons, x_expr, x_doc, x_pas, x_cont, x_brk, x_ret, x_retN, x_ite, x_set, x_asg, x_sub, x_for, x_raise, x_sfld, x_nev, x_while, x_var, x_int, x_str, x_bl, x_non, x_con, x_tup, x_lst, x_bin, x_neg, x_notv, x_nott, x_andv, x_andt, x_orv, x_ort, x_cmpv, x_cmpt, x_chnv, x_chnt, x_ife, x_ix, x_sl, x_isi, x_isis, x_iso, x_tyiv, x_tyit, x_fld, x_mcl, x_new, x_blt, x_tlt, x_mth, x_call, x_how, x_dl, x_rp, x_lc, t_var, t_int, t_str, t_bl, t_non, t_con, t_tup, t_lst, t_bin, t_neg, t_ix, t_sl, t_isi, t_isis, t_iso, t_fld, t_mcl, t_new, t_blt, t_tlt, t_mth, t_call, t_how, t_lc, x_l0, x_l1, x_l2, x_av1, x_av2, x_ov1, x_ov2, x_at1, x_at2, x_ot1, x_ot2, x_p0, x_p1, x_o0, x_o1, x_seq, x_rng1, x_rng2, x_zip, sizeLine_eq, iL_len, setAll, setTg, wipeD, initS, ↓to_lb, ↓to_evl, ↓to_itl, lb_val, lb_exc, lb_none, itl_t, itl_f, evl_val, evl_none, evl_lb]; try simp only [of_lb, of_evl, of_itl])
  · have c2 : ¬ (ws.length : Int) = (hs.length : Int) := by omega
    (simp -implicitDefEqProofs [x_nil, x_cons, x_expr, x_doc, x_pas, x_cont, x_brk, x_ret, x_retN, x_ite, x_set, x_asg, x_sub, x_for, x_raise, x_sfld, x_nev, x_while, x_var, x_int, x_str, x_bl, x_non, x_con, x_tup, x_lst, x_bin, x_neg, x_notv, x_nott, x_andv, x_andt, x_orv, x_ort, x_cmpv, x_cmpt, x_chnv, x_chnt, x_ife, x_ix, x_sl, x_isi, x_isis, x_iso, x_tyiv, x_tyit, x_fld, x_mcl, x_new, x_blt, x_tlt, x_mth, x_call, x_how, x_dl, x_rp, x_lc, t_var, t_int, t_str, t_bl, t_non, t_con, t_tup, t_lst, t_bin, t_neg, t_ix, t_sl, t_isi, t_isis, t_iso, t_fld, t_mcl, t_new, t_blt, t_tlt, t_mth, t_call, t_how, t_lc, x_l0, x_l1, x_l2, x_av1, x_av2, x_ov1, x_ov2, x_at1, x_at2, x_ot1, x_ot2, x_p0, x_p1, x_o0, x_o1, x_seq, x_rng1, x_rng2, x_zip, sizeLine_eq, iL_len, setAll, setTg, wipeD, initS, ↓to_lb, ↓to_evl, ↓to_itl, lb_val, lb_exc, lb_none, itl_t, itl_f, evl_val, evl_none, evl_lb, hD_len, c, c2]; try simp only [of_lb, of_evl, of_itl])
theorem never_shows_ {L : Int} {un : List (List Int)} {goal ws : List Int} {hs : List (List Int)} (h0 : goal ≠ []) (hL : goal.length ≤ 1000) (hg : BndF 300 goal) (hh : ∀ h ∈ hs, h.length = goal.length ∧ BndF 300 h) (hw : ∀ w ∈ ws, w.natAbs < 2 ^ 200) :
    SM (n+2) i_Look__never_shows [LI L un goal, .lst (iL ws), .lst (hD hs)] cs = some (.val (.bl (nevM ws hs goal)), cs) := by
  rw [e_Look__never_shows, b_Look__never_shows]
  unfold nevM
  by_cases c : ws.length = hs.length
  · have W := left_ n cs (k := 0) h0 hL hg hh hw (by decide)
    (simp -implicitDefEqProofs [x_nil, x_cons, x_expr, x_doc, x_pas, x_cont, x_brk, x_ret, x_retN, x_ite, x_set, x_asg, x_sub, x_for, x_raise, x_sfld, x_nev, x_while, x_var, x_int, x_str, x_bl, x_non, x_con, x_tup, x_lst, x_bin, x_neg, x_notv, x_nott, x_andv, x_andt, x_orv, x_ort, x_cmpv, x_cmpt, x_chnv, x_chnt, x_ife, x_ix, x_sl, x_isi, x_isis, x_iso, x_tyiv, x_tyit, x_fld, x_mcl, x_new, x_blt, x_tlt, x_mth, x_call, x_how, x_dl, x_rp, x_lc, t_var, t_int, t_str, t_bl, t_non, t_con, t_tup, t_lst, t_bin, t_neg, t_ix, t_sl, t_isi, t_isis, t_iso, t_fld, t_mcl, t_new, t_blt, t_tlt, t_mth, t_call, t_how, t_lc, x_l0, x_l1, x_l2, x_av1, x_av2, x_ov1, x_ov2, x_at1, x_at2, x_ot1, x_ot2, x_p0, x_p1, x_o0, x_o1, x_seq, x_rng1, x_rng2, x_zip, sizeLine_eq, iL_len, setAll, setTg, wipeD, initS, ↓to_lb, ↓to_evl, ↓to_itl, lb_val, lb_exc, lb_none, itl_t, itl_f, evl_val, evl_none, evl_lb, hD_len, c, W]; try simp only [of_lb, of_evl, of_itl])
    cases zeroT (leftF 0 goal ws hs).tail
    · (simp -implicitDefEqProofs [x_nil, x_cons, x_expr, x_doc, x_pas, x_cont, x_brk, x_ret, x_retN, x_ite, x_set, x_asg, x_sub, x_for, x_raise, x_sfld, x_nev, x_while, x_var, x_int, x_str, x_bl, x_non, x_con, x_tup, x_lst, x_bin, x_neg, x_notv, x_nott, x_andv, x_andt, x_orv, x_ort, x_cmpv, x_cmpt, x_chnv, x_chnt, x_ife, x_ix, x_sl, x_isi, x_isis, x_iso, x_tyiv, x_tyit, x_fld, x_mcl, x_new, x_blt, x_tlt, x_mth, x_call, x_how, x_dl, x_rp, x_lc, t_var, t_int, t_str, t_bl, t_non, t_con, t_tup, t_lst, t_bin, t_neg, t_ix, t_sl, t_isi, t_isis, t_iso, t_fld, t_mcl, t_new, t_blt, t_tlt, t_mth, t_call, t_how, t_lc, x_l0, x_l1, x_l2, x_av1, x_av2, x_ov1, x_ov2, x_at1, x_at2, x_ot1, x_ot2, x_p0, x_p1, x_o0, x_o1, x_seq, x_rng1, x_rng2, x_zip, sizeLine_eq, iL_len, setAll, setTg, wipeD, initS, ↓to_lb, ↓to_evl, ↓to_itl, lb_val, lb_exc, lb_none, itl_t, itl_f, evl_val, evl_none, evl_lb]; try simp only [of_lb, of_evl, of_itl])
    · (simp -implicitDefEqProofs [x_nil, x_cons, x_expr, x_doc, x_pas, x_cont, x_brk, x_ret, x_retN, x_ite, x_set, x_asg, x_sub, x_for, x_raise, x_sfld, x_nev, x_while, x_var, x_int, x_str, x_bl, x_non, x_con, x_tup, x_lst, x_bin, x_neg, x_notv, x_nott, x_andv, x_andt, x_orv, x_ort, x_cmpv, x_cmpt, x_chnv, x_chnt, x_ife, x_ix, x_sl, x_isi, x_isis, x_iso, x_tyiv, x_tyit, x_fld, x_mcl, x_new, x_blt, x_tlt, x_mth, x_call, x_how, x_dl, x_rp, x_lc, t_var, t_int, t_str, t_bl, t_non, t_con, t_tup, t_lst, t_bin, t_neg, t_ix, t_sl, t_isi, t_isis, t_iso, t_fld, t_mcl, t_new, t_blt, t_tlt, t_mth, t_call, t_how, t_lc, x_l0, x_l1, x_l2, x_av1, x_av2, x_ov1, x_ov2, x_at1, x_at2, x_ot1, x_ot2, x_p0, x_p1, x_o0, x_o1, x_seq, x_rng1, x_rng2, x_zip, sizeLine_eq, iL_len, setAll, setTg, wipeD, initS, ↓to_lb, ↓to_evl, ↓to_itl, lb_val, lb_exc, lb_none, itl_t, itl_f, evl_val, evl_none, evl_lb]; try simp only [of_lb, of_evl, of_itl])
  · have c2 : ¬ (ws.length : Int) = (hs.length : Int) := by omega
    (simp -implicitDefEqProofs [x_nil, x_cons, x_expr, x_doc, x_pas, x_cont, x_brk, x_ret, x_retN, x_ite, x_set, x_asg, x_sub, x_for, x_raise, x_sfld, x_nev, x_while, x_var, x_int, x_str, x_bl, x_non, x_con, x_tup, x_lst, x_bin, x_neg, x_notv, x_nott, x_andv, x_andt, x_orv, x_ort, x_cmpv, x_cmpt, x_chnv, x_chnt, x_ife, x_ix, x_sl, x_isi, x_isis, x_iso, x_tyiv, x_tyit, x_fld, x_mcl, x_new, x_blt, x_tlt, x_mth, x_call, x_how, x_dl, x_rp, x_lc, t_var, t_int, t_str, t_bl, t_non, t_con, t_tup, t_lst, t_bin, t_neg, t_ix, t_sl, t_isi, t_isis, t_iso, t_fld, t_mcl, t_new, t_blt, t_tlt, t_mth, t_call, t_how, t_lc, x_l0, x_l1, x_l2, x_av1, x_av2, x_ov1, x_ov2, x_at1, x_at2, x_ot1, x_ot2, x_p0, x_p1, x_o0, x_o1, x_seq, x_rng1, x_rng2, x_zip, sizeLine_eq, iL_len, setAll, setTg, wipeD, initS, ↓to_lb, ↓to_evl, ↓to_itl, lb_val, lb_exc, lb_none, itl_t, itl_f, evl_val, evl_none, evl_lb, hD_len, c, c2]; try simp only [of_lb, of_evl, of_itl])
theorem further_ {f : List Int} {a : Nat} (h0 : f ≠ []) (hl : f.length ≤ 1000) (hf : BndF a f) (ha : a < 900000) : SM (n+6) i_Forms_further [FI, .tup (iL f)] cs = some (.val (.tup [.tup (iL f), .tup (iL (conF f))]), cs) := by
  rw [e_Forms_further, b_Forms_further]
  (simp -implicitDefEqProofs [x_nil, x_cons, x_expr, x_doc, x_pas, x_cont, x_brk, x_ret, x_retN, x_ite, x_set, x_asg, x_sub, x_for, x_raise, x_sfld, x_nev, x_while, x_var, x_int, x_str, x_bl, x_non, x_con, x_tup, x_lst, x_bin, x_neg, x_notv, x_nott, x_andv, x_andt, x_orv, x_ort, x_cmpv, x_cmpt, x_chnv, x_chnt, x_ife, x_ix, x_sl, x_isi, x_isis, x_iso, x_tyiv, x_tyit, x_fld, x_mcl, x_new, x_blt, x_tlt, x_mth, x_call, x_how, x_dl, x_rp, x_lc, t_var, t_int, t_str, t_bl, t_non, t_con, t_tup, t_lst, t_bin, t_neg, t_ix, t_sl, t_isi, t_isis, t_iso, t_fld, t_mcl, t_new, t_blt, t_tlt, t_mth, t_call, t_how, t_lc, x_l0, x_l1, x_l2, x_av1, x_av2, x_ov1, x_ov2, x_at1, x_at2, x_ot1, x_ot2, x_p0, x_p1, x_o0, x_o1, x_seq, x_rng1, x_rng2, x_zip, sizeLine_eq, iL_len, setAll, setTg, wipeD, initS, ↓to_lb, ↓to_evl, ↓to_itl, lb_val, lb_exc, lb_none, itl_t, itl_f, evl_val, evl_none, evl_lb, contrary_ n cs h0 hl hf ha]; try simp only [of_lb, of_evl, of_itl])
end
section
variable (n : Nat) (cs : Cells)
theorem sides_ {f : List Int} {a : Nat} (h0 : f ≠ []) (hl : f.length ≤ 1000) (hf : BndF a f) (ha : a < 900000) : SM (n+6) i_sides_of [.tup (iL f)] cs = some (.val (.tup [.tup (iL (sideF f)), .tup (iL (conF f))]), cs) := by
  rw [e_sides_of, b_sides_of]
  have := contrary_ n cs h0 hl hf ha
  cases f with
  | nil => exact absurd rfl h0
  | cons x r =>
    simp only [List.length_cons] at hl
    (simp -implicitDefEqProofs [x_nil, x_cons, x_expr, x_doc, x_pas, x_cont, x_brk, x_ret, x_retN, x_ite, x_set, x_asg, x_sub, x_for, x_raise, x_sfld, x_nev, x_while, x_var, x_int, x_str, x_bl, x_non, x_con, x_tup, x_lst, x_bin, x_neg, x_notv, x_nott, x_andv, x_andt, x_orv, x_ort, x_cmpv, x_cmpt, x_chnv, x_chnt, x_ife, x_ix, x_sl, x_isi, x_isis, x_iso, x_tyiv, x_tyit, x_fld, x_mcl, x_new, x_blt, x_tlt, x_mth, x_call, x_how, x_dl, x_rp, x_lc, t_var, t_int, t_str, t_bl, t_non, t_con, t_tup, t_lst, t_bin, t_neg, t_ix, t_sl, t_isi, t_isis, t_iso, t_fld, t_mcl, t_new, t_blt, t_tlt, t_mth, t_call, t_how, t_lc, x_l0, x_l1, x_l2, x_av1, x_av2, x_ov1, x_ov2, x_at1, x_at2, x_ot1, x_ot2, x_p0, x_p1, x_o0, x_o1, x_seq, x_rng1, x_rng2, x_zip, sizeLine_eq, iL_len, setAll, setTg, wipeD, initS, ↓to_lb, ↓to_evl, ↓to_itl, lb_val, lb_exc, lb_none, itl_t, itl_f, evl_val, evl_none, evl_lb, this, sideF, show r.length ≤ 16777215 by omega]; try simp only [of_lb, of_evl, of_itl])
    rfl
theorem parted_ {f : List Int} {a : Nat} (h0 : f ≠ []) (hl : f.length ≤ 1000) (hf : BndF a f) (ha : a < 900000) : SM (n+7) i_Forms_parted [FI, .tup (iL f)] cs = some (.val (.tup [.tup (iL (sideF f)), .tup (iL (conF f))]), cs) := by
  rw [e_Forms_parted, b_Forms_parted]
  (simp -implicitDefEqProofs [x_nil, x_cons, x_expr, x_doc, x_pas, x_cont, x_brk, x_ret, x_retN, x_ite, x_set, x_asg, x_sub, x_for, x_raise, x_sfld, x_nev, x_while, x_var, x_int, x_str, x_bl, x_non, x_con, x_tup, x_lst, x_bin, x_neg, x_notv, x_nott, x_andv, x_andt, x_orv, x_ort, x_cmpv, x_cmpt, x_chnv, x_chnt, x_ife, x_ix, x_sl, x_isi, x_isis, x_iso, x_tyiv, x_tyit, x_fld, x_mcl, x_new, x_blt, x_tlt, x_mth, x_call, x_how, x_dl, x_rp, x_lc, t_var, t_int, t_str, t_bl, t_non, t_con, t_tup, t_lst, t_bin, t_neg, t_ix, t_sl, t_isi, t_isis, t_iso, t_fld, t_mcl, t_new, t_blt, t_tlt, t_mth, t_call, t_how, t_lc, x_l0, x_l1, x_l2, x_av1, x_av2, x_ov1, x_ov2, x_at1, x_at2, x_ot1, x_ot2, x_p0, x_p1, x_o0, x_o1, x_seq, x_rng1, x_rng2, x_zip, sizeLine_eq, iL_len, setAll, setTg, wipeD, initS, ↓to_lb, ↓to_evl, ↓to_itl, lb_val, lb_exc, lb_none, itl_t, itl_f, evl_val, evl_none, evl_lb, sides_ n cs h0 hl hf ha]; try simp only [of_lb, of_evl, of_itl])
end
end EV

namespace EV
open PySem PySem.Spec PyProof.Rows L2 ZG
section
variable (n : Nat) (cs : Cells)
theorem ok_words : PyData.strOk ("sum" : Str) = true ∧ PyData.strOk ("never" : Str) = true ∧ PyData.strOk ("split" : Str) = true ∧ PyData.strOk ("apart" : Str) = true := by decide +kernel
theorem are_weights_ {m : Nat} {d : D} (h : kd m d = true) : SM (n+1) i__are_weights [d] cs = some (.val (.bl (isWts d)), cs) := by
  rw [e__are_weights, b__are_weights]
  cases d with
  | lst ws =>
    obtain ⟨k, rfl, hl, h2⟩ := kd_lst h
    obtain ⟨o', e⟩ := for_all (i := 1) (cs := cs) (body := rns (TB n) (.cons (.ite (.or (.cons (.tyi true (.var 1) "int") (.cons (.cmp .Lt (.var 1) (.int 0)) .nil))) (.cons (.ret (.bl false)) .nil) .nil) .nil)) (fun o => [some (.lst ws), o]) (fun _ _ => rfl) isWt ws (fun x hx => by
      have kx := kd_known (h2 x hx)
      have ty := tyi_t kx cs
      cases x with
      | int i =>
        by_cases c : i < 0
        · have c2 : ¬ 0 ≤ i := by omega
          (simp -implicitDefEqProofs [x_nil, x_cons, x_expr, x_doc, x_pas, x_cont, x_brk, x_ret, x_retN, x_ite, x_set, x_asg, x_sub, x_for, x_raise, x_sfld, x_nev, x_while, x_var, x_int, x_str, x_bl, x_non, x_con, x_tup, x_lst, x_bin, x_neg, x_notv, x_nott, x_andv, x_andt, x_orv, x_ort, x_cmpv, x_cmpt, x_chnv, x_chnt, x_ife, x_ix, x_sl, x_isi, x_isis, x_iso, x_tyiv, x_tyit, x_fld, x_mcl, x_new, x_blt, x_tlt, x_mth, x_call, x_how, x_dl, x_rp, x_lc, t_var, t_int, t_str, t_bl, t_non, t_con, t_tup, t_lst, t_bin, t_neg, t_ix, t_sl, t_isi, t_isis, t_iso, t_fld, t_mcl, t_new, t_blt, t_tlt, t_mth, t_call, t_how, t_lc, x_l0, x_l1, x_l2, x_av1, x_av2, x_ov1, x_ov2, x_at1, x_at2, x_ot1, x_ot2, x_p0, x_p1, x_o0, x_o1, x_seq, x_rng1, x_rng2, x_zip, sizeLine_eq, iL_len, setAll, setTg, wipeD, initS, ↓to_lb, ↓to_evl, ↓to_itl, lb_val, lb_exc, lb_none, itl_t, itl_f, evl_val, evl_none, evl_lb, c, isWt, c2]; try simp only [of_lb, of_evl, of_itl])
        · have c2 : 0 ≤ i := by omega
          (simp -implicitDefEqProofs [x_nil, x_cons, x_expr, x_doc, x_pas, x_cont, x_brk, x_ret, x_retN, x_ite, x_set, x_asg, x_sub, x_for, x_raise, x_sfld, x_nev, x_while, x_var, x_int, x_str, x_bl, x_non, x_con, x_tup, x_lst, x_bin, x_neg, x_notv, x_nott, x_andv, x_andt, x_orv, x_ort, x_cmpv, x_cmpt, x_chnv, x_chnt, x_ife, x_ix, x_sl, x_isi, x_isis, x_iso, x_tyiv, x_tyit, x_fld, x_mcl, x_new, x_blt, x_tlt, x_mth, x_call, x_how, x_dl, x_rp, x_lc, t_var, t_int, t_str, t_bl, t_non, t_con, t_tup, t_lst, t_bin, t_neg, t_ix, t_sl, t_isi, t_isis, t_iso, t_fld, t_mcl, t_new, t_blt, t_tlt, t_mth, t_call, t_how, t_lc, x_l0, x_l1, x_l2, x_av1, x_av2, x_ov1, x_ov2, x_at1, x_at2, x_ot1, x_ot2, x_p0, x_p1, x_o0, x_o1, x_seq, x_rng1, x_rng2, x_zip, sizeLine_eq, iL_len, setAll, setTg, wipeD, initS, ↓to_lb, ↓to_evl, ↓to_itl, lb_val, lb_exc, lb_none, itl_t, itl_f, evl_val, evl_none, evl_lb, c, isWt, c2]; try simp only [of_lb, of_evl, of_itl])
      | non => (simp -implicitDefEqProofs [x_nil, x_cons, x_expr, x_doc, x_pas, x_cont, x_brk, x_ret, x_retN, x_ite, x_set, x_asg, x_sub, x_for, x_raise, x_sfld, x_nev, x_while, x_var, x_int, x_str, x_bl, x_non, x_con, x_tup, x_lst, x_bin, x_neg, x_notv, x_nott, x_andv, x_andt, x_orv, x_ort, x_cmpv, x_cmpt, x_chnv, x_chnt, x_ife, x_ix, x_sl, x_isi, x_isis, x_iso, x_tyiv, x_tyit, x_fld, x_mcl, x_new, x_blt, x_tlt, x_mth, x_call, x_how, x_dl, x_rp, x_lc, t_var, t_int, t_str, t_bl, t_non, t_con, t_tup, t_lst, t_bin, t_neg, t_ix, t_sl, t_isi, t_isis, t_iso, t_fld, t_mcl, t_new, t_blt, t_tlt, t_mth, t_call, t_how, t_lc, x_l0, x_l1, x_l2, x_av1, x_av2, x_ov1, x_ov2, x_at1, x_at2, x_ot1, x_ot2, x_p0, x_p1, x_o0, x_o1, x_seq, x_rng1, x_rng2, x_zip, sizeLine_eq, iL_len, setAll, setTg, wipeD, initS, ↓to_lb, ↓to_evl, ↓to_itl, lb_val, lb_exc, lb_none, itl_t, itl_f, evl_val, evl_none, evl_lb, ty, isI, isWt]; try simp only [of_lb, of_evl, of_itl])
      | bl _ => (simp -implicitDefEqProofs [x_nil, x_cons, x_expr, x_doc, x_pas, x_cont, x_brk, x_ret, x_retN, x_ite, x_set, x_asg, x_sub, x_for, x_raise, x_sfld, x_nev, x_while, x_var, x_int, x_str, x_bl, x_non, x_con, x_tup, x_lst, x_bin, x_neg, x_notv, x_nott, x_andv, x_andt, x_orv, x_ort, x_cmpv, x_cmpt, x_chnv, x_chnt, x_ife, x_ix, x_sl, x_isi, x_isis, x_iso, x_tyiv, x_tyit, x_fld, x_mcl, x_new, x_blt, x_tlt, x_mth, x_call, x_how, x_dl, x_rp, x_lc, t_var, t_int, t_str, t_bl, t_non, t_con, t_tup, t_lst, t_bin, t_neg, t_ix, t_sl, t_isi, t_isis, t_iso, t_fld, t_mcl, t_new, t_blt, t_tlt, t_mth, t_call, t_how, t_lc, x_l0, x_l1, x_l2, x_av1, x_av2, x_ov1, x_ov2, x_at1, x_at2, x_ot1, x_ot2, x_p0, x_p1, x_o0, x_o1, x_seq, x_rng1, x_rng2, x_zip, sizeLine_eq, iL_len, setAll, setTg, wipeD, initS, ↓to_lb, ↓to_evl, ↓to_itl, lb_val, lb_exc, lb_none, itl_t, itl_f, evl_val, evl_none, evl_lb, ty, isI, isWt]; try simp only [of_lb, of_evl, of_itl])
      | str _ => (simp -implicitDefEqProofs [x_nil, x_cons, x_expr, x_doc, x_pas, x_cont, x_brk, x_ret, x_retN, x_ite, x_set, x_asg, x_sub, x_for, x_raise, x_sfld, x_nev, x_while, x_var, x_int, x_str, x_bl, x_non, x_con, x_tup, x_lst, x_bin, x_neg, x_notv, x_nott, x_andv, x_andt, x_orv, x_ort, x_cmpv, x_cmpt, x_chnv, x_chnt, x_ife, x_ix, x_sl, x_isi, x_isis, x_iso, x_tyiv, x_tyit, x_fld, x_mcl, x_new, x_blt, x_tlt, x_mth, x_call, x_how, x_dl, x_rp, x_lc, t_var, t_int, t_str, t_bl, t_non, t_con, t_tup, t_lst, t_bin, t_neg, t_ix, t_sl, t_isi, t_isis, t_iso, t_fld, t_mcl, t_new, t_blt, t_tlt, t_mth, t_call, t_how, t_lc, x_l0, x_l1, x_l2, x_av1, x_av2, x_ov1, x_ov2, x_at1, x_at2, x_ot1, x_ot2, x_p0, x_p1, x_o0, x_o1, x_seq, x_rng1, x_rng2, x_zip, sizeLine_eq, iL_len, setAll, setTg, wipeD, initS, ↓to_lb, ↓to_evl, ↓to_itl, lb_val, lb_exc, lb_none, itl_t, itl_f, evl_val, evl_none, evl_lb, ty, isI, isWt]; try simp only [of_lb, of_evl, of_itl])
      | tup _ => (simp -implicitDefEqProofs [x_nil, x_cons, x_expr, x_doc, x_pas, x_cont, x_brk, x_ret, x_retN, x_ite, x_set, x_asg, x_sub, x_for, x_raise, x_sfld, x_nev, x_while, x_var, x_int, x_str, x_bl, x_non, x_con, x_tup, x_lst, x_bin, x_neg, x_notv, x_nott, x_andv, x_andt, x_orv, x_ort, x_cmpv, x_cmpt, x_chnv, x_chnt, x_ife, x_ix, x_sl, x_isi, x_isis, x_iso, x_tyiv, x_tyit, x_fld, x_mcl, x_new, x_blt, x_tlt, x_mth, x_call, x_how, x_dl, x_rp, x_lc, t_var, t_int, t_str, t_bl, t_non, t_con, t_tup, t_lst, t_bin, t_neg, t_ix, t_sl, t_isi, t_isis, t_iso, t_fld, t_mcl, t_new, t_blt, t_tlt, t_mth, t_call, t_how, t_lc, x_l0, x_l1, x_l2, x_av1, x_av2, x_ov1, x_ov2, x_at1, x_at2, x_ot1, x_ot2, x_p0, x_p1, x_o0, x_o1, x_seq, x_rng1, x_rng2, x_zip, sizeLine_eq, iL_len, setAll, setTg, wipeD, initS, ↓to_lb, ↓to_evl, ↓to_itl, lb_val, lb_exc, lb_none, itl_t, itl_f, evl_val, evl_none, evl_lb, ty, isI, isWt]; try simp only [of_lb, of_evl, of_itl])
      | lst _ => (simp -implicitDefEqProofs [x_nil, x_cons, x_expr, x_doc, x_pas, x_cont, x_brk, x_ret, x_retN, x_ite, x_set, x_asg, x_sub, x_for, x_raise, x_sfld, x_nev, x_while, x_var, x_int, x_str, x_bl, x_non, x_con, x_tup, x_lst, x_bin, x_neg, x_notv, x_nott, x_andv, x_andt, x_orv, x_ort, x_cmpv, x_cmpt, x_chnv, x_chnt, x_ife, x_ix, x_sl, x_isi, x_isis, x_iso, x_tyiv, x_tyit, x_fld, x_mcl, x_new, x_blt, x_tlt, x_mth, x_call, x_how, x_dl, x_rp, x_lc, t_var, t_int, t_str, t_bl, t_non, t_con, t_tup, t_lst, t_bin, t_neg, t_ix, t_sl, t_isi, t_isis, t_iso, t_fld, t_mcl, t_new, t_blt, t_tlt, t_mth, t_call, t_how, t_lc, x_l0, x_l1, x_l2, x_av1, x_av2, x_ov1, x_ov2, x_at1, x_at2, x_ot1, x_ot2, x_p0, x_p1, x_o0, x_o1, x_seq, x_rng1, x_rng2, x_zip, sizeLine_eq, iL_len, setAll, setTg, wipeD, initS, ↓to_lb, ↓to_evl, ↓to_itl, lb_val, lb_exc, lb_none, itl_t, itl_f, evl_val, evl_none, evl_lb, ty, isI, isWt]; try simp only [of_lb, of_evl, of_itl])
      | frz _ => (simp -implicitDefEqProofs [x_nil, x_cons, x_expr, x_doc, x_pas, x_cont, x_brk, x_ret, x_retN, x_ite, x_set, x_asg, x_sub, x_for, x_raise, x_sfld, x_nev, x_while, x_var, x_int, x_str, x_bl, x_non, x_con, x_tup, x_lst, x_bin, x_neg, x_notv, x_nott, x_andv, x_andt, x_orv, x_ort, x_cmpv, x_cmpt, x_chnv, x_chnt, x_ife, x_ix, x_sl, x_isi, x_isis, x_iso, x_tyiv, x_tyit, x_fld, x_mcl, x_new, x_blt, x_tlt, x_mth, x_call, x_how, x_dl, x_rp, x_lc, t_var, t_int, t_str, t_bl, t_non, t_con, t_tup, t_lst, t_bin, t_neg, t_ix, t_sl, t_isi, t_isis, t_iso, t_fld, t_mcl, t_new, t_blt, t_tlt, t_mth, t_call, t_how, t_lc, x_l0, x_l1, x_l2, x_av1, x_av2, x_ov1, x_ov2, x_at1, x_at2, x_ot1, x_ot2, x_p0, x_p1, x_o0, x_o1, x_seq, x_rng1, x_rng2, x_zip, sizeLine_eq, iL_len, setAll, setTg, wipeD, initS, ↓to_lb, ↓to_evl, ↓to_itl, lb_val, lb_exc, lb_none, itl_t, itl_f, evl_val, evl_none, evl_lb, ty, isI, isWt]; try simp only [of_lb, of_evl, of_itl])
      | dct _ _ => (simp -implicitDefEqProofs [x_nil, x_cons, x_expr, x_doc, x_pas, x_cont, x_brk, x_ret, x_retN, x_ite, x_set, x_asg, x_sub, x_for, x_raise, x_sfld, x_nev, x_while, x_var, x_int, x_str, x_bl, x_non, x_con, x_tup, x_lst, x_bin, x_neg, x_notv, x_nott, x_andv, x_andt, x_orv, x_ort, x_cmpv, x_cmpt, x_chnv, x_chnt, x_ife, x_ix, x_sl, x_isi, x_isis, x_iso, x_tyiv, x_tyit, x_fld, x_mcl, x_new, x_blt, x_tlt, x_mth, x_call, x_how, x_dl, x_rp, x_lc, t_var, t_int, t_str, t_bl, t_non, t_con, t_tup, t_lst, t_bin, t_neg, t_ix, t_sl, t_isi, t_isis, t_iso, t_fld, t_mcl, t_new, t_blt, t_tlt, t_mth, t_call, t_how, t_lc, x_l0, x_l1, x_l2, x_av1, x_av2, x_ov1, x_ov2, x_at1, x_at2, x_ot1, x_ot2, x_p0, x_p1, x_o0, x_o1, x_seq, x_rng1, x_rng2, x_zip, sizeLine_eq, iL_len, setAll, setTg, wipeD, initS, ↓to_lb, ↓to_evl, ↓to_itl, lb_val, lb_exc, lb_none, itl_t, itl_f, evl_val, evl_none, evl_lb, ty, isI, isWt]; try simp only [of_lb, of_evl, of_itl])
      | _ => cases kx) none
    cases c : ws.all isWt
    · rw [c, if_neg (by decide)] at e
      (simp -implicitDefEqProofs [x_nil, x_cons, x_expr, x_doc, x_pas, x_cont, x_brk, x_ret, x_retN, x_ite, x_set, x_asg, x_sub, x_for, x_raise, x_sfld, x_nev, x_while, x_var, x_int, x_str, x_bl, x_non, x_con, x_tup, x_lst, x_bin, x_neg, x_notv, x_nott, x_andv, x_andt, x_orv, x_ort, x_cmpv, x_cmpt, x_chnv, x_chnt, x_ife, x_ix, x_sl, x_isi, x_isis, x_iso, x_tyiv, x_tyit, x_fld, x_mcl, x_new, x_blt, x_tlt, x_mth, x_call, x_how, x_dl, x_rp, x_lc, t_var, t_int, t_str, t_bl, t_non, t_con, t_tup, t_lst, t_bin, t_neg, t_ix, t_sl, t_isi, t_isis, t_iso, t_fld, t_mcl, t_new, t_blt, t_tlt, t_mth, t_call, t_how, t_lc, x_l0, x_l1, x_l2, x_av1, x_av2, x_ov1, x_ov2, x_at1, x_at2, x_ot1, x_ot2, x_p0, x_p1, x_o0, x_o1, x_seq, x_rng1, x_rng2, x_zip, sizeLine_eq, iL_len, setAll, setTg, wipeD, initS, ↓to_lb, ↓to_evl, ↓to_itl, lb_val, lb_exc, lb_none, itl_t, itl_f, evl_val, evl_none, evl_lb, isTy, e, isWts, c]; try simp only [of_lb, of_evl, of_itl])
    · rw [c, if_pos rfl] at e
      (simp -implicitDefEqProofs [x_nil, x_cons, x_expr, x_doc, x_pas, x_cont, x_brk, x_ret, x_retN, x_ite, x_set, x_asg, x_sub, x_for, x_raise, x_sfld, x_nev, x_while, x_var, x_int, x_str, x_bl, x_non, x_con, x_tup, x_lst, x_bin, x_neg, x_notv, x_nott, x_andv, x_andt, x_orv, x_ort, x_cmpv, x_cmpt, x_chnv, x_chnt, x_ife, x_ix, x_sl, x_isi, x_isis, x_iso, x_tyiv, x_tyit, x_fld, x_mcl, x_new, x_blt, x_tlt, x_mth, x_call, x_how, x_dl, x_rp, x_lc, t_var, t_int, t_str, t_bl, t_non, t_con, t_tup, t_lst, t_bin, t_neg, t_ix, t_sl, t_isi, t_isis, t_iso, t_fld, t_mcl, t_new, t_blt, t_tlt, t_mth, t_call, t_how, t_lc, x_l0, x_l1, x_l2, x_av1, x_av2, x_ov1, x_ov2, x_at1, x_at2, x_ot1, x_ot2, x_p0, x_p1, x_o0, x_o1, x_seq, x_rng1, x_rng2, x_zip, sizeLine_eq, iL_len, setAll, setTg, wipeD, initS, ↓to_lb, ↓to_evl, ↓to_itl, lb_val, lb_exc, lb_none, itl_t, itl_f, evl_val, evl_none, evl_lb, isTy, e, isWts, c]; try simp only [of_lb, of_evl, of_itl])
  | non => (simp -implicitDefEqProofs [x_nil, x_cons, x_expr, x_doc, x_pas, x_cont, x_brk, x_ret, x_retN, x_ite, x_set, x_asg, x_sub, x_for, x_raise, x_sfld, x_nev, x_while, x_var, x_int, x_str, x_bl, x_non, x_con, x_tup, x_lst, x_bin, x_neg, x_notv, x_nott, x_andv, x_andt, x_orv, x_ort, x_cmpv, x_cmpt, x_chnv, x_chnt, x_ife, x_ix, x_sl, x_isi, x_isis, x_iso, x_tyiv, x_tyit, x_fld, x_mcl, x_new, x_blt, x_tlt, x_mth, x_call, x_how, x_dl, x_rp, x_lc, t_var, t_int, t_str, t_bl, t_non, t_con, t_tup, t_lst, t_bin, t_neg, t_ix, t_sl, t_isi, t_isis, t_iso, t_fld, t_mcl, t_new, t_blt, t_tlt, t_mth, t_call, t_how, t_lc, x_l0, x_l1, x_l2, x_av1, x_av2, x_ov1, x_ov2, x_at1, x_at2, x_ot1, x_ot2, x_p0, x_p1, x_o0, x_o1, x_seq, x_rng1, x_rng2, x_zip, sizeLine_eq, iL_len, setAll, setTg, wipeD, initS, ↓to_lb, ↓to_evl, ↓to_itl, lb_val, lb_exc, lb_none, itl_t, itl_f, evl_val, evl_none, evl_lb, isTy, isWts]; try simp only [of_lb, of_evl, of_itl])
  | bl _ => (simp -implicitDefEqProofs [x_nil, x_cons, x_expr, x_doc, x_pas, x_cont, x_brk, x_ret, x_retN, x_ite, x_set, x_asg, x_sub, x_for, x_raise, x_sfld, x_nev, x_while, x_var, x_int, x_str, x_bl, x_non, x_con, x_tup, x_lst, x_bin, x_neg, x_notv, x_nott, x_andv, x_andt, x_orv, x_ort, x_cmpv, x_cmpt, x_chnv, x_chnt, x_ife, x_ix, x_sl, x_isi, x_isis, x_iso, x_tyiv, x_tyit, x_fld, x_mcl, x_new, x_blt, x_tlt, x_mth, x_call, x_how, x_dl, x_rp, x_lc, t_var, t_int, t_str, t_bl, t_non, t_con, t_tup, t_lst, t_bin, t_neg, t_ix, t_sl, t_isi, t_isis, t_iso, t_fld, t_mcl, t_new, t_blt, t_tlt, t_mth, t_call, t_how, t_lc, x_l0, x_l1, x_l2, x_av1, x_av2, x_ov1, x_ov2, x_at1, x_at2, x_ot1, x_ot2, x_p0, x_p1, x_o0, x_o1, x_seq, x_rng1, x_rng2, x_zip, sizeLine_eq, iL_len, setAll, setTg, wipeD, initS, ↓to_lb, ↓to_evl, ↓to_itl, lb_val, lb_exc, lb_none, itl_t, itl_f, evl_val, evl_none, evl_lb, isTy, isWts]; try simp only [of_lb, of_evl, of_itl])
  | int _ => (simp -implicitDefEqProofs [x_nil, x_cons, x_expr, x_doc, x_pas, x_cont, x_brk, x_ret, x_retN, x_ite, x_set, x_asg, x_sub, x_for, x_raise, x_sfld, x_nev, x_while, x_var, x_int, x_str, x_bl, x_non, x_con, x_tup, x_lst, x_bin, x_neg, x_notv, x_nott, x_andv, x_andt, x_orv, x_ort, x_cmpv, x_cmpt, x_chnv, x_chnt, x_ife, x_ix, x_sl, x_isi, x_isis, x_iso, x_tyiv, x_tyit, x_fld, x_mcl, x_new, x_blt, x_tlt, x_mth, x_call, x_how, x_dl, x_rp, x_lc, t_var, t_int, t_str, t_bl, t_non, t_con, t_tup, t_lst, t_bin, t_neg, t_ix, t_sl, t_isi, t_isis, t_iso, t_fld, t_mcl, t_new, t_blt, t_tlt, t_mth, t_call, t_how, t_lc, x_l0, x_l1, x_l2, x_av1, x_av2, x_ov1, x_ov2, x_at1, x_at2, x_ot1, x_ot2, x_p0, x_p1, x_o0, x_o1, x_seq, x_rng1, x_rng2, x_zip, sizeLine_eq, iL_len, setAll, setTg, wipeD, initS, ↓to_lb, ↓to_evl, ↓to_itl, lb_val, lb_exc, lb_none, itl_t, itl_f, evl_val, evl_none, evl_lb, isTy, isWts]; try simp only [of_lb, of_evl, of_itl])
  | str _ => (simp -implicitDefEqProofs [x_nil, x_cons, x_expr, x_doc, x_pas, x_cont, x_brk, x_ret, x_retN, x_ite, x_set, x_asg, x_sub, x_for, x_raise, x_sfld, x_nev, x_while, x_var, x_int, x_str, x_bl, x_non, x_con, x_tup, x_lst, x_bin, x_neg, x_notv, x_nott, x_andv, x_andt, x_orv, x_ort, x_cmpv, x_cmpt, x_chnv, x_chnt, x_ife, x_ix, x_sl, x_isi, x_isis, x_iso, x_tyiv, x_tyit, x_fld, x_mcl, x_new, x_blt, x_tlt, x_mth, x_call, x_how, x_dl, x_rp, x_lc, t_var, t_int, t_str, t_bl, t_non, t_con, t_tup, t_lst, t_bin, t_neg, t_ix, t_sl, t_isi, t_isis, t_iso, t_fld, t_mcl, t_new, t_blt, t_tlt, t_mth, t_call, t_how, t_lc, x_l0, x_l1, x_l2, x_av1, x_av2, x_ov1, x_ov2, x_at1, x_at2, x_ot1, x_ot2, x_p0, x_p1, x_o0, x_o1, x_seq, x_rng1, x_rng2, x_zip, sizeLine_eq, iL_len, setAll, setTg, wipeD, initS, ↓to_lb, ↓to_evl, ↓to_itl, lb_val, lb_exc, lb_none, itl_t, itl_f, evl_val, evl_none, evl_lb, isTy, isWts]; try simp only [of_lb, of_evl, of_itl])
  | tup _ => (simp -implicitDefEqProofs [x_nil, x_cons, x_expr, x_doc, x_pas, x_cont, x_brk, x_ret, x_retN, x_ite, x_set, x_asg, x_sub, x_for, x_raise, x_sfld, x_nev, x_while, x_var, x_int, x_str, x_bl, x_non, x_con, x_tup, x_lst, x_bin, x_neg, x_notv, x_nott, x_andv, x_andt, x_orv, x_ort, x_cmpv, x_cmpt, x_chnv, x_chnt, x_ife, x_ix, x_sl, x_isi, x_isis, x_iso, x_tyiv, x_tyit, x_fld, x_mcl, x_new, x_blt, x_tlt, x_mth, x_call, x_how, x_dl, x_rp, x_lc, t_var, t_int, t_str, t_bl, t_non, t_con, t_tup, t_lst, t_bin, t_neg, t_ix, t_sl, t_isi, t_isis, t_iso, t_fld, t_mcl, t_new, t_blt, t_tlt, t_mth, t_call, t_how, t_lc, x_l0, x_l1, x_l2, x_av1, x_av2, x_ov1, x_ov2, x_at1, x_at2, x_ot1, x_ot2, x_p0, x_p1, x_o0, x_o1, x_seq, x_rng1, x_rng2, x_zip, sizeLine_eq, iL_len, setAll, setTg, wipeD, initS, ↓to_lb, ↓to_evl, ↓to_itl, lb_val, lb_exc, lb_none, itl_t, itl_f, evl_val, evl_none, evl_lb, isTy, isWts]; try simp only [of_lb, of_evl, of_itl])
  | _ => cases m <;> simp [kd] at h
theorem is_paper_ {m : Nat} {d : D} (h : kd m d = true) (hm : m ≤ 50) : SM (n+3) i__is_paper [d] cs = some (.val (.bl (papD d).isSome), cs) := by
  rw [e__is_paper, b__is_paper]
  cases d with
  | tup ds =>
    cases ds with
    | nil => (simp -implicitDefEqProofs [x_nil, x_cons, x_expr, x_doc, x_pas, x_cont, x_brk, x_ret, x_retN, x_ite, x_set, x_asg, x_sub, x_for, x_raise, x_sfld, x_nev, x_while, x_var, x_int, x_str, x_bl, x_non, x_con, x_tup, x_lst, x_bin, x_neg, x_notv, x_nott, x_andv, x_andt, x_orv, x_ort, x_cmpv, x_cmpt, x_chnv, x_chnt, x_ife, x_ix, x_sl, x_isi, x_isis, x_iso, x_tyiv, x_tyit, x_fld, x_mcl, x_new, x_blt, x_tlt, x_mth, x_call, x_how, x_dl, x_rp, x_lc, t_var, t_int, t_str, t_bl, t_non, t_con, t_tup, t_lst, t_bin, t_neg, t_ix, t_sl, t_isi, t_isis, t_iso, t_fld, t_mcl, t_new, t_blt, t_tlt, t_mth, t_call, t_how, t_lc, x_l0, x_l1, x_l2, x_av1, x_av2, x_ov1, x_ov2, x_at1, x_at2, x_ot1, x_ot2, x_p0, x_p1, x_o0, x_o1, x_seq, x_rng1, x_rng2, x_zip, sizeLine_eq, iL_len, setAll, setTg, wipeD, initS, ↓to_lb, ↓to_evl, ↓to_itl, lb_val, lb_exc, lb_none, itl_t, itl_f, evl_val, evl_none, evl_lb, isTy, papD]; try simp only [of_lb, of_evl, of_itl])
    | cons x r =>
      obtain ⟨k, rfl, hl, h2⟩ := kd_tup h
      have hx := h2 x (by simp)
      have E1 := eq_word cs hx (by omega) "sum" ok_words.1
      have E2 := eq_word cs hx (by omega) "never" ok_words.2.1
      have E3 := eq_word cs hx (by omega) "split" ok_words.2.2.1
      have E4 := eq_word cs hx (by omega) "apart" ok_words.2.2.2
      have z0 : ¬ ((r.length : Int) + 1 = 0) := by omega
      cases x with
      | str w =>
        have hp : papD (.tup (.str w :: r)) = papR w r := rfl
        rw [hp]
        by_cases w1 : w = "sum"
        · subst w1
          by_cases l : r.length = 2
          · obtain ⟨a, b, rfl⟩ := lst2 l
            have ka := h2 a (by simp)
            have kb := h2 b (by simp)
            have W := are_weights_ (n+1) cs kb
            have T := tyi_f (kd_known ka) cs
            rw [pap_sum]
            cases a with
            | int i =>
              by_cases c : 1 ≤ i
              · (simp -implicitDefEqProofs [x_nil, x_cons, x_expr, x_doc, x_pas, x_cont, x_brk, x_ret, x_retN, x_ite, x_set, x_asg, x_sub, x_for, x_raise, x_sfld, x_nev, x_while, x_var, x_int, x_str, x_bl, x_non, x_con, x_tup, x_lst, x_bin, x_neg, x_notv, x_nott, x_andv, x_andt, x_orv, x_ort, x_cmpv, x_cmpt, x_chnv, x_chnt, x_ife, x_ix, x_sl, x_isi, x_isis, x_iso, x_tyiv, x_tyit, x_fld, x_mcl, x_new, x_blt, x_tlt, x_mth, x_call, x_how, x_dl, x_rp, x_lc, t_var, t_int, t_str, t_bl, t_non, t_con, t_tup, t_lst, t_bin, t_neg, t_ix, t_sl, t_isi, t_isis, t_iso, t_fld, t_mcl, t_new, t_blt, t_tlt, t_mth, t_call, t_how, t_lc, x_l0, x_l1, x_l2, x_av1, x_av2, x_ov1, x_ov2, x_at1, x_at2, x_ot1, x_ot2, x_p0, x_p1, x_o0, x_o1, x_seq, x_rng1, x_rng2, x_zip, sizeLine_eq, iL_len, setAll, setTg, wipeD, initS, ↓to_lb, ↓to_evl, ↓to_itl, lb_val, lb_exc, lb_none, itl_t, itl_f, evl_val, evl_none, evl_lb, isTy, z0, W, T, c, isI, toI]; try simp only [of_lb, of_evl, of_itl])
              · (simp -implicitDefEqProofs [x_nil, x_cons, x_expr, x_doc, x_pas, x_cont, x_brk, x_ret, x_retN, x_ite, x_set, x_asg, x_sub, x_for, x_raise, x_sfld, x_nev, x_while, x_var, x_int, x_str, x_bl, x_non, x_con, x_tup, x_lst, x_bin, x_neg, x_notv, x_nott, x_andv, x_andt, x_orv, x_ort, x_cmpv, x_cmpt, x_chnv, x_chnt, x_ife, x_ix, x_sl, x_isi, x_isis, x_iso, x_tyiv, x_tyit, x_fld, x_mcl, x_new, x_blt, x_tlt, x_mth, x_call, x_how, x_dl, x_rp, x_lc, t_var, t_int, t_str, t_bl, t_non, t_con, t_tup, t_lst, t_bin, t_neg, t_ix, t_sl, t_isi, t_isis, t_iso, t_fld, t_mcl, t_new, t_blt, t_tlt, t_mth, t_call, t_how, t_lc, x_l0, x_l1, x_l2, x_av1, x_av2, x_ov1, x_ov2, x_at1, x_at2, x_ot1, x_ot2, x_p0, x_p1, x_o0, x_o1, x_seq, x_rng1, x_rng2, x_zip, sizeLine_eq, iL_len, setAll, setTg, wipeD, initS, ↓to_lb, ↓to_evl, ↓to_itl, lb_val, lb_exc, lb_none, itl_t, itl_f, evl_val, evl_none, evl_lb, isTy, z0, W, T, c, isI, toI]; try simp only [of_lb, of_evl, of_itl])
            | non => (simp -implicitDefEqProofs [x_nil, x_cons, x_expr, x_doc, x_pas, x_cont, x_brk, x_ret, x_retN, x_ite, x_set, x_asg, x_sub, x_for, x_raise, x_sfld, x_nev, x_while, x_var, x_int, x_str, x_bl, x_non, x_con, x_tup, x_lst, x_bin, x_neg, x_notv, x_nott, x_andv, x_andt, x_orv, x_ort, x_cmpv, x_cmpt, x_chnv, x_chnt, x_ife, x_ix, x_sl, x_isi, x_isis, x_iso, x_tyiv, x_tyit, x_fld, x_mcl, x_new, x_blt, x_tlt, x_mth, x_call, x_how, x_dl, x_rp, x_lc, t_var, t_int, t_str, t_bl, t_non, t_con, t_tup, t_lst, t_bin, t_neg, t_ix, t_sl, t_isi, t_isis, t_iso, t_fld, t_mcl, t_new, t_blt, t_tlt, t_mth, t_call, t_how, t_lc, x_l0, x_l1, x_l2, x_av1, x_av2, x_ov1, x_ov2, x_at1, x_at2, x_ot1, x_ot2, x_p0, x_p1, x_o0, x_o1, x_seq, x_rng1, x_rng2, x_zip, sizeLine_eq, iL_len, setAll, setTg, wipeD, initS, ↓to_lb, ↓to_evl, ↓to_itl, lb_val, lb_exc, lb_none, itl_t, itl_f, evl_val, evl_none, evl_lb, isTy, z0, T, isI]; try simp only [of_lb, of_evl, of_itl])
            | bl _ => (simp -implicitDefEqProofs [x_nil, x_cons, x_expr, x_doc, x_pas, x_cont, x_brk, x_ret, x_retN, x_ite, x_set, x_asg, x_sub, x_for, x_raise, x_sfld, x_nev, x_while, x_var, x_int, x_str, x_bl, x_non, x_con, x_tup, x_lst, x_bin, x_neg, x_notv, x_nott, x_andv, x_andt, x_orv, x_ort, x_cmpv, x_cmpt, x_chnv, x_chnt, x_ife, x_ix, x_sl, x_isi, x_isis, x_iso, x_tyiv, x_tyit, x_fld, x_mcl, x_new, x_blt, x_tlt, x_mth, x_call, x_how, x_dl, x_rp, x_lc, t_var, t_int, t_str, t_bl, t_non, t_con, t_tup, t_lst, t_bin, t_neg, t_ix, t_sl, t_isi, t_isis, t_iso, t_fld, t_mcl, t_new, t_blt, t_tlt, t_mth, t_call, t_how, t_lc, x_l0, x_l1, x_l2, x_av1, x_av2, x_ov1, x_ov2, x_at1, x_at2, x_ot1, x_ot2, x_p0, x_p1, x_o0, x_o1, x_seq, x_rng1, x_rng2, x_zip, sizeLine_eq, iL_len, setAll, setTg, wipeD, initS, ↓to_lb, ↓to_evl, ↓to_itl, lb_val, lb_exc, lb_none, itl_t, itl_f, evl_val, evl_none, evl_lb, isTy, z0, T, isI]; try simp only [of_lb, of_evl, of_itl])
            | str _ => (simp -implicitDefEqProofs [x_nil, x_cons, x_expr, x_doc, x_pas, x_cont, x_brk, x_ret, x_retN, x_ite, x_set, x_asg, x_sub, x_for, x_raise, x_sfld, x_nev, x_while, x_var, x_int, x_str, x_bl, x_non, x_con, x_tup, x_lst, x_bin, x_neg, x_notv, x_nott, x_andv, x_andt, x_orv, x_ort, x_cmpv, x_cmpt, x_chnv, x_chnt, x_ife, x_ix, x_sl, x_isi, x_isis, x_iso, x_tyiv, x_tyit, x_fld, x_mcl, x_new, x_blt, x_tlt, x_mth, x_call, x_how, x_dl, x_rp, x_lc, t_var, t_int, t_str, t_bl, t_non, t_con, t_tup, t_lst, t_bin, t_neg, t_ix, t_sl, t_isi, t_isis, t_iso, t_fld, t_mcl, t_new, t_blt, t_tlt, t_mth, t_call, t_how, t_lc, x_l0, x_l1, x_l2, x_av1, x_av2, x_ov1, x_ov2, x_at1, x_at2, x_ot1, x_ot2, x_p0, x_p1, x_o0, x_o1, x_seq, x_rng1, x_rng2, x_zip, sizeLine_eq, iL_len, setAll, setTg, wipeD, initS, ↓to_lb, ↓to_evl, ↓to_itl, lb_val, lb_exc, lb_none, itl_t, itl_f, evl_val, evl_none, evl_lb, isTy, z0, T, isI]; try simp only [of_lb, of_evl, of_itl])
            | tup _ => (simp -implicitDefEqProofs [x_nil, x_cons, x_expr, x_doc, x_pas, x_cont, x_brk, x_ret, x_retN, x_ite, x_set, x_asg, x_sub, x_for, x_raise, x_sfld, x_nev, x_while, x_var, x_int, x_str, x_bl, x_non, x_con, x_tup, x_lst, x_bin, x_neg, x_notv, x_nott, x_andv, x_andt, x_orv, x_ort, x_cmpv, x_cmpt, x_chnv, x_chnt, x_ife, x_ix, x_sl, x_isi, x_isis, x_iso, x_tyiv, x_tyit, x_fld, x_mcl, x_new, x_blt, x_tlt, x_mth, x_call, x_how, x_dl, x_rp, x_lc, t_var, t_int, t_str, t_bl, t_non, t_con, t_tup, t_lst, t_bin, t_neg, t_ix, t_sl, t_isi, t_isis, t_iso, t_fld, t_mcl, t_new, t_blt, t_tlt, t_mth, t_call, t_how, t_lc, x_l0, x_l1, x_l2, x_av1, x_av2, x_ov1, x_ov2, x_at1, x_at2, x_ot1, x_ot2, x_p0, x_p1, x_o0, x_o1, x_seq, x_rng1, x_rng2, x_zip, sizeLine_eq, iL_len, setAll, setTg, wipeD, initS, ↓to_lb, ↓to_evl, ↓to_itl, lb_val, lb_exc, lb_none, itl_t, itl_f, evl_val, evl_none, evl_lb, isTy, z0, T, isI]; try simp only [of_lb, of_evl, of_itl])
            | lst _ => (simp -implicitDefEqProofs [x_nil, x_cons, x_expr, x_doc, x_pas, x_cont, x_brk, x_ret, x_retN, x_ite, x_set, x_asg, x_sub, x_for, x_raise, x_sfld, x_nev, x_while, x_var, x_int, x_str, x_bl, x_non, x_con, x_tup, x_lst, x_bin, x_neg, x_notv, x_nott, x_andv, x_andt, x_orv, x_ort, x_cmpv, x_cmpt, x_chnv, x_chnt, x_ife, x_ix, x_sl, x_isi, x_isis, x_iso, x_tyiv, x_tyit, x_fld, x_mcl, x_new, x_blt, x_tlt, x_mth, x_call, x_how, x_dl, x_rp, x_lc, t_var, t_int, t_str, t_bl, t_non, t_con, t_tup, t_lst, t_bin, t_neg, t_ix, t_sl, t_isi, t_isis, t_iso, t_fld, t_mcl, t_new, t_blt, t_tlt, t_mth, t_call, t_how, t_lc, x_l0, x_l1, x_l2, x_av1, x_av2, x_ov1, x_ov2, x_at1, x_at2, x_ot1, x_ot2, x_p0, x_p1, x_o0, x_o1, x_seq, x_rng1, x_rng2, x_zip, sizeLine_eq, iL_len, setAll, setTg, wipeD, initS, ↓to_lb, ↓to_evl, ↓to_itl, lb_val, lb_exc, lb_none, itl_t, itl_f, evl_val, evl_none, evl_lb, isTy, z0, T, isI]; try simp only [of_lb, of_evl, of_itl])
            | _ => cases k <;> simp [kd] at ka
          · have l2 : ¬ ((r.length : Int) + 1 = 3) := by omega
            have l3 : ¬ (r.length + 1 = 3) := by omega
            rw [pap_sum_no l]
            (simp -implicitDefEqProofs [x_nil, x_cons, x_expr, x_doc, x_pas, x_cont, x_brk, x_ret, x_retN, x_ite, x_set, x_asg, x_sub, x_for, x_raise, x_sfld, x_nev, x_while, x_var, x_int, x_str, x_bl, x_non, x_con, x_tup, x_lst, x_bin, x_neg, x_notv, x_nott, x_andv, x_andt, x_orv, x_ort, x_cmpv, x_cmpt, x_chnv, x_chnt, x_ife, x_ix, x_sl, x_isi, x_isis, x_iso, x_tyiv, x_tyit, x_fld, x_mcl, x_new, x_blt, x_tlt, x_mth, x_call, x_how, x_dl, x_rp, x_lc, t_var, t_int, t_str, t_bl, t_non, t_con, t_tup, t_lst, t_bin, t_neg, t_ix, t_sl, t_isi, t_isis, t_iso, t_fld, t_mcl, t_new, t_blt, t_tlt, t_mth, t_call, t_how, t_lc, x_l0, x_l1, x_l2, x_av1, x_av2, x_ov1, x_ov2, x_at1, x_at2, x_ot1, x_ot2, x_p0, x_p1, x_o0, x_o1, x_seq, x_rng1, x_rng2, x_zip, sizeLine_eq, iL_len, setAll, setTg, wipeD, initS, ↓to_lb, ↓to_evl, ↓to_itl, lb_val, lb_exc, lb_none, itl_t, itl_f, evl_val, evl_none, evl_lb, isTy, z0, l, l2, l3]; try simp only [of_lb, of_evl, of_itl])
        · by_cases w2 : w = "never"
          · subst w2
            by_cases l : r.length = 1
            · obtain ⟨b, rfl⟩ := lst1 l
              have W := are_weights_ (n+1) cs (h2 b (by simp))
              rw [pap_nev]
              (simp -implicitDefEqProofs [x_nil, x_cons, x_expr, x_doc, x_pas, x_cont, x_brk, x_ret, x_retN, x_ite, x_set, x_asg, x_sub, x_for, x_raise, x_sfld, x_nev, x_while, x_var, x_int, x_str, x_bl, x_non, x_con, x_tup, x_lst, x_bin, x_neg, x_notv, x_nott, x_andv, x_andt, x_orv, x_ort, x_cmpv, x_cmpt, x_chnv, x_chnt, x_ife, x_ix, x_sl, x_isi, x_isis, x_iso, x_tyiv, x_tyit, x_fld, x_mcl, x_new, x_blt, x_tlt, x_mth, x_call, x_how, x_dl, x_rp, x_lc, t_var, t_int, t_str, t_bl, t_non, t_con, t_tup, t_lst, t_bin, t_neg, t_ix, t_sl, t_isi, t_isis, t_iso, t_fld, t_mcl, t_new, t_blt, t_tlt, t_mth, t_call, t_how, t_lc, x_l0, x_l1, x_l2, x_av1, x_av2, x_ov1, x_ov2, x_at1, x_at2, x_ot1, x_ot2, x_p0, x_p1, x_o0, x_o1, x_seq, x_rng1, x_rng2, x_zip, sizeLine_eq, iL_len, setAll, setTg, wipeD, initS, ↓to_lb, ↓to_evl, ↓to_itl, lb_val, lb_exc, lb_none, itl_t, itl_f, evl_val, evl_none, evl_lb, isTy, z0, W]; try simp only [of_lb, of_evl, of_itl])
            · have l2 : ¬ ((r.length : Int) + 1 = 2) := by omega
              have l3 : ¬ (r.length + 1 = 2) := by omega
              rw [pap_nev_no l]
              (simp -implicitDefEqProofs [x_nil, x_cons, x_expr, x_doc, x_pas, x_cont, x_brk, x_ret, x_retN, x_ite, x_set, x_asg, x_sub, x_for, x_raise, x_sfld, x_nev, x_while, x_var, x_int, x_str, x_bl, x_non, x_con, x_tup, x_lst, x_bin, x_neg, x_notv, x_nott, x_andv, x_andt, x_orv, x_ort, x_cmpv, x_cmpt, x_chnv, x_chnt, x_ife, x_ix, x_sl, x_isi, x_isis, x_iso, x_tyiv, x_tyit, x_fld, x_mcl, x_new, x_blt, x_tlt, x_mth, x_call, x_how, x_dl, x_rp, x_lc, t_var, t_int, t_str, t_bl, t_non, t_con, t_tup, t_lst, t_bin, t_neg, t_ix, t_sl, t_isi, t_isis, t_iso, t_fld, t_mcl, t_new, t_blt, t_tlt, t_mth, t_call, t_how, t_lc, x_l0, x_l1, x_l2, x_av1, x_av2, x_ov1, x_ov2, x_at1, x_at2, x_ot1, x_ot2, x_p0, x_p1, x_o0, x_o1, x_seq, x_rng1, x_rng2, x_zip, sizeLine_eq, iL_len, setAll, setTg, wipeD, initS, ↓to_lb, ↓to_evl, ↓to_itl, lb_val, lb_exc, lb_none, itl_t, itl_f, evl_val, evl_none, evl_lb, isTy, z0, l, l2, l3]; try simp only [of_lb, of_evl, of_itl])
          · by_cases w3 : w = "split"
            · subst w3
              by_cases l : r.length = 3
              · obtain ⟨f, a, b, rfl⟩ := lst3 l
                have W := is_form_ n cs (kd_known1 (h2 f (by simp)))
                rw [pap_spl]
                (simp -implicitDefEqProofs [x_nil, x_cons, x_expr, x_doc, x_pas, x_cont, x_brk, x_ret, x_retN, x_ite, x_set, x_asg, x_sub, x_for, x_raise, x_sfld, x_nev, x_while, x_var, x_int, x_str, x_bl, x_non, x_con, x_tup, x_lst, x_bin, x_neg, x_notv, x_nott, x_andv, x_andt, x_orv, x_ort, x_cmpv, x_cmpt, x_chnv, x_chnt, x_ife, x_ix, x_sl, x_isi, x_isis, x_iso, x_tyiv, x_tyit, x_fld, x_mcl, x_new, x_blt, x_tlt, x_mth, x_call, x_how, x_dl, x_rp, x_lc, t_var, t_int, t_str, t_bl, t_non, t_con, t_tup, t_lst, t_bin, t_neg, t_ix, t_sl, t_isi, t_isis, t_iso, t_fld, t_mcl, t_new, t_blt, t_tlt, t_mth, t_call, t_how, t_lc, x_l0, x_l1, x_l2, x_av1, x_av2, x_ov1, x_ov2, x_at1, x_at2, x_ot1, x_ot2, x_p0, x_p1, x_o0, x_o1, x_seq, x_rng1, x_rng2, x_zip, sizeLine_eq, iL_len, setAll, setTg, wipeD, initS, ↓to_lb, ↓to_evl, ↓to_itl, lb_val, lb_exc, lb_none, itl_t, itl_f, evl_val, evl_none, evl_lb, isTy, z0, W]; try simp only [of_lb, of_evl, of_itl])
              · have l2 : ¬ ((r.length : Int) + 1 = 4) := by omega
                have l3 : ¬ (r.length + 1 = 4) := by omega
                rw [pap_spl_no l]
                (simp -implicitDefEqProofs [x_nil, x_cons, x_expr, x_doc, x_pas, x_cont, x_brk, x_ret, x_retN, x_ite, x_set, x_asg, x_sub, x_for, x_raise, x_sfld, x_nev, x_while, x_var, x_int, x_str, x_bl, x_non, x_con, x_tup, x_lst, x_bin, x_neg, x_notv, x_nott, x_andv, x_andt, x_orv, x_ort, x_cmpv, x_cmpt, x_chnv, x_chnt, x_ife, x_ix, x_sl, x_isi, x_isis, x_iso, x_tyiv, x_tyit, x_fld, x_mcl, x_new, x_blt, x_tlt, x_mth, x_call, x_how, x_dl, x_rp, x_lc, t_var, t_int, t_str, t_bl, t_non, t_con, t_tup, t_lst, t_bin, t_neg, t_ix, t_sl, t_isi, t_isis, t_iso, t_fld, t_mcl, t_new, t_blt, t_tlt, t_mth, t_call, t_how, t_lc, x_l0, x_l1, x_l2, x_av1, x_av2, x_ov1, x_ov2, x_at1, x_at2, x_ot1, x_ot2, x_p0, x_p1, x_o0, x_o1, x_seq, x_rng1, x_rng2, x_zip, sizeLine_eq, iL_len, setAll, setTg, wipeD, initS, ↓to_lb, ↓to_evl, ↓to_itl, lb_val, lb_exc, lb_none, itl_t, itl_f, evl_val, evl_none, evl_lb, isTy, z0, l, l2, l3]; try simp only [of_lb, of_evl, of_itl])
            · by_cases w4 : w = "apart"
              · subst w4
                by_cases l : r.length = 3
                · obtain ⟨f, a, b, rfl⟩ := lst3 l
                  have kf := h2 f (by simp)
                  have T := tyi_f (kd_known kf) cs
                  rw [pap_apt]
                  cases f with
                  | int i =>
                    by_cases c : 0 ≤ i
                    · (simp -implicitDefEqProofs [x_nil, x_cons, x_expr, x_doc, x_pas, x_cont, x_brk, x_ret, x_retN, x_ite, x_set, x_asg, x_sub, x_for, x_raise, x_sfld, x_nev, x_while, x_var, x_int, x_str, x_bl, x_non, x_con, x_tup, x_lst, x_bin, x_neg, x_notv, x_nott, x_andv, x_andt, x_orv, x_ort, x_cmpv, x_cmpt, x_chnv, x_chnt, x_ife, x_ix, x_sl, x_isi, x_isis, x_iso, x_tyiv, x_tyit, x_fld, x_mcl, x_new, x_blt, x_tlt, x_mth, x_call, x_how, x_dl, x_rp, x_lc, t_var, t_int, t_str, t_bl, t_non, t_con, t_tup, t_lst, t_bin, t_neg, t_ix, t_sl, t_isi, t_isis, t_iso, t_fld, t_mcl, t_new, t_blt, t_tlt, t_mth, t_call, t_how, t_lc, x_l0, x_l1, x_l2, x_av1, x_av2, x_ov1, x_ov2, x_at1, x_at2, x_ot1, x_ot2, x_p0, x_p1, x_o0, x_o1, x_seq, x_rng1, x_rng2, x_zip, sizeLine_eq, iL_len, setAll, setTg, wipeD, initS, ↓to_lb, ↓to_evl, ↓to_itl, lb_val, lb_exc, lb_none, itl_t, itl_f, evl_val, evl_none, evl_lb, isTy, z0, T, isI, toI, c]; try simp only [of_lb, of_evl, of_itl])
                    · (simp -implicitDefEqProofs [x_nil, x_cons, x_expr, x_doc, x_pas, x_cont, x_brk, x_ret, x_retN, x_ite, x_set, x_asg, x_sub, x_for, x_raise, x_sfld, x_nev, x_while, x_var, x_int, x_str, x_bl, x_non, x_con, x_tup, x_lst, x_bin, x_neg, x_notv, x_nott, x_andv, x_andt, x_orv, x_ort, x_cmpv, x_cmpt, x_chnv, x_chnt, x_ife, x_ix, x_sl, x_isi, x_isis, x_iso, x_tyiv, x_tyit, x_fld, x_mcl, x_new, x_blt, x_tlt, x_mth, x_call, x_how, x_dl, x_rp, x_lc, t_var, t_int, t_str, t_bl, t_non, t_con, t_tup, t_lst, t_bin, t_neg, t_ix, t_sl, t_isi, t_isis, t_iso, t_fld, t_mcl, t_new, t_blt, t_tlt, t_mth, t_call, t_how, t_lc, x_l0, x_l1, x_l2, x_av1, x_av2, x_ov1, x_ov2, x_at1, x_at2, x_ot1, x_ot2, x_p0, x_p1, x_o0, x_o1, x_seq, x_rng1, x_rng2, x_zip, sizeLine_eq, iL_len, setAll, setTg, wipeD, initS, ↓to_lb, ↓to_evl, ↓to_itl, lb_val, lb_exc, lb_none, itl_t, itl_f, evl_val, evl_none, evl_lb, isTy, z0, T, isI, toI, c]; try simp only [of_lb, of_evl, of_itl])
                  | non => (simp -implicitDefEqProofs [x_nil, x_cons, x_expr, x_doc, x_pas, x_cont, x_brk, x_ret, x_retN, x_ite, x_set, x_asg, x_sub, x_for, x_raise, x_sfld, x_nev, x_while, x_var, x_int, x_str, x_bl, x_non, x_con, x_tup, x_lst, x_bin, x_neg, x_notv, x_nott, x_andv, x_andt, x_orv, x_ort, x_cmpv, x_cmpt, x_chnv, x_chnt, x_ife, x_ix, x_sl, x_isi, x_isis, x_iso, x_tyiv, x_tyit, x_fld, x_mcl, x_new, x_blt, x_tlt, x_mth, x_call, x_how, x_dl, x_rp, x_lc, t_var, t_int, t_str, t_bl, t_non, t_con, t_tup, t_lst, t_bin, t_neg, t_ix, t_sl, t_isi, t_isis, t_iso, t_fld, t_mcl, t_new, t_blt, t_tlt, t_mth, t_call, t_how, t_lc, x_l0, x_l1, x_l2, x_av1, x_av2, x_ov1, x_ov2, x_at1, x_at2, x_ot1, x_ot2, x_p0, x_p1, x_o0, x_o1, x_seq, x_rng1, x_rng2, x_zip, sizeLine_eq, iL_len, setAll, setTg, wipeD, initS, ↓to_lb, ↓to_evl, ↓to_itl, lb_val, lb_exc, lb_none, itl_t, itl_f, evl_val, evl_none, evl_lb, isTy, z0, T, isI]; try simp only [of_lb, of_evl, of_itl])
                  | bl _ => (simp -implicitDefEqProofs [x_nil, x_cons, x_expr, x_doc, x_pas, x_cont, x_brk, x_ret, x_retN, x_ite, x_set, x_asg, x_sub, x_for, x_raise, x_sfld, x_nev, x_while, x_var, x_int, x_str, x_bl, x_non, x_con, x_tup, x_lst, x_bin, x_neg, x_notv, x_nott, x_andv, x_andt, x_orv, x_ort, x_cmpv, x_cmpt, x_chnv, x_chnt, x_ife, x_ix, x_sl, x_isi, x_isis, x_iso, x_tyiv, x_tyit, x_fld, x_mcl, x_new, x_blt, x_tlt, x_mth, x_call, x_how, x_dl, x_rp, x_lc, t_var, t_int, t_str, t_bl, t_non, t_con, t_tup, t_lst, t_bin, t_neg, t_ix, t_sl, t_isi, t_isis, t_iso, t_fld, t_mcl, t_new, t_blt, t_tlt, t_mth, t_call, t_how, t_lc, x_l0, x_l1, x_l2, x_av1, x_av2, x_ov1, x_ov2, x_at1, x_at2, x_ot1, x_ot2, x_p0, x_p1, x_o0, x_o1, x_seq, x_rng1, x_rng2, x_zip, sizeLine_eq, iL_len, setAll, setTg, wipeD, initS, ↓to_lb, ↓to_evl, ↓to_itl, lb_val, lb_exc, lb_none, itl_t, itl_f, evl_val, evl_none, evl_lb, isTy, z0, T, isI]; try simp only [of_lb, of_evl, of_itl])
                  | str _ => (simp -implicitDefEqProofs [x_nil, x_cons, x_expr, x_doc, x_pas, x_cont, x_brk, x_ret, x_retN, x_ite, x_set, x_asg, x_sub, x_for, x_raise, x_sfld, x_nev, x_while, x_var, x_int, x_str, x_bl, x_non, x_con, x_tup, x_lst, x_bin, x_neg, x_notv, x_nott, x_andv, x_andt, x_orv, x_ort, x_cmpv, x_cmpt, x_chnv, x_chnt, x_ife, x_ix, x_sl, x_isi, x_isis, x_iso, x_tyiv, x_tyit, x_fld, x_mcl, x_new, x_blt, x_tlt, x_mth, x_call, x_how, x_dl, x_rp, x_lc, t_var, t_int, t_str, t_bl, t_non, t_con, t_tup, t_lst, t_bin, t_neg, t_ix, t_sl, t_isi, t_isis, t_iso, t_fld, t_mcl, t_new, t_blt, t_tlt, t_mth, t_call, t_how, t_lc, x_l0, x_l1, x_l2, x_av1, x_av2, x_ov1, x_ov2, x_at1, x_at2, x_ot1, x_ot2, x_p0, x_p1, x_o0, x_o1, x_seq, x_rng1, x_rng2, x_zip, sizeLine_eq, iL_len, setAll, setTg, wipeD, initS, ↓to_lb, ↓to_evl, ↓to_itl, lb_val, lb_exc, lb_none, itl_t, itl_f, evl_val, evl_none, evl_lb, isTy, z0, T, isI]; try simp only [of_lb, of_evl, of_itl])
                  | tup _ => (simp -implicitDefEqProofs [x_nil, x_cons, x_expr, x_doc, x_pas, x_cont, x_brk, x_ret, x_retN, x_ite, x_set, x_asg, x_sub, x_for, x_raise, x_sfld, x_nev, x_while, x_var, x_int, x_str, x_bl, x_non, x_con, x_tup, x_lst, x_bin, x_neg, x_notv, x_nott, x_andv, x_andt, x_orv, x_ort, x_cmpv, x_cmpt, x_chnv, x_chnt, x_ife, x_ix, x_sl, x_isi, x_isis, x_iso, x_tyiv, x_tyit, x_fld, x_mcl, x_new, x_blt, x_tlt, x_mth, x_call, x_how, x_dl, x_rp, x_lc, t_var, t_int, t_str, t_bl, t_non, t_con, t_tup, t_lst, t_bin, t_neg, t_ix, t_sl, t_isi, t_isis, t_iso, t_fld, t_mcl, t_new, t_blt, t_tlt, t_mth, t_call, t_how, t_lc, x_l0, x_l1, x_l2, x_av1, x_av2, x_ov1, x_ov2, x_at1, x_at2, x_ot1, x_ot2, x_p0, x_p1, x_o0, x_o1, x_seq, x_rng1, x_rng2, x_zip, sizeLine_eq, iL_len, setAll, setTg, wipeD, initS, ↓to_lb, ↓to_evl, ↓to_itl, lb_val, lb_exc, lb_none, itl_t, itl_f, evl_val, evl_none, evl_lb, isTy, z0, T, isI]; try simp only [of_lb, of_evl, of_itl])
                  | lst _ => (simp -implicitDefEqProofs [x_nil, x_cons, x_expr, x_doc, x_pas, x_cont, x_brk, x_ret, x_retN, x_ite, x_set, x_asg, x_sub, x_for, x_raise, x_sfld, x_nev, x_while, x_var, x_int, x_str, x_bl, x_non, x_con, x_tup, x_lst, x_bin, x_neg, x_notv, x_nott, x_andv, x_andt, x_orv, x_ort, x_cmpv, x_cmpt, x_chnv, x_chnt, x_ife, x_ix, x_sl, x_isi, x_isis, x_iso, x_tyiv, x_tyit, x_fld, x_mcl, x_new, x_blt, x_tlt, x_mth, x_call, x_how, x_dl, x_rp, x_lc, t_var, t_int, t_str, t_bl, t_non, t_con, t_tup, t_lst, t_bin, t_neg, t_ix, t_sl, t_isi, t_isis, t_iso, t_fld, t_mcl, t_new, t_blt, t_tlt, t_mth, t_call, t_how, t_lc, x_l0, x_l1, x_l2, x_av1, x_av2, x_ov1, x_ov2, x_at1, x_at2, x_ot1, x_ot2, x_p0, x_p1, x_o0, x_o1, x_seq, x_rng1, x_rng2, x_zip, sizeLine_eq, iL_len, setAll, setTg, wipeD, initS, ↓to_lb, ↓to_evl, ↓to_itl, lb_val, lb_exc, lb_none, itl_t, itl_f, evl_val, evl_none, evl_lb, isTy, z0, T, isI]; try simp only [of_lb, of_evl, of_itl])
                  | _ => cases k <;> simp [kd] at kf
                · have l2 : ¬ ((r.length : Int) + 1 = 4) := by omega
                  have l3 : ¬ (r.length + 1 = 4) := by omega
                  rw [pap_apt_no l]
                  (simp -implicitDefEqProofs [x_nil, x_cons, x_expr, x_doc, x_pas, x_cont, x_brk, x_ret, x_retN, x_ite, x_set, x_asg, x_sub, x_for, x_raise, x_sfld, x_nev, x_while, x_var, x_int, x_str, x_bl, x_non, x_con, x_tup, x_lst, x_bin, x_neg, x_notv, x_nott, x_andv, x_andt, x_orv, x_ort, x_cmpv, x_cmpt, x_chnv, x_chnt, x_ife, x_ix, x_sl, x_isi, x_isis, x_iso, x_tyiv, x_tyit, x_fld, x_mcl, x_new, x_blt, x_tlt, x_mth, x_call, x_how, x_dl, x_rp, x_lc, t_var, t_int, t_str, t_bl, t_non, t_con, t_tup, t_lst, t_bin, t_neg, t_ix, t_sl, t_isi, t_isis, t_iso, t_fld, t_mcl, t_new, t_blt, t_tlt, t_mth, t_call, t_how, t_lc, x_l0, x_l1, x_l2, x_av1, x_av2, x_ov1, x_ov2, x_at1, x_at2, x_ot1, x_ot2, x_p0, x_p1, x_o0, x_o1, x_seq, x_rng1, x_rng2, x_zip, sizeLine_eq, iL_len, setAll, setTg, wipeD, initS, ↓to_lb, ↓to_evl, ↓to_itl, lb_val, lb_exc, lb_none, itl_t, itl_f, evl_val, evl_none, evl_lb, isTy, z0, l, l2, l3]; try simp only [of_lb, of_evl, of_itl])
              · rw [pap_other w1 w2 w3 w4]
                rw [isW_no w1] at E1
                rw [isW_no w2] at E2
                rw [isW_no w3] at E3
                rw [isW_no w4] at E4
                (simp -implicitDefEqProofs [x_nil, x_cons, x_expr, x_doc, x_pas, x_cont, x_brk, x_ret, x_retN, x_ite, x_set, x_asg, x_sub, x_for, x_raise, x_sfld, x_nev, x_while, x_var, x_int, x_str, x_bl, x_non, x_con, x_tup, x_lst, x_bin, x_neg, x_notv, x_nott, x_andv, x_andt, x_orv, x_ort, x_cmpv, x_cmpt, x_chnv, x_chnt, x_ife, x_ix, x_sl, x_isi, x_isis, x_iso, x_tyiv, x_tyit, x_fld, x_mcl, x_new, x_blt, x_tlt, x_mth, x_call, x_how, x_dl, x_rp, x_lc, t_var, t_int, t_str, t_bl, t_non, t_con, t_tup, t_lst, t_bin, t_neg, t_ix, t_sl, t_isi, t_isis, t_iso, t_fld, t_mcl, t_new, t_blt, t_tlt, t_mth, t_call, t_how, t_lc, x_l0, x_l1, x_l2, x_av1, x_av2, x_ov1, x_ov2, x_at1, x_at2, x_ot1, x_ot2, x_p0, x_p1, x_o0, x_o1, x_seq, x_rng1, x_rng2, x_zip, sizeLine_eq, iL_len, setAll, setTg, wipeD, initS, ↓to_lb, ↓to_evl, ↓to_itl, lb_val, lb_exc, lb_none, itl_t, itl_f, evl_val, evl_none, evl_lb, isTy, z0, E1, E2, E3, E4]; try simp only [of_lb, of_evl, of_itl])
      | non => (simp -implicitDefEqProofs [x_nil, x_cons, x_expr, x_doc, x_pas, x_cont, x_brk, x_ret, x_retN, x_ite, x_set, x_asg, x_sub, x_for, x_raise, x_sfld, x_nev, x_while, x_var, x_int, x_str, x_bl, x_non, x_con, x_tup, x_lst, x_bin, x_neg, x_notv, x_nott, x_andv, x_andt, x_orv, x_ort, x_cmpv, x_cmpt, x_chnv, x_chnt, x_ife, x_ix, x_sl, x_isi, x_isis, x_iso, x_tyiv, x_tyit, x_fld, x_mcl, x_new, x_blt, x_tlt, x_mth, x_call, x_how, x_dl, x_rp, x_lc, t_var, t_int, t_str, t_bl, t_non, t_con, t_tup, t_lst, t_bin, t_neg, t_ix, t_sl, t_isi, t_isis, t_iso, t_fld, t_mcl, t_new, t_blt, t_tlt, t_mth, t_call, t_how, t_lc, x_l0, x_l1, x_l2, x_av1, x_av2, x_ov1, x_ov2, x_at1, x_at2, x_ot1, x_ot2, x_p0, x_p1, x_o0, x_o1, x_seq, x_rng1, x_rng2, x_zip, sizeLine_eq, iL_len, setAll, setTg, wipeD, initS, ↓to_lb, ↓to_evl, ↓to_itl, lb_val, lb_exc, lb_none, itl_t, itl_f, evl_val, evl_none, evl_lb, isTy, z0, E1, E2, E3, E4, isW, papD]; try simp only [of_lb, of_evl, of_itl])
      | bl _ => (simp -implicitDefEqProofs [x_nil, x_cons, x_expr, x_doc, x_pas, x_cont, x_brk, x_ret, x_retN, x_ite, x_set, x_asg, x_sub, x_for, x_raise, x_sfld, x_nev, x_while, x_var, x_int, x_str, x_bl, x_non, x_con, x_tup, x_lst, x_bin, x_neg, x_notv, x_nott, x_andv, x_andt, x_orv, x_ort, x_cmpv, x_cmpt, x_chnv, x_chnt, x_ife, x_ix, x_sl, x_isi, x_isis, x_iso, x_tyiv, x_tyit, x_fld, x_mcl, x_new, x_blt, x_tlt, x_mth, x_call, x_how, x_dl, x_rp, x_lc, t_var, t_int, t_str, t_bl, t_non, t_con, t_tup, t_lst, t_bin, t_neg, t_ix, t_sl, t_isi, t_isis, t_iso, t_fld, t_mcl, t_new, t_blt, t_tlt, t_mth, t_call, t_how, t_lc, x_l0, x_l1, x_l2, x_av1, x_av2, x_ov1, x_ov2, x_at1, x_at2, x_ot1, x_ot2, x_p0, x_p1, x_o0, x_o1, x_seq, x_rng1, x_rng2, x_zip, sizeLine_eq, iL_len, setAll, setTg, wipeD, initS, ↓to_lb, ↓to_evl, ↓to_itl, lb_val, lb_exc, lb_none, itl_t, itl_f, evl_val, evl_none, evl_lb, isTy, z0, E1, E2, E3, E4, isW, papD]; try simp only [of_lb, of_evl, of_itl])
      | int _ => (simp -implicitDefEqProofs [x_nil, x_cons, x_expr, x_doc, x_pas, x_cont, x_brk, x_ret, x_retN, x_ite, x_set, x_asg, x_sub, x_for, x_raise, x_sfld, x_nev, x_while, x_var, x_int, x_str, x_bl, x_non, x_con, x_tup, x_lst, x_bin, x_neg, x_notv, x_nott, x_andv, x_andt, x_orv, x_ort, x_cmpv, x_cmpt, x_chnv, x_chnt, x_ife, x_ix, x_sl, x_isi, x_isis, x_iso, x_tyiv, x_tyit, x_fld, x_mcl, x_new, x_blt, x_tlt, x_mth, x_call, x_how, x_dl, x_rp, x_lc, t_var, t_int, t_str, t_bl, t_non, t_con, t_tup, t_lst, t_bin, t_neg, t_ix, t_sl, t_isi, t_isis, t_iso, t_fld, t_mcl, t_new, t_blt, t_tlt, t_mth, t_call, t_how, t_lc, x_l0, x_l1, x_l2, x_av1, x_av2, x_ov1, x_ov2, x_at1, x_at2, x_ot1, x_ot2, x_p0, x_p1, x_o0, x_o1, x_seq, x_rng1, x_rng2, x_zip, sizeLine_eq, iL_len, setAll, setTg, wipeD, initS, ↓to_lb, ↓to_evl, ↓to_itl, lb_val, lb_exc, lb_none, itl_t, itl_f, evl_val, evl_none, evl_lb, isTy, z0, E1, E2, E3, E4, isW, papD]; try simp only [of_lb, of_evl, of_itl])
      | tup _ => (simp -implicitDefEqProofs [x_nil, x_cons, x_expr, x_doc, x_pas, x_cont, x_brk, x_ret, x_retN, x_ite, x_set, x_asg, x_sub, x_for, x_raise, x_sfld, x_nev, x_while, x_var, x_int, x_str, x_bl, x_non, x_con, x_tup, x_lst, x_bin, x_neg, x_notv, x_nott, x_andv, x_andt, x_orv, x_ort, x_cmpv, x_cmpt, x_chnv, x_chnt, x_ife, x_ix, x_sl, x_isi, x_isis, x_iso, x_tyiv, x_tyit, x_fld, x_mcl, x_new, x_blt, x_tlt, x_mth, x_call, x_how, x_dl, x_rp, x_lc, t_var, t_int, t_str, t_bl, t_non, t_con, t_tup, t_lst, t_bin, t_neg, t_ix, t_sl, t_isi, t_isis, t_iso, t_fld, t_mcl, t_new, t_blt, t_tlt, t_mth, t_call, t_how, t_lc, x_l0, x_l1, x_l2, x_av1, x_av2, x_ov1, x_ov2, x_at1, x_at2, x_ot1, x_ot2, x_p0, x_p1, x_o0, x_o1, x_seq, x_rng1, x_rng2, x_zip, sizeLine_eq, iL_len, setAll, setTg, wipeD, initS, ↓to_lb, ↓to_evl, ↓to_itl, lb_val, lb_exc, lb_none, itl_t, itl_f, evl_val, evl_none, evl_lb, isTy, z0, E1, E2, E3, E4, isW, papD]; try simp only [of_lb, of_evl, of_itl])
      | lst _ => (simp -implicitDefEqProofs [x_nil, x_cons, x_expr, x_doc, x_pas, x_cont, x_brk, x_ret, x_retN, x_ite, x_set, x_asg, x_sub, x_for, x_raise, x_sfld, x_nev, x_while, x_var, x_int, x_str, x_bl, x_non, x_con, x_tup, x_lst, x_bin, x_neg, x_notv, x_nott, x_andv, x_andt, x_orv, x_ort, x_cmpv, x_cmpt, x_chnv, x_chnt, x_ife, x_ix, x_sl, x_isi, x_isis, x_iso, x_tyiv, x_tyit, x_fld, x_mcl, x_new, x_blt, x_tlt, x_mth, x_call, x_how, x_dl, x_rp, x_lc, t_var, t_int, t_str, t_bl, t_non, t_con, t_tup, t_lst, t_bin, t_neg, t_ix, t_sl, t_isi, t_isis, t_iso, t_fld, t_mcl, t_new, t_blt, t_tlt, t_mth, t_call, t_how, t_lc, x_l0, x_l1, x_l2, x_av1, x_av2, x_ov1, x_ov2, x_at1, x_at2, x_ot1, x_ot2, x_p0, x_p1, x_o0, x_o1, x_seq, x_rng1, x_rng2, x_zip, sizeLine_eq, iL_len, setAll, setTg, wipeD, initS, ↓to_lb, ↓to_evl, ↓to_itl, lb_val, lb_exc, lb_none, itl_t, itl_f, evl_val, evl_none, evl_lb, isTy, z0, E1, E2, E3, E4, isW, papD]; try simp only [of_lb, of_evl, of_itl])
      | _ => cases k <;> simp [kd] at hx
  | non => (simp -implicitDefEqProofs [x_nil, x_cons, x_expr, x_doc, x_pas, x_cont, x_brk, x_ret, x_retN, x_ite, x_set, x_asg, x_sub, x_for, x_raise, x_sfld, x_nev, x_while, x_var, x_int, x_str, x_bl, x_non, x_con, x_tup, x_lst, x_bin, x_neg, x_notv, x_nott, x_andv, x_andt, x_orv, x_ort, x_cmpv, x_cmpt, x_chnv, x_chnt, x_ife, x_ix, x_sl, x_isi, x_isis, x_iso, x_tyiv, x_tyit, x_fld, x_mcl, x_new, x_blt, x_tlt, x_mth, x_call, x_how, x_dl, x_rp, x_lc, t_var, t_int, t_str, t_bl, t_non, t_con, t_tup, t_lst, t_bin, t_neg, t_ix, t_sl, t_isi, t_isis, t_iso, t_fld, t_mcl, t_new, t_blt, t_tlt, t_mth, t_call, t_how, t_lc, x_l0, x_l1, x_l2, x_av1, x_av2, x_ov1, x_ov2, x_at1, x_at2, x_ot1, x_ot2, x_p0, x_p1, x_o0, x_o1, x_seq, x_rng1, x_rng2, x_zip, sizeLine_eq, iL_len, setAll, setTg, wipeD, initS, ↓to_lb, ↓to_evl, ↓to_itl, lb_val, lb_exc, lb_none, itl_t, itl_f, evl_val, evl_none, evl_lb, isTy, papD]; try simp only [of_lb, of_evl, of_itl])
  | bl _ => (simp -implicitDefEqProofs [x_nil, x_cons, x_expr, x_doc, x_pas, x_cont, x_brk, x_ret, x_retN, x_ite, x_set, x_asg, x_sub, x_for, x_raise, x_sfld, x_nev, x_while, x_var, x_int, x_str, x_bl, x_non, x_con, x_tup, x_lst, x_bin, x_neg, x_notv, x_nott, x_andv, x_andt, x_orv, x_ort, x_cmpv, x_cmpt, x_chnv, x_chnt, x_ife, x_ix, x_sl, x_isi, x_isis, x_iso, x_tyiv, x_tyit, x_fld, x_mcl, x_new, x_blt, x_tlt, x_mth, x_call, x_how, x_dl, x_rp, x_lc, t_var, t_int, t_str, t_bl, t_non, t_con, t_tup, t_lst, t_bin, t_neg, t_ix, t_sl, t_isi, t_isis, t_iso, t_fld, t_mcl, t_new, t_blt, t_tlt, t_mth, t_call, t_how, t_lc, x_l0, x_l1, x_l2, x_av1, x_av2, x_ov1, x_ov2, x_at1, x_at2, x_ot1, x_ot2, x_p0, x_p1, x_o0, x_o1, x_seq, x_rng1, x_rng2, x_zip, sizeLine_eq, iL_len, setAll, setTg, wipeD, initS, ↓to_lb, ↓to_evl, ↓to_itl, lb_val, lb_exc, lb_none, itl_t, itl_f, evl_val, evl_none, evl_lb, isTy, papD]; try simp only [of_lb, of_evl, of_itl])
  | int _ => (simp -implicitDefEqProofs [x_nil, x_cons, x_expr, x_doc, x_pas, x_cont, x_brk, x_ret, x_retN, x_ite, x_set, x_asg, x_sub, x_for, x_raise, x_sfld, x_nev, x_while, x_var, x_int, x_str, x_bl, x_non, x_con, x_tup, x_lst, x_bin, x_neg, x_notv, x_nott, x_andv, x_andt, x_orv, x_ort, x_cmpv, x_cmpt, x_chnv, x_chnt, x_ife, x_ix, x_sl, x_isi, x_isis, x_iso, x_tyiv, x_tyit, x_fld, x_mcl, x_new, x_blt, x_tlt, x_mth, x_call, x_how, x_dl, x_rp, x_lc, t_var, t_int, t_str, t_bl, t_non, t_con, t_tup, t_lst, t_bin, t_neg, t_ix, t_sl, t_isi, t_isis, t_iso, t_fld, t_mcl, t_new, t_blt, t_tlt, t_mth, t_call, t_how, t_lc, x_l0, x_l1, x_l2, x_av1, x_av2, x_ov1, x_ov2, x_at1, x_at2, x_ot1, x_ot2, x_p0, x_p1, x_o0, x_o1, x_seq, x_rng1, x_rng2, x_zip, sizeLine_eq, iL_len, setAll, setTg, wipeD, initS, ↓to_lb, ↓to_evl, ↓to_itl, lb_val, lb_exc, lb_none, itl_t, itl_f, evl_val, evl_none, evl_lb, isTy, papD]; try simp only [of_lb, of_evl, of_itl])
  | str _ => (simp -implicitDefEqProofs [x_nil, x_cons, x_expr, x_doc, x_pas, x_cont, x_brk, x_ret, x_retN, x_ite, x_set, x_asg, x_sub, x_for, x_raise, x_sfld, x_nev, x_while, x_var, x_int, x_str, x_bl, x_non, x_con, x_tup, x_lst, x_bin, x_neg, x_notv, x_nott, x_andv, x_andt, x_orv, x_ort, x_cmpv, x_cmpt, x_chnv, x_chnt, x_ife, x_ix, x_sl, x_isi, x_isis, x_iso, x_tyiv, x_tyit, x_fld, x_mcl, x_new, x_blt, x_tlt, x_mth, x_call, x_how, x_dl, x_rp, x_lc, t_var, t_int, t_str, t_bl, t_non, t_con, t_tup, t_lst, t_bin, t_neg, t_ix, t_sl, t_isi, t_isis, t_iso, t_fld, t_mcl, t_new, t_blt, t_tlt, t_mth, t_call, t_how, t_lc, x_l0, x_l1, x_l2, x_av1, x_av2, x_ov1, x_ov2, x_at1, x_at2, x_ot1, x_ot2, x_p0, x_p1, x_o0, x_o1, x_seq, x_rng1, x_rng2, x_zip, sizeLine_eq, iL_len, setAll, setTg, wipeD, initS, ↓to_lb, ↓to_evl, ↓to_itl, lb_val, lb_exc, lb_none, itl_t, itl_f, evl_val, evl_none, evl_lb, isTy, papD]; try simp only [of_lb, of_evl, of_itl])
  | lst _ => (simp -implicitDefEqProofs [x_nil, x_cons, x_expr, x_doc, x_pas, x_cont, x_brk, x_ret, x_retN, x_ite, x_set, x_asg, x_sub, x_for, x_raise, x_sfld, x_nev, x_while, x_var, x_int, x_str, x_bl, x_non, x_con, x_tup, x_lst, x_bin, x_neg, x_notv, x_nott, x_andv, x_andt, x_orv, x_ort, x_cmpv, x_cmpt, x_chnv, x_chnt, x_ife, x_ix, x_sl, x_isi, x_isis, x_iso, x_tyiv, x_tyit, x_fld, x_mcl, x_new, x_blt, x_tlt, x_mth, x_call, x_how, x_dl, x_rp, x_lc, t_var, t_int, t_str, t_bl, t_non, t_con, t_tup, t_lst, t_bin, t_neg, t_ix, t_sl, t_isi, t_isis, t_iso, t_fld, t_mcl, t_new, t_blt, t_tlt, t_mth, t_call, t_how, t_lc, x_l0, x_l1, x_l2, x_av1, x_av2, x_ov1, x_ov2, x_at1, x_at2, x_ot1, x_ot2, x_p0, x_p1, x_o0, x_o1, x_seq, x_rng1, x_rng2, x_zip, sizeLine_eq, iL_len, setAll, setTg, wipeD, initS, ↓to_lb, ↓to_evl, ↓to_itl, lb_val, lb_exc, lb_none, itl_t, itl_f, evl_val, evl_none, evl_lb, isTy, papD]; try simp only [of_lb, of_evl, of_itl])
  | _ => cases m <;> simp [kd] at h
theorem look_shows_ {un : List (List Int)} {goal : List Int} (g0 : goal ≠ []) (gL : goal.length ≤ 1000) (gb : BndF 300 goal) (hu : ∀ u ∈ un, u.length = goal.length ∧ BndF 200 u) : ∀ (left : Nat) (hs : List (List Int)) (m : Nat) (d : D), kd m d = true → m ≤ 50 → (∀ h ∈ hs, h.length = goal.length ∧ BndF 300 h) → hs.length + left ≤ 9000 →
    SM (n + left + 8) i_Look_shows [LI goal.length un goal, d, .lst (hD hs), .int left] cs = some (.val (.bl (showsD un goal left hs d)), cs) := by
  intro left
  induction left with
  | zero =>
    intro hs m d hd hm hh hl
    have P := is_paper_ (n + 4) cs hd hm
    cases e : papD d with
    | none =>
      rw [e_Look_shows, b_Look_shows, showsD_none e]
      rw [e] at P
      (simp -implicitDefEqProofs [x_nil, x_cons, x_expr, x_doc, x_pas, x_cont, x_brk, x_ret, x_retN, x_ite, x_set, x_asg, x_sub, x_for, x_raise, x_sfld, x_nev, x_while, x_var, x_int, x_str, x_bl, x_non, x_con, x_tup, x_lst, x_bin, x_neg, x_notv, x_nott, x_andv, x_andt, x_orv, x_ort, x_cmpv, x_cmpt, x_chnv, x_chnt, x_ife, x_ix, x_sl, x_isi, x_isis, x_iso, x_tyiv, x_tyit, x_fld, x_mcl, x_new, x_blt, x_tlt, x_mth, x_call, x_how, x_dl, x_rp, x_lc, t_var, t_int, t_str, t_bl, t_non, t_con, t_tup, t_lst, t_bin, t_neg, t_ix, t_sl, t_isi, t_isis, t_iso, t_fld, t_mcl, t_new, t_blt, t_tlt, t_mth, t_call, t_how, t_lc, x_l0, x_l1, x_l2, x_av1, x_av2, x_ov1, x_ov2, x_at1, x_at2, x_ot1, x_ot2, x_p0, x_p1, x_o0, x_o1, x_seq, x_rng1, x_rng2, x_zip, sizeLine_eq, iL_len, setAll, setTg, wipeD, initS, ↓to_lb, ↓to_evl, ↓to_itl, lb_val, lb_exc, lb_none, itl_t, itl_f, evl_val, evl_none, evl_lb, P]; try simp only [of_lb, of_evl, of_itl])
    | some c =>
      rw [e] at P
      obtain ⟨rfl, m', rfl, ok⟩ := papD_ok hd e
      rw [e_Look_shows, b_Look_shows]
      cases c with
      | sum k ws =>
        obtain ⟨k1, k2, w1, w2⟩ := ok
        have S := sum_shows_ (n + 5) cs (L := goal.length) (k := k) (un := un) (ws := ws) g0 gL gb hh (fun w hw => (w2 w hw).2) k2
        have V : showsD un goal 0 hs (Pc.enc (.sum k ws)) = sumM k ws hs goal := by simp only [showsD, e]
        rw [V]
        simp only [Pc.enc] at P ⊢
        (simp -implicitDefEqProofs [x_nil, x_cons, x_expr, x_doc, x_pas, x_cont, x_brk, x_ret, x_retN, x_ite, x_set, x_asg, x_sub, x_for, x_raise, x_sfld, x_nev, x_while, x_var, x_int, x_str, x_bl, x_non, x_con, x_tup, x_lst, x_bin, x_neg, x_notv, x_nott, x_andv, x_andt, x_orv, x_ort, x_cmpv, x_cmpt, x_chnv, x_chnt, x_ife, x_ix, x_sl, x_isi, x_isis, x_iso, x_tyiv, x_tyit, x_fld, x_mcl, x_new, x_blt, x_tlt, x_mth, x_call, x_how, x_dl, x_rp, x_lc, t_var, t_int, t_str, t_bl, t_non, t_con, t_tup, t_lst, t_bin, t_neg, t_ix, t_sl, t_isi, t_isis, t_iso, t_fld, t_mcl, t_new, t_blt, t_tlt, t_mth, t_call, t_how, t_lc, x_l0, x_l1, x_l2, x_av1, x_av2, x_ov1, x_ov2, x_at1, x_at2, x_ot1, x_ot2, x_p0, x_p1, x_o0, x_o1, x_seq, x_rng1, x_rng2, x_zip, sizeLine_eq, iL_len, setAll, setTg, wipeD, initS, ↓to_lb, ↓to_evl, ↓to_itl, lb_val, lb_exc, lb_none, itl_t, itl_f, evl_val, evl_none, evl_lb, P, S]; try simp only [of_lb, of_evl, of_itl])
      | nev ws =>
        obtain ⟨w1, w2⟩ := ok
        have S := never_shows_ (n + 5) cs (L := goal.length) (un := un) g0 gL gb hh (fun w hw => (w2 w hw).2)
        have V : showsD un goal 0 hs (Pc.enc (.nev ws)) = nevM ws hs goal := by simp only [showsD, e]
        rw [V]
        simp only [Pc.enc] at P ⊢
        (simp -implicitDefEqProofs [x_nil, x_cons, x_expr, x_doc, x_pas, x_cont, x_brk, x_ret, x_retN, x_ite, x_set, x_asg, x_sub, x_for, x_raise, x_sfld, x_nev, x_while, x_var, x_int, x_str, x_bl, x_non, x_con, x_tup, x_lst, x_bin, x_neg, x_notv, x_nott, x_andv, x_andt, x_orv, x_ort, x_cmpv, x_cmpt, x_chnv, x_chnt, x_ife, x_ix, x_sl, x_isi, x_isis, x_iso, x_tyiv, x_tyit, x_fld, x_mcl, x_new, x_blt, x_tlt, x_mth, x_call, x_how, x_dl, x_rp, x_lc, t_var, t_int, t_str, t_bl, t_non, t_con, t_tup, t_lst, t_bin, t_neg, t_ix, t_sl, t_isi, t_isis, t_iso, t_fld, t_mcl, t_new, t_blt, t_tlt, t_mth, t_call, t_how, t_lc, x_l0, x_l1, x_l2, x_av1, x_av2, x_ov1, x_ov2, x_at1, x_at2, x_ot1, x_ot2, x_p0, x_p1, x_o0, x_o1, x_seq, x_rng1, x_rng2, x_zip, sizeLine_eq, iL_len, setAll, setTg, wipeD, initS, ↓to_lb, ↓to_evl, ↓to_itl, lb_val, lb_exc, lb_none, itl_t, itl_f, evl_val, evl_none, evl_lb, P, S]; try simp only [of_lb, of_evl, of_itl])
      | spl f a b =>
        have V : showsD un goal 0 hs (Pc.enc (.spl f a b)) = false := by simp only [showsD, e]
        rw [V]
        simp only [Pc.enc] at P ⊢
        (simp -implicitDefEqProofs [x_nil, x_cons, x_expr, x_doc, x_pas, x_cont, x_brk, x_ret, x_retN, x_ite, x_set, x_asg, x_sub, x_for, x_raise, x_sfld, x_nev, x_while, x_var, x_int, x_str, x_bl, x_non, x_con, x_tup, x_lst, x_bin, x_neg, x_notv, x_nott, x_andv, x_andt, x_orv, x_ort, x_cmpv, x_cmpt, x_chnv, x_chnt, x_ife, x_ix, x_sl, x_isi, x_isis, x_iso, x_tyiv, x_tyit, x_fld, x_mcl, x_new, x_blt, x_tlt, x_mth, x_call, x_how, x_dl, x_rp, x_lc, t_var, t_int, t_str, t_bl, t_non, t_con, t_tup, t_lst, t_bin, t_neg, t_ix, t_sl, t_isi, t_isis, t_iso, t_fld, t_mcl, t_new, t_blt, t_tlt, t_mth, t_call, t_how, t_lc, x_l0, x_l1, x_l2, x_av1, x_av2, x_ov1, x_ov2, x_at1, x_at2, x_ot1, x_ot2, x_p0, x_p1, x_o0, x_o1, x_seq, x_rng1, x_rng2, x_zip, sizeLine_eq, iL_len, setAll, setTg, wipeD, initS, ↓to_lb, ↓to_evl, ↓to_itl, lb_val, lb_exc, lb_none, itl_t, itl_f, evl_val, evl_none, evl_lb, P]; try simp only [of_lb, of_evl, of_itl])
      | apt i a b =>
        have V : showsD un goal 0 hs (Pc.enc (.apt i a b)) = false := by simp only [showsD, e]
        rw [V]
        simp only [Pc.enc] at P ⊢
        (simp -implicitDefEqProofs [x_nil, x_cons, x_expr, x_doc, x_pas, x_cont, x_brk, x_ret, x_retN, x_ite, x_set, x_asg, x_sub, x_for, x_raise, x_sfld, x_nev, x_while, x_var, x_int, x_str, x_bl, x_non, x_con, x_tup, x_lst, x_bin, x_neg, x_notv, x_nott, x_andv, x_andt, x_orv, x_ort, x_cmpv, x_cmpt, x_chnv, x_chnt, x_ife, x_ix, x_sl, x_isi, x_isis, x_iso, x_tyiv, x_tyit, x_fld, x_mcl, x_new, x_blt, x_tlt, x_mth, x_call, x_how, x_dl, x_rp, x_lc, t_var, t_int, t_str, t_bl, t_non, t_con, t_tup, t_lst, t_bin, t_neg, t_ix, t_sl, t_isi, t_isis, t_iso, t_fld, t_mcl, t_new, t_blt, t_tlt, t_mth, t_call, t_how, t_lc, x_l0, x_l1, x_l2, x_av1, x_av2, x_ov1, x_ov2, x_at1, x_at2, x_ot1, x_ot2, x_p0, x_p1, x_o0, x_o1, x_seq, x_rng1, x_rng2, x_zip, sizeLine_eq, iL_len, setAll, setTg, wipeD, initS, ↓to_lb, ↓to_evl, ↓to_itl, lb_val, lb_exc, lb_none, itl_t, itl_f, evl_val, evl_none, evl_lb, P]; try simp only [of_lb, of_evl, of_itl])
  | succ l ih =>
    intro hs m d hd hm hh hl
    have P : SM (n + l + 8) i__is_paper [d] cs = _ := is_paper_ (n + l + 5) cs hd hm
    have e1 : ¬ ((l : Int) + 1 = 0) := by omega
    have e2 : ((l + 1 : Nat) : Int) - 1 = (l : Int) := by omega
    rw [show n + (l + 1) + 8 = (n + l + 8) + 1 by omega, e_Look_shows, b_Look_shows]
    cases e : papD d with
    | none =>
      rw [showsD_none e]
      rw [e] at P
      (simp -implicitDefEqProofs [x_nil, x_cons, x_expr, x_doc, x_pas, x_cont, x_brk, x_ret, x_retN, x_ite, x_set, x_asg, x_sub, x_for, x_raise, x_sfld, x_nev, x_while, x_var, x_int, x_str, x_bl, x_non, x_con, x_tup, x_lst, x_bin, x_neg, x_notv, x_nott, x_andv, x_andt, x_orv, x_ort, x_cmpv, x_cmpt, x_chnv, x_chnt, x_ife, x_ix, x_sl, x_isi, x_isis, x_iso, x_tyiv, x_tyit, x_fld, x_mcl, x_new, x_blt, x_tlt, x_mth, x_call, x_how, x_dl, x_rp, x_lc, t_var, t_int, t_str, t_bl, t_non, t_con, t_tup, t_lst, t_bin, t_neg, t_ix, t_sl, t_isi, t_isis, t_iso, t_fld, t_mcl, t_new, t_blt, t_tlt, t_mth, t_call, t_how, t_lc, x_l0, x_l1, x_l2, x_av1, x_av2, x_ov1, x_ov2, x_at1, x_at2, x_ot1, x_ot2, x_p0, x_p1, x_o0, x_o1, x_seq, x_rng1, x_rng2, x_zip, sizeLine_eq, iL_len, setAll, setTg, wipeD, initS, ↓to_lb, ↓to_evl, ↓to_itl, lb_val, lb_exc, lb_none, itl_t, itl_f, evl_val, evl_none, evl_lb, P]; try simp only [of_lb, of_evl, of_itl])
    | some c =>
      rw [e] at P
      obtain ⟨rfl, m', rfl, ok⟩ := papD_ok hd e
      cases c with
      | sum k ws =>
        obtain ⟨k1, k2, w1, w2⟩ := ok
        have S : SM (n + l + 8) i_Look__sum_shows _ cs = _ := sum_shows_ (n + l + 6) cs (L := goal.length) (k := k) (un := un) (ws := ws) g0 gL gb hh (fun w hw => (w2 w hw).2) k2
        have V : showsD un goal (l + 1) hs (Pc.enc (.sum k ws)) = sumM k ws hs goal := by simp only [showsD, e]
        rw [V]
        simp only [Pc.enc] at P ⊢
        (simp -implicitDefEqProofs [x_nil, x_cons, x_expr, x_doc, x_pas, x_cont, x_brk, x_ret, x_retN, x_ite, x_set, x_asg, x_sub, x_for, x_raise, x_sfld, x_nev, x_while, x_var, x_int, x_str, x_bl, x_non, x_con, x_tup, x_lst, x_bin, x_neg, x_notv, x_nott, x_andv, x_andt, x_orv, x_ort, x_cmpv, x_cmpt, x_chnv, x_chnt, x_ife, x_ix, x_sl, x_isi, x_isis, x_iso, x_tyiv, x_tyit, x_fld, x_mcl, x_new, x_blt, x_tlt, x_mth, x_call, x_how, x_dl, x_rp, x_lc, t_var, t_int, t_str, t_bl, t_non, t_con, t_tup, t_lst, t_bin, t_neg, t_ix, t_sl, t_isi, t_isis, t_iso, t_fld, t_mcl, t_new, t_blt, t_tlt, t_mth, t_call, t_how, t_lc, x_l0, x_l1, x_l2, x_av1, x_av2, x_ov1, x_ov2, x_at1, x_at2, x_ot1, x_ot2, x_p0, x_p1, x_o0, x_o1, x_seq, x_rng1, x_rng2, x_zip, sizeLine_eq, iL_len, setAll, setTg, wipeD, initS, ↓to_lb, ↓to_evl, ↓to_itl, lb_val, lb_exc, lb_none, itl_t, itl_f, evl_val, evl_none, evl_lb, P, S]; try simp only [of_lb, of_evl, of_itl])
      | nev ws =>
        obtain ⟨w1, w2⟩ := ok
        have S : SM (n + l + 8) i_Look__never_shows _ cs = _ := never_shows_ (n + l + 6) cs (L := goal.length) (un := un) g0 gL gb hh (fun w hw => (w2 w hw).2)
        have V : showsD un goal (l + 1) hs (Pc.enc (.nev ws)) = nevM ws hs goal := by simp only [showsD, e]
        rw [V]
        simp only [Pc.enc] at P ⊢
        (simp -implicitDefEqProofs [x_nil, x_cons, x_expr, x_doc, x_pas, x_cont, x_brk, x_ret, x_retN, x_ite, x_set, x_asg, x_sub, x_for, x_raise, x_sfld, x_nev, x_while, x_var, x_int, x_str, x_bl, x_non, x_con, x_tup, x_lst, x_bin, x_neg, x_notv, x_nott, x_andv, x_andt, x_orv, x_ort, x_cmpv, x_cmpt, x_chnv, x_chnt, x_ife, x_ix, x_sl, x_isi, x_isis, x_iso, x_tyiv, x_tyit, x_fld, x_mcl, x_new, x_blt, x_tlt, x_mth, x_call, x_how, x_dl, x_rp, x_lc, t_var, t_int, t_str, t_bl, t_non, t_con, t_tup, t_lst, t_bin, t_neg, t_ix, t_sl, t_isi, t_isis, t_iso, t_fld, t_mcl, t_new, t_blt, t_tlt, t_mth, t_call, t_how, t_lc, x_l0, x_l1, x_l2, x_av1, x_av2, x_ov1, x_ov2, x_at1, x_at2, x_ot1, x_ot2, x_p0, x_p1, x_o0, x_o1, x_seq, x_rng1, x_rng2, x_zip, sizeLine_eq, iL_len, setAll, setTg, wipeD, initS, ↓to_lb, ↓to_evl, ↓to_itl, lb_val, lb_exc, lb_none, itl_t, itl_f, evl_val, evl_none, evl_lb, P, S]; try simp only [of_lb, of_evl, of_itl])
      | spl f a b =>
        obtain ⟨f0, f1, f2, ka, kb⟩ := ok
        have C : SM (n + l + 8) i_Forms_further _ cs = _ := further_ (n + l + 2) cs f0 f1 f2 (by decide)
        have V : showsD un goal (l + 1) hs (Pc.enc (.spl f a b)) = (decide (f.length = goal.length) && (showsD un goal l (hs ++ [f]) a && showsD un goal l (hs ++ [conF f]) b)) := by simp only [showsD, e]
        rw [V]
        simp only [Pc.enc] at P ⊢
        by_cases c : f.length = goal.length
        · have A := ih (hs ++ [f]) m' a ka (by omega) (all_app hh ⟨c, f2.mono (by decide)⟩) (by simp; omega)
          have B := ih (hs ++ [conF f]) m' b kb (by omega) (all_app hh ⟨by rw [conF_len, c], f2.con.mono (by decide)⟩) (by simp; omega)
          have b1 := binD_lst cs (hD hs) [D.tup (iL f)] (by simp [hD, sizeLine]; omega)
          have b2 := binD_lst cs (hD hs) [D.tup (iL (conF f))] (by simp [hD, sizeLine]; omega)
          rw [hD_app] at b1 b2
          (simp -implicitDefEqProofs [x_nil, x_cons, x_expr, x_doc, x_pas, x_cont, x_brk, x_ret, x_retN, x_ite, x_set, x_asg, x_sub, x_for, x_raise, x_sfld, x_nev, x_while, x_var, x_int, x_str, x_bl, x_non, x_con, x_tup, x_lst, x_bin, x_neg, x_notv, x_nott, x_andv, x_andt, x_orv, x_ort, x_cmpv, x_cmpt, x_chnv, x_chnt, x_ife, x_ix, x_sl, x_isi, x_isis, x_iso, x_tyiv, x_tyit, x_fld, x_mcl, x_new, x_blt, x_tlt, x_mth, x_call, x_how, x_dl, x_rp, x_lc, t_var, t_int, t_str, t_bl, t_non, t_con, t_tup, t_lst, t_bin, t_neg, t_ix, t_sl, t_isi, t_isis, t_iso, t_fld, t_mcl, t_new, t_blt, t_tlt, t_mth, t_call, t_how, t_lc, x_l0, x_l1, x_l2, x_av1, x_av2, x_ov1, x_ov2, x_at1, x_at2, x_ot1, x_ot2, x_p0, x_p1, x_o0, x_o1, x_seq, x_rng1, x_rng2, x_zip, sizeLine_eq, iL_len, setAll, setTg, wipeD, initS, ↓to_lb, ↓to_evl, ↓to_itl, lb_val, lb_exc, lb_none, itl_t, itl_f, evl_val, evl_none, evl_lb, P, c, C, b1, b2, e2, e1, A, B]; try simp only [of_lb, of_evl, of_itl])
          cases showsD un goal l (hs ++ [f]) a
          · (simp -implicitDefEqProofs [x_nil, x_cons, x_expr, x_doc, x_pas, x_cont, x_brk, x_ret, x_retN, x_ite, x_set, x_asg, x_sub, x_for, x_raise, x_sfld, x_nev, x_while, x_var, x_int, x_str, x_bl, x_non, x_con, x_tup, x_lst, x_bin, x_neg, x_notv, x_nott, x_andv, x_andt, x_orv, x_ort, x_cmpv, x_cmpt, x_chnv, x_chnt, x_ife, x_ix, x_sl, x_isi, x_isis, x_iso, x_tyiv, x_tyit, x_fld, x_mcl, x_new, x_blt, x_tlt, x_mth, x_call, x_how, x_dl, x_rp, x_lc, t_var, t_int, t_str, t_bl, t_non, t_con, t_tup, t_lst, t_bin, t_neg, t_ix, t_sl, t_isi, t_isis, t_iso, t_fld, t_mcl, t_new, t_blt, t_tlt, t_mth, t_call, t_how, t_lc, x_l0, x_l1, x_l2, x_av1, x_av2, x_ov1, x_ov2, x_at1, x_at2, x_ot1, x_ot2, x_p0, x_p1, x_o0, x_o1, x_seq, x_rng1, x_rng2, x_zip, sizeLine_eq, iL_len, setAll, setTg, wipeD, initS, ↓to_lb, ↓to_evl, ↓to_itl, lb_val, lb_exc, lb_none, itl_t, itl_f, evl_val, evl_none, evl_lb]; try simp only [of_lb, of_evl, of_itl])
          · (simp -implicitDefEqProofs [x_nil, x_cons, x_expr, x_doc, x_pas, x_cont, x_brk, x_ret, x_retN, x_ite, x_set, x_asg, x_sub, x_for, x_raise, x_sfld, x_nev, x_while, x_var, x_int, x_str, x_bl, x_non, x_con, x_tup, x_lst, x_bin, x_neg, x_notv, x_nott, x_andv, x_andt, x_orv, x_ort, x_cmpv, x_cmpt, x_chnv, x_chnt, x_ife, x_ix, x_sl, x_isi, x_isis, x_iso, x_tyiv, x_tyit, x_fld, x_mcl, x_new, x_blt, x_tlt, x_mth, x_call, x_how, x_dl, x_rp, x_lc, t_var, t_int, t_str, t_bl, t_non, t_con, t_tup, t_lst, t_bin, t_neg, t_ix, t_sl, t_isi, t_isis, t_iso, t_fld, t_mcl, t_new, t_blt, t_tlt, t_mth, t_call, t_how, t_lc, x_l0, x_l1, x_l2, x_av1, x_av2, x_ov1, x_ov2, x_at1, x_at2, x_ot1, x_ot2, x_p0, x_p1, x_o0, x_o1, x_seq, x_rng1, x_rng2, x_zip, sizeLine_eq, iL_len, setAll, setTg, wipeD, initS, ↓to_lb, ↓to_evl, ↓to_itl, lb_val, lb_exc, lb_none, itl_t, itl_f, evl_val, evl_none, evl_lb, b2, B]; try simp only [of_lb, of_evl, of_itl])
        · have c2 : ¬ ((f.length : Int) = goal.length) := by omega
          (simp -implicitDefEqProofs [x_nil, x_cons, x_expr, x_doc, x_pas, x_cont, x_brk, x_ret, x_retN, x_ite, x_set, x_asg, x_sub, x_for, x_raise, x_sfld, x_nev, x_while, x_var, x_int, x_str, x_bl, x_non, x_con, x_tup, x_lst, x_bin, x_neg, x_notv, x_nott, x_andv, x_andt, x_orv, x_ort, x_cmpv, x_cmpt, x_chnv, x_chnt, x_ife, x_ix, x_sl, x_isi, x_isis, x_iso, x_tyiv, x_tyit, x_fld, x_mcl, x_new, x_blt, x_tlt, x_mth, x_call, x_how, x_dl, x_rp, x_lc, t_var, t_int, t_str, t_bl, t_non, t_con, t_tup, t_lst, t_bin, t_neg, t_ix, t_sl, t_isi, t_isis, t_iso, t_fld, t_mcl, t_new, t_blt, t_tlt, t_mth, t_call, t_how, t_lc, x_l0, x_l1, x_l2, x_av1, x_av2, x_ov1, x_ov2, x_at1, x_at2, x_ot1, x_ot2, x_p0, x_p1, x_o0, x_o1, x_seq, x_rng1, x_rng2, x_zip, sizeLine_eq, iL_len, setAll, setTg, wipeD, initS, ↓to_lb, ↓to_evl, ↓to_itl, lb_val, lb_exc, lb_none, itl_t, itl_f, evl_val, evl_none, evl_lb, P, c, c2, e1]; try simp only [of_lb, of_evl, of_itl])
      | apt i a b =>
        obtain ⟨ka, kb⟩ := ok
        cases hu' : un[i]? with
        | none =>
          have c2 : (un.length : Int) ≤ (i : Int) := by
            have := List.getElem?_eq_none_iff.mp hu'
            omega
          have V : showsD un goal (l + 1) hs (Pc.enc (.apt i a b)) = false := by simp only [showsD, e, hu']
          rw [V]
          simp only [Pc.enc] at P ⊢
          (simp -implicitDefEqProofs [x_nil, x_cons, x_expr, x_doc, x_pas, x_cont, x_brk, x_ret, x_retN, x_ite, x_set, x_asg, x_sub, x_for, x_raise, x_sfld, x_nev, x_while, x_var, x_int, x_str, x_bl, x_non, x_con, x_tup, x_lst, x_bin, x_neg, x_notv, x_nott, x_andv, x_andt, x_orv, x_ort, x_cmpv, x_cmpt, x_chnv, x_chnt, x_ife, x_ix, x_sl, x_isi, x_isis, x_iso, x_tyiv, x_tyit, x_fld, x_mcl, x_new, x_blt, x_tlt, x_mth, x_call, x_how, x_dl, x_rp, x_lc, t_var, t_int, t_str, t_bl, t_non, t_con, t_tup, t_lst, t_bin, t_neg, t_ix, t_sl, t_isi, t_isis, t_iso, t_fld, t_mcl, t_new, t_blt, t_tlt, t_mth, t_call, t_how, t_lc, x_l0, x_l1, x_l2, x_av1, x_av2, x_ov1, x_ov2, x_at1, x_at2, x_ot1, x_ot2, x_p0, x_p1, x_o0, x_o1, x_seq, x_rng1, x_rng2, x_zip, sizeLine_eq, iL_len, setAll, setTg, wipeD, initS, ↓to_lb, ↓to_evl, ↓to_itl, lb_val, lb_exc, lb_none, itl_t, itl_f, evl_val, evl_none, evl_lb, P, e1, hD_len, c2]; try simp only [of_lb, of_evl, of_itl])
        | some u =>
          have hmem := List.mem_of_getElem? hu'
          obtain ⟨ul, ub⟩ := hu u hmem
          have u0 : u ≠ [] := by
            intro c
            rw [c] at ul
            exact g0 (List.length_eq_zero_iff.mp ul.symm)
          have c2 : ¬ ((un.length : Int) ≤ (i : Int)) := by
            have := (List.getElem?_eq_some_iff.mp hu').1
            omega
          have V : showsD un goal (l + 1) hs (Pc.enc (.apt i a b)) = (showsD un goal l (hs ++ [sideF u]) a && showsD un goal l (hs ++ [conF u]) b) := by simp only [showsD, e, hu']
          rw [V]
          simp only [Pc.enc] at P ⊢
          have at' : L2.atI (hD un) (i : Int) = some (.tup (iL u)) := at_lst _ i _ (by simp [hD, hu'])
          have Pd : SM (n + l + 8) i_Forms_parted _ cs = _ := parted_ (n + l + 1) cs u0 (by omega) ub (by decide)
          have A := ih (hs ++ [sideF u]) m' a ka (by omega) (all_app hh ⟨by rw [sideF_len, ul], ub.side.mono (by decide)⟩) (by simp; omega)
          have B := ih (hs ++ [conF u]) m' b kb (by omega) (all_app hh ⟨by rw [conF_len, ul], ub.con.mono (by decide)⟩) (by simp; omega)
          have b1 := binD_lst cs (hD hs) [D.tup (iL (sideF u))] (by simp [hD, sizeLine]; omega)
          have b2 := binD_lst cs (hD hs) [D.tup (iL (conF u))] (by simp [hD, sizeLine]; omega)
          rw [hD_app] at b1 b2
          (simp -implicitDefEqProofs [x_nil, x_cons, x_expr, x_doc, x_pas, x_cont, x_brk, x_ret, x_retN, x_ite, x_set, x_asg, x_sub, x_for, x_raise, x_sfld, x_nev, x_while, x_var, x_int, x_str, x_bl, x_non, x_con, x_tup, x_lst, x_bin, x_neg, x_notv, x_nott, x_andv, x_andt, x_orv, x_ort, x_cmpv, x_cmpt, x_chnv, x_chnt, x_ife, x_ix, x_sl, x_isi, x_isis, x_iso, x_tyiv, x_tyit, x_fld, x_mcl, x_new, x_blt, x_tlt, x_mth, x_call, x_how, x_dl, x_rp, x_lc, t_var, t_int, t_str, t_bl, t_non, t_con, t_tup, t_lst, t_bin, t_neg, t_ix, t_sl, t_isi, t_isis, t_iso, t_fld, t_mcl, t_new, t_blt, t_tlt, t_mth, t_call, t_how, t_lc, x_l0, x_l1, x_l2, x_av1, x_av2, x_ov1, x_ov2, x_at1, x_at2, x_ot1, x_ot2, x_p0, x_p1, x_o0, x_o1, x_seq, x_rng1, x_rng2, x_zip, sizeLine_eq, iL_len, setAll, setTg, wipeD, initS, ↓to_lb, ↓to_evl, ↓to_itl, lb_val, lb_exc, lb_none, itl_t, itl_f, evl_val, evl_none, evl_lb, P, e1, hD_len, c2, at', Pd, b1, e2, A]; try simp only [of_lb, of_evl, of_itl])
          cases showsD un goal l (hs ++ [sideF u]) a
          · (simp -implicitDefEqProofs [x_nil, x_cons, x_expr, x_doc, x_pas, x_cont, x_brk, x_ret, x_retN, x_ite, x_set, x_asg, x_sub, x_for, x_raise, x_sfld, x_nev, x_while, x_var, x_int, x_str, x_bl, x_non, x_con, x_tup, x_lst, x_bin, x_neg, x_notv, x_nott, x_andv, x_andt, x_orv, x_ort, x_cmpv, x_cmpt, x_chnv, x_chnt, x_ife, x_ix, x_sl, x_isi, x_isis, x_iso, x_tyiv, x_tyit, x_fld, x_mcl, x_new, x_blt, x_tlt, x_mth, x_call, x_how, x_dl, x_rp, x_lc, t_var, t_int, t_str, t_bl, t_non, t_con, t_tup, t_lst, t_bin, t_neg, t_ix, t_sl, t_isi, t_isis, t_iso, t_fld, t_mcl, t_new, t_blt, t_tlt, t_mth, t_call, t_how, t_lc, x_l0, x_l1, x_l2, x_av1, x_av2, x_ov1, x_ov2, x_at1, x_at2, x_ot1, x_ot2, x_p0, x_p1, x_o0, x_o1, x_seq, x_rng1, x_rng2, x_zip, sizeLine_eq, iL_len, setAll, setTg, wipeD, initS, ↓to_lb, ↓to_evl, ↓to_itl, lb_val, lb_exc, lb_none, itl_t, itl_f, evl_val, evl_none, evl_lb]; try simp only [of_lb, of_evl, of_itl])
          · (simp -implicitDefEqProofs [x_nil, x_cons, x_expr, x_doc, x_pas, x_cont, x_brk, x_ret, x_retN, x_ite, x_set, x_asg, x_sub, x_for, x_raise, x_sfld, x_nev, x_while, x_var, x_int, x_str, x_bl, x_non, x_con, x_tup, x_lst, x_bin, x_neg, x_notv, x_nott, x_andv, x_andt, x_orv, x_ort, x_cmpv, x_cmpt, x_chnv, x_chnt, x_ife, x_ix, x_sl, x_isi, x_isis, x_iso, x_tyiv, x_tyit, x_fld, x_mcl, x_new, x_blt, x_tlt, x_mth, x_call, x_how, x_dl, x_rp, x_lc, t_var, t_int, t_str, t_bl, t_non, t_con, t_tup, t_lst, t_bin, t_neg, t_ix, t_sl, t_isi, t_isis, t_iso, t_fld, t_mcl, t_new, t_blt, t_tlt, t_mth, t_call, t_how, t_lc, x_l0, x_l1, x_l2, x_av1, x_av2, x_ov1, x_ov2, x_at1, x_at2, x_ot1, x_ot2, x_p0, x_p1, x_o0, x_o1, x_seq, x_rng1, x_rng2, x_zip, sizeLine_eq, iL_len, setAll, setTg, wipeD, initS, ↓to_lb, ↓to_evl, ↓to_itl, lb_val, lb_exc, lb_none, itl_t, itl_f, evl_val, evl_none, evl_lb, b2, B]; try simp only [of_lb, of_evl, of_itl])
theorem shows_ {un : List (List Int)} {goal : List Int} {hs : List (List Int)} {m : Nat} {d : D} (hc : cs.all (cleanC 0) = true) (g0 : goal ≠ []) (gL : goal.length ≤ 1000) (gb : BndF 300 goal) (hu : ∀ u ∈ un, u.length = goal.length ∧ BndF 200 u) (hd : kd m d = true) (hm : m ≤ 50) (hh : ∀ h ∈ hs, h.length = goal.length ∧ BndF 300 h) (hl : hs.length ≤ 8000) :
    SM (n + 19) i_shows [d, .lst (hD hs), .lst (hD un), .tup (iL goal)] cs = some (.val (.bl (showsD un goal 10 hs d)), cs) := by
  rw [e_shows, b_shows]
  have A : SM (n + 18) i_Look_shows [LI goal.length un goal, d, .lst (hD hs), .int 10] cs = _ := look_shows_ n cs g0 gL gb hu 10 hs m d hd hm hh (by omega)
  have B := fun as => newS_own (T := TB (n+18)) (own := false) (c := 21) (i := i_Look__init__) (sl := [some d, some (.lst (hD hs)), some (.lst (hD un)), some (.tup (iL goal))]) (cs := cs) false as rfl
  have C := fun as cs => newS_non (T := TB (n+18)) (own := false) (c := 20) (sl := [some d, some (.lst (hD hs)), some (.lst (hD un)), some (.tup (iL goal))]) (cs := cs) as rfl
  have M := look_mk (n+17) cs (L := goal.length) (un := un) (goal := goal) hc
  have con0 : conOf conT 0 = .int 10 := rfl
  (simp -implicitDefEqProofs [x_nil, x_cons, x_expr, x_doc, x_pas, x_cont, x_brk, x_ret, x_retN, x_ite, x_set, x_asg, x_sub, x_for, x_raise, x_sfld, x_nev, x_while, x_var, x_int, x_str, x_bl, x_non, x_con, x_tup, x_lst, x_bin, x_neg, x_notv, x_nott, x_andv, x_andt, x_orv, x_ort, x_cmpv, x_cmpt, x_chnv, x_chnt, x_ife, x_ix, x_sl, x_isi, x_isis, x_iso, x_tyiv, x_tyit, x_fld, x_mcl, x_new, x_blt, x_tlt, x_mth, x_call, x_how, x_dl, x_rp, x_lc, t_var, t_int, t_str, t_bl, t_non, t_con, t_tup, t_lst, t_bin, t_neg, t_ix, t_sl, t_isi, t_isis, t_iso, t_fld, t_mcl, t_new, t_blt, t_tlt, t_mth, t_call, t_how, t_lc, x_l0, x_l1, x_l2, x_av1, x_av2, x_ov1, x_ov2, x_at1, x_at2, x_ot1, x_ot2, x_p0, x_p1, x_o0, x_o1, x_seq, x_rng1, x_rng2, x_zip, sizeLine_eq, iL_len, setAll, setTg, wipeD, initS, ↓to_lb, ↓to_evl, ↓to_itl, lb_val, lb_exc, lb_none, itl_t, itl_f, evl_val, evl_none, evl_lb, B, C, M, con0, A, Es.isNil]; try simp only [of_lb, of_evl, of_itl])
end
end EV

namespace EV
open PySem PySem.Spec PyProof.Rows L2 ZG
/-! ### the law's own side -/
theorem eq_tup_nil (cs : Cells) (l : List Int) : cmpD .Eq (.tup (iL l)) (.tup []) cs = some (.val (.bl (decide (l = []))), cs) := eq_tup cs l []
theorem eq_lst (cs : Cells) (l m : List Int) : cmpD .Eq (.lst (iL l)) (.lst (iL m)) cs = some (.val (.bl (decide (l = m))), cs) := eq_do cs (eqD_lst cs l m)
theorem eq_lst_nn (cs : Cells) : cmpD .Eq (.lst []) (.lst []) cs = some (.val (.bl true), cs) := by
  have := eq_lst cs [] []
  simpa [iL] using this
theorem nin_split (cs : Cells) : cmpD .NotIn (.str "split") (.tup [.str "split", .str "apart"]) cs = some (.val (.bl false), cs) := by
  have h : ([D.str "split", D.str "apart"].any fun z => eqF z (.str "split")) = true := by decide +kernel
  have h2 : inD cs (.str "split") (.tup [.str "split", .str "apart"]) = some true := by
    rw [← h]
    rfl
  unfold cmpD
  dsimp only
  rw [h2]
  rfl
theorem nin_apart (cs : Cells) : cmpD .NotIn (.str "apart") (.tup [.str "split", .str "apart"]) cs = some (.val (.bl false), cs) := by
  have h : ([D.str "split", D.str "apart"].any fun z => eqF z (.str "apart")) = true := by decide +kernel
  have h2 : inD cs (.str "apart") (.tup [.str "split", .str "apart"]) = some true := by
    rw [← h]
    rfl
  unfold cmpD
  dsimp only
  rw [h2]
  rfl
theorem eq_nilT (cs : Cells) {n : Nat} {ds : List D} (h : ∀ d ∈ ds, kd n d = true) (hn : n ≤ 50) : cmpD .Eq (.tup ds) (.tup []) cs = some (.val (.bl ds.isEmpty), cs) := by
  refine eq_do cs ?_
  obtain ⟨ps, e, o, hl⟩ := kd_pyA cs (fun d hd => kd_py cs n d hd) ds h
  have e1 : toPy cs (.tup ds) = some (.tuple ps) := by simp [toPy, e]
  have e2 : toPy cs (.tup []) = some (.tuple []) := by simp [toPy, toPyA]
  have := o.dep
  unfold eqD
  rw [e1, e2]
  dsimp only
  have sh : SeqAt.shaped (.tuple ps) = true := by
    have dd : (PyData.tuple ps).depth = PyData.depthAll ps + 1 := by simp [PyData.depth]
    have ly : (PyData.tuple ps).canLay0 = true := by simp [PyData.canLay0, o.lay]
    unfold SeqAt.shaped
    rw [ly, dd, Bool.true_and, decide_eq_true_eq]
    omega
  rw [if_pos ⟨sh, by simp [SeqAt.shaped, PyData.canLay0, PyData.canLayAll0, PyData.depth, PyData.depthAll]⟩]
  simp only [PyData.eqv, eqvAll_nil]
  cases ps <;> cases ds <;> first | rfl | cases hl
theorem filt_no (p : D → Bool) (ds : List D) : (ds.filter fun x => !p x).isEmpty = ds.all p := by
  rw [Bool.eq_iff_iff, List.isEmpty_iff, List.filter_eq_nil_iff, List.all_eq_true]
  simp
section
variable (n : Nat) (cs : Cells)
theorem law_is_form_T {m : Nat} {ds : List D} (hl : ds.length ≤ 2000) (h : ∀ d ∈ ds, kd m d = true) (hm : m ≤ 50) : SM (n+1) i__law_is_form [.tup ds] cs = some (.val (.bl (isF (.tup ds))), cs) := by
  rw [e__law_is_form, b__law_is_form]
  have E := eq_nilT cs h hm
  have E2 := eq_nill cs (ds := ds.filter fun x => !isI x) (fun d hd => h d (List.mem_filter.mp hd).1) hm
  rw [filt_no] at E2
  cases c : ds.isEmpty
  · rw [c] at E
    (simp -implicitDefEqProofs [x_nil, x_cons, x_expr, x_doc, x_pas, x_cont, x_brk, x_ret, x_retN, x_ite, x_set, x_asg, x_sub, x_for, x_raise, x_sfld, x_nev, x_while, x_var, x_int, x_str, x_bl, x_non, x_con, x_tup, x_lst, x_bin, x_neg, x_notv, x_nott, x_andv, x_andt, x_orv, x_ort, x_cmpv, x_cmpt, x_chnv, x_chnt, x_ife, x_ix, x_sl, x_isi, x_isis, x_iso, x_tyiv, x_tyit, x_fld, x_mcl, x_new, x_blt, x_tlt, x_mth, x_call, x_how, x_dl, x_rp, x_lc, t_var, t_int, t_str, t_bl, t_non, t_con, t_tup, t_lst, t_bin, t_neg, t_ix, t_sl, t_isi, t_isis, t_iso, t_fld, t_mcl, t_new, t_blt, t_tlt, t_mth, t_call, t_how, t_lc, x_l0, x_l1, x_l2, x_av1, x_av2, x_ov1, x_ov2, x_at1, x_at2, x_ot1, x_ot2, x_p0, x_p1, x_o0, x_o1, x_seq, x_rng1, x_rng2, x_zip, sizeLine_eq, iL_len, setAll, setTg, wipeD, initS, ↓to_lb, ↓to_evl, ↓to_itl, lb_val, lb_exc, lb_none, itl_t, itl_f, evl_val, evl_none, evl_lb, isTy, E]; try simp only [of_lb, of_evl, of_itl])
    rw [lcD_filtA (fun d : D => d) (fun d => d) (fun x => !isI x) ds]
    · rw [List.map_id']
      (simp -implicitDefEqProofs [x_nil, x_cons, x_expr, x_doc, x_pas, x_cont, x_brk, x_ret, x_retN, x_ite, x_set, x_asg, x_sub, x_for, x_raise, x_sfld, x_nev, x_while, x_var, x_int, x_str, x_bl, x_non, x_con, x_tup, x_lst, x_bin, x_neg, x_notv, x_nott, x_andv, x_andt, x_orv, x_ort, x_cmpv, x_cmpt, x_chnv, x_chnt, x_ife, x_ix, x_sl, x_isi, x_isis, x_iso, x_tyiv, x_tyit, x_fld, x_mcl, x_new, x_blt, x_tlt, x_mth, x_call, x_how, x_dl, x_rp, x_lc, t_var, t_int, t_str, t_bl, t_non, t_con, t_tup, t_lst, t_bin, t_neg, t_ix, t_sl, t_isi, t_isis, t_iso, t_fld, t_mcl, t_new, t_blt, t_tlt, t_mth, t_call, t_how, t_lc, x_l0, x_l1, x_l2, x_av1, x_av2, x_ov1, x_ov2, x_at1, x_at2, x_ot1, x_ot2, x_p0, x_p1, x_o0, x_o1, x_seq, x_rng1, x_rng2, x_zip, sizeLine_eq, iL_len, setAll, setTg, wipeD, initS, ↓to_lb, ↓to_evl, ↓to_itl, lb_val, lb_exc, lb_none, itl_t, itl_f, evl_val, evl_none, evl_lb, E2, isF, c]; try simp only [of_lb, of_evl, of_itl])
    · (simp -implicitDefEqProofs [x_nil, x_cons, x_expr, x_doc, x_pas, x_cont, x_brk, x_ret, x_retN, x_ite, x_set, x_asg, x_sub, x_for, x_raise, x_sfld, x_nev, x_while, x_var, x_int, x_str, x_bl, x_non, x_con, x_tup, x_lst, x_bin, x_neg, x_notv, x_nott, x_andv, x_andt, x_orv, x_ort, x_cmpv, x_cmpt, x_chnv, x_chnt, x_ife, x_ix, x_sl, x_isi, x_isis, x_iso, x_tyiv, x_tyit, x_fld, x_mcl, x_new, x_blt, x_tlt, x_mth, x_call, x_how, x_dl, x_rp, x_lc, t_var, t_int, t_str, t_bl, t_non, t_con, t_tup, t_lst, t_bin, t_neg, t_ix, t_sl, t_isi, t_isis, t_iso, t_fld, t_mcl, t_new, t_blt, t_tlt, t_mth, t_call, t_how, t_lc, x_l0, x_l1, x_l2, x_av1, x_av2, x_ov1, x_ov2, x_at1, x_at2, x_ot1, x_ot2, x_p0, x_p1, x_o0, x_o1, x_seq, x_rng1, x_rng2, x_zip, sizeLine_eq, iL_len, setAll, setTg, wipeD, initS, ↓to_lb, ↓to_evl, ↓to_itl, lb_val, lb_exc, lb_none, itl_t, itl_f, evl_val, evl_none, evl_lb]; try simp only [of_lb, of_evl, of_itl])
    · rw [sizeLine_eq]; omega
    · intro x hx
      refine ⟨_, rfl, ?_, fun _ => ?_⟩
      · have k := h x hx
        cases x with
        | int _ => (simp -implicitDefEqProofs [x_nil, x_cons, x_expr, x_doc, x_pas, x_cont, x_brk, x_ret, x_retN, x_ite, x_set, x_asg, x_sub, x_for, x_raise, x_sfld, x_nev, x_while, x_var, x_int, x_str, x_bl, x_non, x_con, x_tup, x_lst, x_bin, x_neg, x_notv, x_nott, x_andv, x_andt, x_orv, x_ort, x_cmpv, x_cmpt, x_chnv, x_chnt, x_ife, x_ix, x_sl, x_isi, x_isis, x_iso, x_tyiv, x_tyit, x_fld, x_mcl, x_new, x_blt, x_tlt, x_mth, x_call, x_how, x_dl, x_rp, x_lc, t_var, t_int, t_str, t_bl, t_non, t_con, t_tup, t_lst, t_bin, t_neg, t_ix, t_sl, t_isi, t_isis, t_iso, t_fld, t_mcl, t_new, t_blt, t_tlt, t_mth, t_call, t_how, t_lc, x_l0, x_l1, x_l2, x_av1, x_av2, x_ov1, x_ov2, x_at1, x_at2, x_ot1, x_ot2, x_p0, x_p1, x_o0, x_o1, x_seq, x_rng1, x_rng2, x_zip, sizeLine_eq, iL_len, setAll, setTg, wipeD, initS, ↓to_lb, ↓to_evl, ↓to_itl, lb_val, lb_exc, lb_none, itl_t, itl_f, evl_val, evl_none, evl_lb, isTy, isI]; try simp only [of_lb, of_evl, of_itl])
        | non => (simp -implicitDefEqProofs [x_nil, x_cons, x_expr, x_doc, x_pas, x_cont, x_brk, x_ret, x_retN, x_ite, x_set, x_asg, x_sub, x_for, x_raise, x_sfld, x_nev, x_while, x_var, x_int, x_str, x_bl, x_non, x_con, x_tup, x_lst, x_bin, x_neg, x_notv, x_nott, x_andv, x_andt, x_orv, x_ort, x_cmpv, x_cmpt, x_chnv, x_chnt, x_ife, x_ix, x_sl, x_isi, x_isis, x_iso, x_tyiv, x_tyit, x_fld, x_mcl, x_new, x_blt, x_tlt, x_mth, x_call, x_how, x_dl, x_rp, x_lc, t_var, t_int, t_str, t_bl, t_non, t_con, t_tup, t_lst, t_bin, t_neg, t_ix, t_sl, t_isi, t_isis, t_iso, t_fld, t_mcl, t_new, t_blt, t_tlt, t_mth, t_call, t_how, t_lc, x_l0, x_l1, x_l2, x_av1, x_av2, x_ov1, x_ov2, x_at1, x_at2, x_ot1, x_ot2, x_p0, x_p1, x_o0, x_o1, x_seq, x_rng1, x_rng2, x_zip, sizeLine_eq, iL_len, setAll, setTg, wipeD, initS, ↓to_lb, ↓to_evl, ↓to_itl, lb_val, lb_exc, lb_none, itl_t, itl_f, evl_val, evl_none, evl_lb, isTy, isI]; try simp only [of_lb, of_evl, of_itl])
        | bl _ => (simp -implicitDefEqProofs [x_nil, x_cons, x_expr, x_doc, x_pas, x_cont, x_brk, x_ret, x_retN, x_ite, x_set, x_asg, x_sub, x_for, x_raise, x_sfld, x_nev, x_while, x_var, x_int, x_str, x_bl, x_non, x_con, x_tup, x_lst, x_bin, x_neg, x_notv, x_nott, x_andv, x_andt, x_orv, x_ort, x_cmpv, x_cmpt, x_chnv, x_chnt, x_ife, x_ix, x_sl, x_isi, x_isis, x_iso, x_tyiv, x_tyit, x_fld, x_mcl, x_new, x_blt, x_tlt, x_mth, x_call, x_how, x_dl, x_rp, x_lc, t_var, t_int, t_str, t_bl, t_non, t_con, t_tup, t_lst, t_bin, t_neg, t_ix, t_sl, t_isi, t_isis, t_iso, t_fld, t_mcl, t_new, t_blt, t_tlt, t_mth, t_call, t_how, t_lc, x_l0, x_l1, x_l2, x_av1, x_av2, x_ov1, x_ov2, x_at1, x_at2, x_ot1, x_ot2, x_p0, x_p1, x_o0, x_o1, x_seq, x_rng1, x_rng2, x_zip, sizeLine_eq, iL_len, setAll, setTg, wipeD, initS, ↓to_lb, ↓to_evl, ↓to_itl, lb_val, lb_exc, lb_none, itl_t, itl_f, evl_val, evl_none, evl_lb, isTy, isI]; try simp only [of_lb, of_evl, of_itl])
        | str _ => (simp -implicitDefEqProofs [x_nil, x_cons, x_expr, x_doc, x_pas, x_cont, x_brk, x_ret, x_retN, x_ite, x_set, x_asg, x_sub, x_for, x_raise, x_sfld, x_nev, x_while, x_var, x_int, x_str, x_bl, x_non, x_con, x_tup, x_lst, x_bin, x_neg, x_notv, x_nott, x_andv, x_andt, x_orv, x_ort, x_cmpv, x_cmpt, x_chnv, x_chnt, x_ife, x_ix, x_sl, x_isi, x_isis, x_iso, x_tyiv, x_tyit, x_fld, x_mcl, x_new, x_blt, x_tlt, x_mth, x_call, x_how, x_dl, x_rp, x_lc, t_var, t_int, t_str, t_bl, t_non, t_con, t_tup, t_lst, t_bin, t_neg, t_ix, t_sl, t_isi, t_isis, t_iso, t_fld, t_mcl, t_new, t_blt, t_tlt, t_mth, t_call, t_how, t_lc, x_l0, x_l1, x_l2, x_av1, x_av2, x_ov1, x_ov2, x_at1, x_at2, x_ot1, x_ot2, x_p0, x_p1, x_o0, x_o1, x_seq, x_rng1, x_rng2, x_zip, sizeLine_eq, iL_len, setAll, setTg, wipeD, initS, ↓to_lb, ↓to_evl, ↓to_itl, lb_val, lb_exc, lb_none, itl_t, itl_f, evl_val, evl_none, evl_lb, isTy, isI]; try simp only [of_lb, of_evl, of_itl])
        | tup _ => (simp -implicitDefEqProofs [x_nil, x_cons, x_expr, x_doc, x_pas, x_cont, x_brk, x_ret, x_retN, x_ite, x_set, x_asg, x_sub, x_for, x_raise, x_sfld, x_nev, x_while, x_var, x_int, x_str, x_bl, x_non, x_con, x_tup, x_lst, x_bin, x_neg, x_notv, x_nott, x_andv, x_andt, x_orv, x_ort, x_cmpv, x_cmpt, x_chnv, x_chnt, x_ife, x_ix, x_sl, x_isi, x_isis, x_iso, x_tyiv, x_tyit, x_fld, x_mcl, x_new, x_blt, x_tlt, x_mth, x_call, x_how, x_dl, x_rp, x_lc, t_var, t_int, t_str, t_bl, t_non, t_con, t_tup, t_lst, t_bin, t_neg, t_ix, t_sl, t_isi, t_isis, t_iso, t_fld, t_mcl, t_new, t_blt, t_tlt, t_mth, t_call, t_how, t_lc, x_l0, x_l1, x_l2, x_av1, x_av2, x_ov1, x_ov2, x_at1, x_at2, x_ot1, x_ot2, x_p0, x_p1, x_o0, x_o1, x_seq, x_rng1, x_rng2, x_zip, sizeLine_eq, iL_len, setAll, setTg, wipeD, initS, ↓to_lb, ↓to_evl, ↓to_itl, lb_val, lb_exc, lb_none, itl_t, itl_f, evl_val, evl_none, evl_lb, isTy, isI]; try simp only [of_lb, of_evl, of_itl])
        | lst _ => (simp -implicitDefEqProofs [x_nil, x_cons, x_expr, x_doc, x_pas, x_cont, x_brk, x_ret, x_retN, x_ite, x_set, x_asg, x_sub, x_for, x_raise, x_sfld, x_nev, x_while, x_var, x_int, x_str, x_bl, x_non, x_con, x_tup, x_lst, x_bin, x_neg, x_notv, x_nott, x_andv, x_andt, x_orv, x_ort, x_cmpv, x_cmpt, x_chnv, x_chnt, x_ife, x_ix, x_sl, x_isi, x_isis, x_iso, x_tyiv, x_tyit, x_fld, x_mcl, x_new, x_blt, x_tlt, x_mth, x_call, x_how, x_dl, x_rp, x_lc, t_var, t_int, t_str, t_bl, t_non, t_con, t_tup, t_lst, t_bin, t_neg, t_ix, t_sl, t_isi, t_isis, t_iso, t_fld, t_mcl, t_new, t_blt, t_tlt, t_mth, t_call, t_how, t_lc, x_l0, x_l1, x_l2, x_av1, x_av2, x_ov1, x_ov2, x_at1, x_at2, x_ot1, x_ot2, x_p0, x_p1, x_o0, x_o1, x_seq, x_rng1, x_rng2, x_zip, sizeLine_eq, iL_len, setAll, setTg, wipeD, initS, ↓to_lb, ↓to_evl, ↓to_itl, lb_val, lb_exc, lb_none, itl_t, itl_f, evl_val, evl_none, evl_lb, isTy, isI]; try simp only [of_lb, of_evl, of_itl])
        | _ => cases m <;> simp [kd] at k
      · (simp -implicitDefEqProofs [x_nil, x_cons, x_expr, x_doc, x_pas, x_cont, x_brk, x_ret, x_retN, x_ite, x_set, x_asg, x_sub, x_for, x_raise, x_sfld, x_nev, x_while, x_var, x_int, x_str, x_bl, x_non, x_con, x_tup, x_lst, x_bin, x_neg, x_notv, x_nott, x_andv, x_andt, x_orv, x_ort, x_cmpv, x_cmpt, x_chnv, x_chnt, x_ife, x_ix, x_sl, x_isi, x_isis, x_iso, x_tyiv, x_tyit, x_fld, x_mcl, x_new, x_blt, x_tlt, x_mth, x_call, x_how, x_dl, x_rp, x_lc, t_var, t_int, t_str, t_bl, t_non, t_con, t_tup, t_lst, t_bin, t_neg, t_ix, t_sl, t_isi, t_isis, t_iso, t_fld, t_mcl, t_new, t_blt, t_tlt, t_mth, t_call, t_how, t_lc, x_l0, x_l1, x_l2, x_av1, x_av2, x_ov1, x_ov2, x_at1, x_at2, x_ot1, x_ot2, x_p0, x_p1, x_o0, x_o1, x_seq, x_rng1, x_rng2, x_zip, sizeLine_eq, iL_len, setAll, setTg, wipeD, initS, ↓to_lb, ↓to_evl, ↓to_itl, lb_val, lb_exc, lb_none, itl_t, itl_f, evl_val, evl_none, evl_lb]; try simp only [of_lb, of_evl, of_itl])
  · rw [c] at E
    (simp -implicitDefEqProofs [x_nil, x_cons, x_expr, x_doc, x_pas, x_cont, x_brk, x_ret, x_retN, x_ite, x_set, x_asg, x_sub, x_for, x_raise, x_sfld, x_nev, x_while, x_var, x_int, x_str, x_bl, x_non, x_con, x_tup, x_lst, x_bin, x_neg, x_notv, x_nott, x_andv, x_andt, x_orv, x_ort, x_cmpv, x_cmpt, x_chnv, x_chnt, x_ife, x_ix, x_sl, x_isi, x_isis, x_iso, x_tyiv, x_tyit, x_fld, x_mcl, x_new, x_blt, x_tlt, x_mth, x_call, x_how, x_dl, x_rp, x_lc, t_var, t_int, t_str, t_bl, t_non, t_con, t_tup, t_lst, t_bin, t_neg, t_ix, t_sl, t_isi, t_isis, t_iso, t_fld, t_mcl, t_new, t_blt, t_tlt, t_mth, t_call, t_how, t_lc, x_l0, x_l1, x_l2, x_av1, x_av2, x_ov1, x_ov2, x_at1, x_at2, x_ot1, x_ot2, x_p0, x_p1, x_o0, x_o1, x_seq, x_rng1, x_rng2, x_zip, sizeLine_eq, iL_len, setAll, setTg, wipeD, initS, ↓to_lb, ↓to_evl, ↓to_itl, lb_val, lb_exc, lb_none, itl_t, itl_f, evl_val, evl_none, evl_lb, isTy, E, isF, c]; try simp only [of_lb, of_evl, of_itl])
theorem law_is_form_D {m : Nat} {d : D} (h : kd m d = true) (hm : m ≤ 50) : SM (n+1) i__law_is_form [d] cs = some (.val (.bl (isF d)), cs) := by
  cases d with
  | tup ds =>
    obtain ⟨k, rfl, hl, h2⟩ := kd_tup h
    exact law_is_form_T n cs (by omega) h2 (by omega)
  | non => rw [e__law_is_form, b__law_is_form]; (simp -implicitDefEqProofs [x_nil, x_cons, x_expr, x_doc, x_pas, x_cont, x_brk, x_ret, x_retN, x_ite, x_set, x_asg, x_sub, x_for, x_raise, x_sfld, x_nev, x_while, x_var, x_int, x_str, x_bl, x_non, x_con, x_tup, x_lst, x_bin, x_neg, x_notv, x_nott, x_andv, x_andt, x_orv, x_ort, x_cmpv, x_cmpt, x_chnv, x_chnt, x_ife, x_ix, x_sl, x_isi, x_isis, x_iso, x_tyiv, x_tyit, x_fld, x_mcl, x_new, x_blt, x_tlt, x_mth, x_call, x_how, x_dl, x_rp, x_lc, t_var, t_int, t_str, t_bl, t_non, t_con, t_tup, t_lst, t_bin, t_neg, t_ix, t_sl, t_isi, t_isis, t_iso, t_fld, t_mcl, t_new, t_blt, t_tlt, t_mth, t_call, t_how, t_lc, x_l0, x_l1, x_l2, x_av1, x_av2, x_ov1, x_ov2, x_at1, x_at2, x_ot1, x_ot2, x_p0, x_p1, x_o0, x_o1, x_seq, x_rng1, x_rng2, x_zip, sizeLine_eq, iL_len, setAll, setTg, wipeD, initS, ↓to_lb, ↓to_evl, ↓to_itl, lb_val, lb_exc, lb_none, itl_t, itl_f, evl_val, evl_none, evl_lb, isTy, isF]; try simp only [of_lb, of_evl, of_itl])
  | bl _ => rw [e__law_is_form, b__law_is_form]; (simp -implicitDefEqProofs [x_nil, x_cons, x_expr, x_doc, x_pas, x_cont, x_brk, x_ret, x_retN, x_ite, x_set, x_asg, x_sub, x_for, x_raise, x_sfld, x_nev, x_while, x_var, x_int, x_str, x_bl, x_non, x_con, x_tup, x_lst, x_bin, x_neg, x_notv, x_nott, x_andv, x_andt, x_orv, x_ort, x_cmpv, x_cmpt, x_chnv, x_chnt, x_ife, x_ix, x_sl, x_isi, x_isis, x_iso, x_tyiv, x_tyit, x_fld, x_mcl, x_new, x_blt, x_tlt, x_mth, x_call, x_how, x_dl, x_rp, x_lc, t_var, t_int, t_str, t_bl, t_non, t_con, t_tup, t_lst, t_bin, t_neg, t_ix, t_sl, t_isi, t_isis, t_iso, t_fld, t_mcl, t_new, t_blt, t_tlt, t_mth, t_call, t_how, t_lc, x_l0, x_l1, x_l2, x_av1, x_av2, x_ov1, x_ov2, x_at1, x_at2, x_ot1, x_ot2, x_p0, x_p1, x_o0, x_o1, x_seq, x_rng1, x_rng2, x_zip, sizeLine_eq, iL_len, setAll, setTg, wipeD, initS, ↓to_lb, ↓to_evl, ↓to_itl, lb_val, lb_exc, lb_none, itl_t, itl_f, evl_val, evl_none, evl_lb, isTy, isF]; try simp only [of_lb, of_evl, of_itl])
  | int _ => rw [e__law_is_form, b__law_is_form]; (simp -implicitDefEqProofs [x_nil, x_cons, x_expr, x_doc, x_pas, x_cont, x_brk, x_ret, x_retN, x_ite, x_set, x_asg, x_sub, x_for, x_raise, x_sfld, x_nev, x_while, x_var, x_int, x_str, x_bl, x_non, x_con, x_tup, x_lst, x_bin, x_neg, x_notv, x_nott, x_andv, x_andt, x_orv, x_ort, x_cmpv, x_cmpt, x_chnv, x_chnt, x_ife, x_ix, x_sl, x_isi, x_isis, x_iso, x_tyiv, x_tyit, x_fld, x_mcl, x_new, x_blt, x_tlt, x_mth, x_call, x_how, x_dl, x_rp, x_lc, t_var, t_int, t_str, t_bl, t_non, t_con, t_tup, t_lst, t_bin, t_neg, t_ix, t_sl, t_isi, t_isis, t_iso, t_fld, t_mcl, t_new, t_blt, t_tlt, t_mth, t_call, t_how, t_lc, x_l0, x_l1, x_l2, x_av1, x_av2, x_ov1, x_ov2, x_at1, x_at2, x_ot1, x_ot2, x_p0, x_p1, x_o0, x_o1, x_seq, x_rng1, x_rng2, x_zip, sizeLine_eq, iL_len, setAll, setTg, wipeD, initS, ↓to_lb, ↓to_evl, ↓to_itl, lb_val, lb_exc, lb_none, itl_t, itl_f, evl_val, evl_none, evl_lb, isTy, isF]; try simp only [of_lb, of_evl, of_itl])
  | str _ => rw [e__law_is_form, b__law_is_form]; (simp -implicitDefEqProofs [x_nil, x_cons, x_expr, x_doc, x_pas, x_cont, x_brk, x_ret, x_retN, x_ite, x_set, x_asg, x_sub, x_for, x_raise, x_sfld, x_nev, x_while, x_var, x_int, x_str, x_bl, x_non, x_con, x_tup, x_lst, x_bin, x_neg, x_notv, x_nott, x_andv, x_andt, x_orv, x_ort, x_cmpv, x_cmpt, x_chnv, x_chnt, x_ife, x_ix, x_sl, x_isi, x_isis, x_iso, x_tyiv, x_tyit, x_fld, x_mcl, x_new, x_blt, x_tlt, x_mth, x_call, x_how, x_dl, x_rp, x_lc, t_var, t_int, t_str, t_bl, t_non, t_con, t_tup, t_lst, t_bin, t_neg, t_ix, t_sl, t_isi, t_isis, t_iso, t_fld, t_mcl, t_new, t_blt, t_tlt, t_mth, t_call, t_how, t_lc, x_l0, x_l1, x_l2, x_av1, x_av2, x_ov1, x_ov2, x_at1, x_at2, x_ot1, x_ot2, x_p0, x_p1, x_o0, x_o1, x_seq, x_rng1, x_rng2, x_zip, sizeLine_eq, iL_len, setAll, setTg, wipeD, initS, ↓to_lb, ↓to_evl, ↓to_itl, lb_val, lb_exc, lb_none, itl_t, itl_f, evl_val, evl_none, evl_lb, isTy, isF]; try simp only [of_lb, of_evl, of_itl])
  | lst _ => rw [e__law_is_form, b__law_is_form]; (simp -implicitDefEqProofs [x_nil, x_cons, x_expr, x_doc, x_pas, x_cont, x_brk, x_ret, x_retN, x_ite, x_set, x_asg, x_sub, x_for, x_raise, x_sfld, x_nev, x_while, x_var, x_int, x_str, x_bl, x_non, x_con, x_tup, x_lst, x_bin, x_neg, x_notv, x_nott, x_andv, x_andt, x_orv, x_ort, x_cmpv, x_cmpt, x_chnv, x_chnt, x_ife, x_ix, x_sl, x_isi, x_isis, x_iso, x_tyiv, x_tyit, x_fld, x_mcl, x_new, x_blt, x_tlt, x_mth, x_call, x_how, x_dl, x_rp, x_lc, t_var, t_int, t_str, t_bl, t_non, t_con, t_tup, t_lst, t_bin, t_neg, t_ix, t_sl, t_isi, t_isis, t_iso, t_fld, t_mcl, t_new, t_blt, t_tlt, t_mth, t_call, t_how, t_lc, x_l0, x_l1, x_l2, x_av1, x_av2, x_ov1, x_ov2, x_at1, x_at2, x_ot1, x_ot2, x_p0, x_p1, x_o0, x_o1, x_seq, x_rng1, x_rng2, x_zip, sizeLine_eq, iL_len, setAll, setTg, wipeD, initS, ↓to_lb, ↓to_evl, ↓to_itl, lb_val, lb_exc, lb_none, itl_t, itl_f, evl_val, evl_none, evl_lb, isTy, isF]; try simp only [of_lb, of_evl, of_itl])
  | _ => cases m <;> simp [kd] at h
theorem wts_iL (ws : List Int) : isWts (.lst (iL ws)) = (ws.filter fun w => decide (w < 0)).isEmpty := by
  rw [Bool.eq_iff_iff, List.isEmpty_iff, List.filter_eq_nil_iff]
  simp only [isWts, List.all_eq_true, iL, List.mem_map]
  constructor
  · intro h w hw
    have := h (.int w) ⟨w, hw, rfl⟩
    simp only [isWt, decide_eq_true_eq] at this
    simp only [decide_eq_true_eq]
    omega
  · rintro h _ ⟨w, hw, rfl⟩
    have := h w hw
    simp only [decide_eq_true_eq] at this
    simp only [isWt, decide_eq_true_eq]
    omega
theorem law_is_weights_D {m : Nat} {d : D} (h : kd m d = true) (hm : m ≤ 50) : SM (n+2) i__law_is_weights [d] cs = some (.val (.bl (isWts d)), cs) := by
  rw [e__law_is_weights, b__law_is_weights]
  cases d with
  | lst ws =>
    obtain ⟨k, rfl, hl, h2⟩ := kd_lst h
    have e := binD_tup false cs [D.int 0] ws (by simp [sizeLine_eq]; omega)
    have F := law_is_form_T n cs (ds := D.int 0 :: ws) (m := k) (by simp; omega) (fun d hd => by
      rcases List.mem_cons.mp hd with rfl | hd
      · cases k <;> simp [kd]
      · exact h2 d hd) (by omega)
    have Fe : isF (.tup (D.int 0 :: ws)) = ws.all isI := by simp [isF, isI]
    rw [Fe] at F
    cases c : ws.all isI
    · rw [c] at F
      have c2 : isWts (.lst ws) = false := by
        cases q : ws.all isWt with
        | false => exact q
        | true => rw [wt_isI q] at c; cases c
      (simp -implicitDefEqProofs [x_nil, x_cons, x_expr, x_doc, x_pas, x_cont, x_brk, x_ret, x_retN, x_ite, x_set, x_asg, x_sub, x_for, x_raise, x_sfld, x_nev, x_while, x_var, x_int, x_str, x_bl, x_non, x_con, x_tup, x_lst, x_bin, x_neg, x_notv, x_nott, x_andv, x_andt, x_orv, x_ort, x_cmpv, x_cmpt, x_chnv, x_chnt, x_ife, x_ix, x_sl, x_isi, x_isis, x_iso, x_tyiv, x_tyit, x_fld, x_mcl, x_new, x_blt, x_tlt, x_mth, x_call, x_how, x_dl, x_rp, x_lc, t_var, t_int, t_str, t_bl, t_non, t_con, t_tup, t_lst, t_bin, t_neg, t_ix, t_sl, t_isi, t_isis, t_iso, t_fld, t_mcl, t_new, t_blt, t_tlt, t_mth, t_call, t_how, t_lc, x_l0, x_l1, x_l2, x_av1, x_av2, x_ov1, x_ov2, x_at1, x_at2, x_ot1, x_ot2, x_p0, x_p1, x_o0, x_o1, x_seq, x_rng1, x_rng2, x_zip, sizeLine_eq, iL_len, setAll, setTg, wipeD, initS, ↓to_lb, ↓to_evl, ↓to_itl, lb_val, lb_exc, lb_none, itl_t, itl_f, evl_val, evl_none, evl_lb, isTy, e, F, c2]; try simp only [of_lb, of_evl, of_itl])
    · rw [c] at F
      have z := toI_iL c
      rw [z, wts_iL]
      rw [z] at e F
      (simp -implicitDefEqProofs [x_nil, x_cons, x_expr, x_doc, x_pas, x_cont, x_brk, x_ret, x_retN, x_ite, x_set, x_asg, x_sub, x_for, x_raise, x_sfld, x_nev, x_while, x_var, x_int, x_str, x_bl, x_non, x_con, x_tup, x_lst, x_bin, x_neg, x_notv, x_nott, x_andv, x_andt, x_orv, x_ort, x_cmpv, x_cmpt, x_chnv, x_chnt, x_ife, x_ix, x_sl, x_isi, x_isis, x_iso, x_tyiv, x_tyit, x_fld, x_mcl, x_new, x_blt, x_tlt, x_mth, x_call, x_how, x_dl, x_rp, x_lc, t_var, t_int, t_str, t_bl, t_non, t_con, t_tup, t_lst, t_bin, t_neg, t_ix, t_sl, t_isi, t_isis, t_iso, t_fld, t_mcl, t_new, t_blt, t_tlt, t_mth, t_call, t_how, t_lc, x_l0, x_l1, x_l2, x_av1, x_av2, x_ov1, x_ov2, x_at1, x_at2, x_ot1, x_ot2, x_p0, x_p1, x_o0, x_o1, x_seq, x_rng1, x_rng2, x_zip, sizeLine_eq, iL_len, setAll, setTg, wipeD, initS, ↓to_lb, ↓to_evl, ↓to_itl, lb_val, lb_exc, lb_none, itl_t, itl_f, evl_val, evl_none, evl_lb, isTy, e, F]; try simp only [of_lb, of_evl, of_itl])
      rw [lcD_filtA D.int D.int (fun w => decide (w < 0)) (ws.map toI)]
      · have q := eq_lst cs ((ws.map toI).filter fun w => decide (w < 0)) []
        have q2 : decide (((ws.map toI).filter fun w => decide (w < 0)) = []) = ((ws.map toI).filter fun w => decide (w < 0)).isEmpty := by
          rw [Bool.eq_iff_iff, decide_eq_true_eq, List.isEmpty_iff]
        rw [q2] at q
        have q : cmpD .Eq (.lst (((ws.map toI).filter fun w => decide (w < 0)).map D.int)) (.lst []) cs = _ := q
        (simp -implicitDefEqProofs [x_nil, x_cons, x_expr, x_doc, x_pas, x_cont, x_brk, x_ret, x_retN, x_ite, x_set, x_asg, x_sub, x_for, x_raise, x_sfld, x_nev, x_while, x_var, x_int, x_str, x_bl, x_non, x_con, x_tup, x_lst, x_bin, x_neg, x_notv, x_nott, x_andv, x_andt, x_orv, x_ort, x_cmpv, x_cmpt, x_chnv, x_chnt, x_ife, x_ix, x_sl, x_isi, x_isis, x_iso, x_tyiv, x_tyit, x_fld, x_mcl, x_new, x_blt, x_tlt, x_mth, x_call, x_how, x_dl, x_rp, x_lc, t_var, t_int, t_str, t_bl, t_non, t_con, t_tup, t_lst, t_bin, t_neg, t_ix, t_sl, t_isi, t_isis, t_iso, t_fld, t_mcl, t_new, t_blt, t_tlt, t_mth, t_call, t_how, t_lc, x_l0, x_l1, x_l2, x_av1, x_av2, x_ov1, x_ov2, x_at1, x_at2, x_ot1, x_ot2, x_p0, x_p1, x_o0, x_o1, x_seq, x_rng1, x_rng2, x_zip, sizeLine_eq, iL_len, setAll, setTg, wipeD, initS, ↓to_lb, ↓to_evl, ↓to_itl, lb_val, lb_exc, lb_none, itl_t, itl_f, evl_val, evl_none, evl_lb, q]; try simp only [of_lb, of_evl, of_itl])
      · (simp -implicitDefEqProofs [x_nil, x_cons, x_expr, x_doc, x_pas, x_cont, x_brk, x_ret, x_retN, x_ite, x_set, x_asg, x_sub, x_for, x_raise, x_sfld, x_nev, x_while, x_var, x_int, x_str, x_bl, x_non, x_con, x_tup, x_lst, x_bin, x_neg, x_notv, x_nott, x_andv, x_andt, x_orv, x_ort, x_cmpv, x_cmpt, x_chnv, x_chnt, x_ife, x_ix, x_sl, x_isi, x_isis, x_iso, x_tyiv, x_tyit, x_fld, x_mcl, x_new, x_blt, x_tlt, x_mth, x_call, x_how, x_dl, x_rp, x_lc, t_var, t_int, t_str, t_bl, t_non, t_con, t_tup, t_lst, t_bin, t_neg, t_ix, t_sl, t_isi, t_isis, t_iso, t_fld, t_mcl, t_new, t_blt, t_tlt, t_mth, t_call, t_how, t_lc, x_l0, x_l1, x_l2, x_av1, x_av2, x_ov1, x_ov2, x_at1, x_at2, x_ot1, x_ot2, x_p0, x_p1, x_o0, x_o1, x_seq, x_rng1, x_rng2, x_zip, sizeLine_eq, iL_len, setAll, setTg, wipeD, initS, ↓to_lb, ↓to_evl, ↓to_itl, lb_val, lb_exc, lb_none, itl_t, itl_f, evl_val, evl_none, evl_lb, iL]; try simp only [of_lb, of_evl, of_itl])
      · rw [sizeLine_eq, List.length_map]; omega
      · intro x hx
        refine ⟨_, rfl, ?_, fun _ => ?_⟩
        · (simp -implicitDefEqProofs [x_nil, x_cons, x_expr, x_doc, x_pas, x_cont, x_brk, x_ret, x_retN, x_ite, x_set, x_asg, x_sub, x_for, x_raise, x_sfld, x_nev, x_while, x_var, x_int, x_str, x_bl, x_non, x_con, x_tup, x_lst, x_bin, x_neg, x_notv, x_nott, x_andv, x_andt, x_orv, x_ort, x_cmpv, x_cmpt, x_chnv, x_chnt, x_ife, x_ix, x_sl, x_isi, x_isis, x_iso, x_tyiv, x_tyit, x_fld, x_mcl, x_new, x_blt, x_tlt, x_mth, x_call, x_how, x_dl, x_rp, x_lc, t_var, t_int, t_str, t_bl, t_non, t_con, t_tup, t_lst, t_bin, t_neg, t_ix, t_sl, t_isi, t_isis, t_iso, t_fld, t_mcl, t_new, t_blt, t_tlt, t_mth, t_call, t_how, t_lc, x_l0, x_l1, x_l2, x_av1, x_av2, x_ov1, x_ov2, x_at1, x_at2, x_ot1, x_ot2, x_p0, x_p1, x_o0, x_o1, x_seq, x_rng1, x_rng2, x_zip, sizeLine_eq, iL_len, setAll, setTg, wipeD, initS, ↓to_lb, ↓to_evl, ↓to_itl, lb_val, lb_exc, lb_none, itl_t, itl_f, evl_val, evl_none, evl_lb]; try simp only [of_lb, of_evl, of_itl])
        · (simp -implicitDefEqProofs [x_nil, x_cons, x_expr, x_doc, x_pas, x_cont, x_brk, x_ret, x_retN, x_ite, x_set, x_asg, x_sub, x_for, x_raise, x_sfld, x_nev, x_while, x_var, x_int, x_str, x_bl, x_non, x_con, x_tup, x_lst, x_bin, x_neg, x_notv, x_nott, x_andv, x_andt, x_orv, x_ort, x_cmpv, x_cmpt, x_chnv, x_chnt, x_ife, x_ix, x_sl, x_isi, x_isis, x_iso, x_tyiv, x_tyit, x_fld, x_mcl, x_new, x_blt, x_tlt, x_mth, x_call, x_how, x_dl, x_rp, x_lc, t_var, t_int, t_str, t_bl, t_non, t_con, t_tup, t_lst, t_bin, t_neg, t_ix, t_sl, t_isi, t_isis, t_iso, t_fld, t_mcl, t_new, t_blt, t_tlt, t_mth, t_call, t_how, t_lc, x_l0, x_l1, x_l2, x_av1, x_av2, x_ov1, x_ov2, x_at1, x_at2, x_ot1, x_ot2, x_p0, x_p1, x_o0, x_o1, x_seq, x_rng1, x_rng2, x_zip, sizeLine_eq, iL_len, setAll, setTg, wipeD, initS, ↓to_lb, ↓to_evl, ↓to_itl, lb_val, lb_exc, lb_none, itl_t, itl_f, evl_val, evl_none, evl_lb]; try simp only [of_lb, of_evl, of_itl])
  | non => (simp -implicitDefEqProofs [x_nil, x_cons, x_expr, x_doc, x_pas, x_cont, x_brk, x_ret, x_retN, x_ite, x_set, x_asg, x_sub, x_for, x_raise, x_sfld, x_nev, x_while, x_var, x_int, x_str, x_bl, x_non, x_con, x_tup, x_lst, x_bin, x_neg, x_notv, x_nott, x_andv, x_andt, x_orv, x_ort, x_cmpv, x_cmpt, x_chnv, x_chnt, x_ife, x_ix, x_sl, x_isi, x_isis, x_iso, x_tyiv, x_tyit, x_fld, x_mcl, x_new, x_blt, x_tlt, x_mth, x_call, x_how, x_dl, x_rp, x_lc, t_var, t_int, t_str, t_bl, t_non, t_con, t_tup, t_lst, t_bin, t_neg, t_ix, t_sl, t_isi, t_isis, t_iso, t_fld, t_mcl, t_new, t_blt, t_tlt, t_mth, t_call, t_how, t_lc, x_l0, x_l1, x_l2, x_av1, x_av2, x_ov1, x_ov2, x_at1, x_at2, x_ot1, x_ot2, x_p0, x_p1, x_o0, x_o1, x_seq, x_rng1, x_rng2, x_zip, sizeLine_eq, iL_len, setAll, setTg, wipeD, initS, ↓to_lb, ↓to_evl, ↓to_itl, lb_val, lb_exc, lb_none, itl_t, itl_f, evl_val, evl_none, evl_lb, isTy, isWts]; try simp only [of_lb, of_evl, of_itl])
  | bl _ => (simp -implicitDefEqProofs [x_nil, x_cons, x_expr, x_doc, x_pas, x_cont, x_brk, x_ret, x_retN, x_ite, x_set, x_asg, x_sub, x_for, x_raise, x_sfld, x_nev, x_while, x_var, x_int, x_str, x_bl, x_non, x_con, x_tup, x_lst, x_bin, x_neg, x_notv, x_nott, x_andv, x_andt, x_orv, x_ort, x_cmpv, x_cmpt, x_chnv, x_chnt, x_ife, x_ix, x_sl, x_isi, x_isis, x_iso, x_tyiv, x_tyit, x_fld, x_mcl, x_new, x_blt, x_tlt, x_mth, x_call, x_how, x_dl, x_rp, x_lc, t_var, t_int, t_str, t_bl, t_non, t_con, t_tup, t_lst, t_bin, t_neg, t_ix, t_sl, t_isi, t_isis, t_iso, t_fld, t_mcl, t_new, t_blt, t_tlt, t_mth, t_call, t_how, t_lc, x_l0, x_l1, x_l2, x_av1, x_av2, x_ov1, x_ov2, x_at1, x_at2, x_ot1, x_ot2, x_p0, x_p1, x_o0, x_o1, x_seq, x_rng1, x_rng2, x_zip, sizeLine_eq, iL_len, setAll, setTg, wipeD, initS, ↓to_lb, ↓to_evl, ↓to_itl, lb_val, lb_exc, lb_none, itl_t, itl_f, evl_val, evl_none, evl_lb, isTy, isWts]; try simp only [of_lb, of_evl, of_itl])
  | int _ => (simp -implicitDefEqProofs [x_nil, x_cons, x_expr, x_doc, x_pas, x_cont, x_brk, x_ret, x_retN, x_ite, x_set, x_asg, x_sub, x_for, x_raise, x_sfld, x_nev, x_while, x_var, x_int, x_str, x_bl, x_non, x_con, x_tup, x_lst, x_bin, x_neg, x_notv, x_nott, x_andv, x_andt, x_orv, x_ort, x_cmpv, x_cmpt, x_chnv, x_chnt, x_ife, x_ix, x_sl, x_isi, x_isis, x_iso, x_tyiv, x_tyit, x_fld, x_mcl, x_new, x_blt, x_tlt, x_mth, x_call, x_how, x_dl, x_rp, x_lc, t_var, t_int, t_str, t_bl, t_non, t_con, t_tup, t_lst, t_bin, t_neg, t_ix, t_sl, t_isi, t_isis, t_iso, t_fld, t_mcl, t_new, t_blt, t_tlt, t_mth, t_call, t_how, t_lc, x_l0, x_l1, x_l2, x_av1, x_av2, x_ov1, x_ov2, x_at1, x_at2, x_ot1, x_ot2, x_p0, x_p1, x_o0, x_o1, x_seq, x_rng1, x_rng2, x_zip, sizeLine_eq, iL_len, setAll, setTg, wipeD, initS, ↓to_lb, ↓to_evl, ↓to_itl, lb_val, lb_exc, lb_none, itl_t, itl_f, evl_val, evl_none, evl_lb, isTy, isWts]; try simp only [of_lb, of_evl, of_itl])
  | str _ => (simp -implicitDefEqProofs [x_nil, x_cons, x_expr, x_doc, x_pas, x_cont, x_brk, x_ret, x_retN, x_ite, x_set, x_asg, x_sub, x_for, x_raise, x_sfld, x_nev, x_while, x_var, x_int, x_str, x_bl, x_non, x_con, x_tup, x_lst, x_bin, x_neg, x_notv, x_nott, x_andv, x_andt, x_orv, x_ort, x_cmpv, x_cmpt, x_chnv, x_chnt, x_ife, x_ix, x_sl, x_isi, x_isis, x_iso, x_tyiv, x_tyit, x_fld, x_mcl, x_new, x_blt, x_tlt, x_mth, x_call, x_how, x_dl, x_rp, x_lc, t_var, t_int, t_str, t_bl, t_non, t_con, t_tup, t_lst, t_bin, t_neg, t_ix, t_sl, t_isi, t_isis, t_iso, t_fld, t_mcl, t_new, t_blt, t_tlt, t_mth, t_call, t_how, t_lc, x_l0, x_l1, x_l2, x_av1, x_av2, x_ov1, x_ov2, x_at1, x_at2, x_ot1, x_ot2, x_p0, x_p1, x_o0, x_o1, x_seq, x_rng1, x_rng2, x_zip, sizeLine_eq, iL_len, setAll, setTg, wipeD, initS, ↓to_lb, ↓to_evl, ↓to_itl, lb_val, lb_exc, lb_none, itl_t, itl_f, evl_val, evl_none, evl_lb, isTy, isWts]; try simp only [of_lb, of_evl, of_itl])
  | tup _ => (simp -implicitDefEqProofs [x_nil, x_cons, x_expr, x_doc, x_pas, x_cont, x_brk, x_ret, x_retN, x_ite, x_set, x_asg, x_sub, x_for, x_raise, x_sfld, x_nev, x_while, x_var, x_int, x_str, x_bl, x_non, x_con, x_tup, x_lst, x_bin, x_neg, x_notv, x_nott, x_andv, x_andt, x_orv, x_ort, x_cmpv, x_cmpt, x_chnv, x_chnt, x_ife, x_ix, x_sl, x_isi, x_isis, x_iso, x_tyiv, x_tyit, x_fld, x_mcl, x_new, x_blt, x_tlt, x_mth, x_call, x_how, x_dl, x_rp, x_lc, t_var, t_int, t_str, t_bl, t_non, t_con, t_tup, t_lst, t_bin, t_neg, t_ix, t_sl, t_isi, t_isis, t_iso, t_fld, t_mcl, t_new, t_blt, t_tlt, t_mth, t_call, t_how, t_lc, x_l0, x_l1, x_l2, x_av1, x_av2, x_ov1, x_ov2, x_at1, x_at2, x_ot1, x_ot2, x_p0, x_p1, x_o0, x_o1, x_seq, x_rng1, x_rng2, x_zip, sizeLine_eq, iL_len, setAll, setTg, wipeD, initS, ↓to_lb, ↓to_evl, ↓to_itl, lb_val, lb_exc, lb_none, itl_t, itl_f, evl_val, evl_none, evl_lb, isTy, isWts]; try simp only [of_lb, of_evl, of_itl])
  | _ => cases m <;> simp [kd] at h
end
structure LLI (P H G W : D) (m : Nat) (goal : List Int) (cs : Cells) (l : List (Int × List Int)) (sl : Slots) (cs' : Cells) : Prop where
  same : cs' = cs
  ex : ∃ (acc : List Int) (o5 o6 : Option D), sl = [some P, some H, some G, some W, some (.lst (iL acc)), o5, o6, none, none, none, none] ∧ acc.length = m ∧ (∀ p ∈ l, p.2.length = m ∧ BndF 300 p.2 ∧ p.1.natAbs < 2 ^ 200) ∧ l.foldl (fun t p => addF t (oftF p.2 p.1)) acc = goal
theorem atI_m1_3 (a b c : D) : L2.atI [a, b, c] (-1) = some c := rfl
theorem atI_m1_2 (a b : D) : L2.atI [a, b] (-1) = some b := rfl
section
variable (n : Nat) (cs : Cells)
theorem leaf_loop {P : D} {goal ws : List Int} {hs : List (List Int)} {body : Slots → Cells → RsS} {Q : Fl × Slots → Cells → Prop} (hL : goal.length ≤ 1000) (gb : BndF 300 goal) (hh : ∀ h ∈ hs, h.length = goal.length ∧ BndF 300 h) (hw : ∀ w ∈ ws, w.natAbs < 2 ^ 200)
    (hb : body = rns (TB n) (.cons (.set 4 (.lc false [10, 9] (.tp [10, 9]) (.zip (.var 4) (.var 6)) .no (.bin false .Add (.var 10) (.bin false .Mult (.var 5) (.var 9))))) .nil))
    (hq : ∀ o5 o6, Q (.nx, [some P, some (.lst (hD hs)), some (.tup (iL goal)), some (.lst (iL ws)), some (.lst (iL (totF goal.length ws hs))), o5, o6, none, none, none, none]) cs) :
    Ev (forLoop (.tp [5, 6]) body [] ((ws.zip hs).map fun p : Int × List Int => D.tup [.int p.1, .tup (iL p.2)]) [some P, some (.lst (hD hs)), some (.tup (iL goal)), some (.lst (iL ws)), some (.lst (iL (zeros goal.length))), none, none, none, none, none, none] cs) Q := by
  subst hb
  refine ev_items (fun p : Int × List Int => D.tup [.int p.1, .tup (iL p.2)]) (LLI P (.lst (hD hs)) (.tup (iL goal)) (.lst (iL ws)) goal.length (totF goal.length ws hs) cs) ?_ ?_ (ws.zip hs) _ cs ?_
  · rintro ⟨w, g⟩ r sl cs1 ⟨rfl, acc, o6, o7, rfl, ha, hl, hf⟩
    obtain ⟨q1, q3, q2⟩ := hl (w, g) List.mem_cons_self
    simp only at q1 q2 q3
    refine ⟨_, rfl, ?_⟩
    have hl' : ∀ p ∈ r, p.2.length = goal.length ∧ BndF 300 p.2 ∧ p.1.natAbs < 2 ^ 200 := fun p hp => hl p (List.mem_cons_of_mem _ hp)
    (simp -implicitDefEqProofs [x_nil, x_cons, x_expr, x_doc, x_pas, x_cont, x_brk, x_ret, x_retN, x_ite, x_set, x_asg, x_sub, x_for, x_raise, x_sfld, x_nev, x_while, x_var, x_int, x_str, x_bl, x_non, x_con, x_tup, x_lst, x_bin, x_neg, x_notv, x_nott, x_andv, x_andt, x_orv, x_ort, x_cmpv, x_cmpt, x_chnv, x_chnt, x_ife, x_ix, x_sl, x_isi, x_isis, x_iso, x_tyiv, x_tyit, x_fld, x_mcl, x_new, x_blt, x_tlt, x_mth, x_call, x_how, x_dl, x_rp, x_lc, t_var, t_int, t_str, t_bl, t_non, t_con, t_tup, t_lst, t_bin, t_neg, t_ix, t_sl, t_isi, t_isis, t_iso, t_fld, t_mcl, t_new, t_blt, t_tlt, t_mth, t_call, t_how, t_lc, x_l0, x_l1, x_l2, x_av1, x_av2, x_ov1, x_ov2, x_at1, x_at2, x_ot1, x_ot2, x_p0, x_p1, x_o0, x_o1, x_seq, x_rng1, x_rng2, x_zip, sizeLine_eq, iL_len, setAll, setTg, wipeD, initS, ↓to_lb, ↓to_evl, ↓to_itl, lb_val, lb_exc, lb_none, itl_t, itl_f, evl_val, evl_none, evl_lb]; try simp only [of_lb, of_evl, of_itl])
    rw [lcD_map (F := fun d => match d with | .tup [.int u, .int v] => .int (u + w * v) | _ => .non) (items := zipD (iL acc) (iL g)) (g := [])]
    · rw [mapZip _ (fun u v => u + w * v) fun _ _ => rfl]
      (simp -implicitDefEqProofs [x_nil, x_cons, x_expr, x_doc, x_pas, x_cont, x_brk, x_ret, x_retN, x_ite, x_set, x_asg, x_sub, x_for, x_raise, x_sfld, x_nev, x_while, x_var, x_int, x_str, x_bl, x_non, x_con, x_tup, x_lst, x_bin, x_neg, x_notv, x_nott, x_andv, x_andt, x_orv, x_ort, x_cmpv, x_cmpt, x_chnv, x_chnt, x_ife, x_ix, x_sl, x_isi, x_isis, x_iso, x_tyiv, x_tyit, x_fld, x_mcl, x_new, x_blt, x_tlt, x_mth, x_call, x_how, x_dl, x_rp, x_lc, t_var, t_int, t_str, t_bl, t_non, t_con, t_tup, t_lst, t_bin, t_neg, t_ix, t_sl, t_isi, t_isis, t_iso, t_fld, t_mcl, t_new, t_blt, t_tlt, t_mth, t_call, t_how, t_lc, x_l0, x_l1, x_l2, x_av1, x_av2, x_ov1, x_ov2, x_at1, x_at2, x_ot1, x_ot2, x_p0, x_p1, x_o0, x_o1, x_seq, x_rng1, x_rng2, x_zip, sizeLine_eq, iL_len, setAll, setTg, wipeD, initS, ↓to_lb, ↓to_evl, ↓to_itl, lb_val, lb_exc, lb_none, itl_t, itl_f, evl_val, evl_none, evl_lb]; try simp only [of_lb, of_evl, of_itl])
      refine turn_nx ⟨rfl, _, _, _, rfl, ?_, hl', ?_⟩
      · rw [List.length_zipWith]; omega
      · rw [← hf, List.foldl_cons]
        congr 1
        simp only [addF, oftF, List.zipWith_map_right]
        congr 1
        funext u v
        rw [Int.mul_comm w v]
    · (simp -implicitDefEqProofs [x_nil, x_cons, x_expr, x_doc, x_pas, x_cont, x_brk, x_ret, x_retN, x_ite, x_set, x_asg, x_sub, x_for, x_raise, x_sfld, x_nev, x_while, x_var, x_int, x_str, x_bl, x_non, x_con, x_tup, x_lst, x_bin, x_neg, x_notv, x_nott, x_andv, x_andt, x_orv, x_ort, x_cmpv, x_cmpt, x_chnv, x_chnt, x_ife, x_ix, x_sl, x_isi, x_isis, x_iso, x_tyiv, x_tyit, x_fld, x_mcl, x_new, x_blt, x_tlt, x_mth, x_call, x_how, x_dl, x_rp, x_lc, t_var, t_int, t_str, t_bl, t_non, t_con, t_tup, t_lst, t_bin, t_neg, t_ix, t_sl, t_isi, t_isis, t_iso, t_fld, t_mcl, t_new, t_blt, t_tlt, t_mth, t_call, t_how, t_lc, x_l0, x_l1, x_l2, x_av1, x_av2, x_ov1, x_ov2, x_at1, x_at2, x_ot1, x_ot2, x_p0, x_p1, x_o0, x_o1, x_seq, x_rng1, x_rng2, x_zip, sizeLine_eq, iL_len, setAll, setTg, wipeD, initS, ↓to_lb, ↓to_evl, ↓to_itl, lb_val, lb_exc, lb_none, itl_t, itl_f, evl_val, evl_none, evl_lb]; try simp only [of_lb, of_evl, of_itl])
    · exact grdN _
    · rw [zip_iL]; simp [sizeLine]; omega
    · intro y hy
      rw [zip_iL] at hy
      obtain ⟨⟨u, v⟩, huv, rfl⟩ := List.mem_map.mp hy
      (simp -implicitDefEqProofs [x_nil, x_cons, x_expr, x_doc, x_pas, x_cont, x_brk, x_ret, x_retN, x_ite, x_set, x_asg, x_sub, x_for, x_raise, x_sfld, x_nev, x_while, x_var, x_int, x_str, x_bl, x_non, x_con, x_tup, x_lst, x_bin, x_neg, x_notv, x_nott, x_andv, x_andt, x_orv, x_ort, x_cmpv, x_cmpt, x_chnv, x_chnt, x_ife, x_ix, x_sl, x_isi, x_isis, x_iso, x_tyiv, x_tyit, x_fld, x_mcl, x_new, x_blt, x_tlt, x_mth, x_call, x_how, x_dl, x_rp, x_lc, t_var, t_int, t_str, t_bl, t_non, t_con, t_tup, t_lst, t_bin, t_neg, t_ix, t_sl, t_isi, t_isis, t_iso, t_fld, t_mcl, t_new, t_blt, t_tlt, t_mth, t_call, t_how, t_lc, x_l0, x_l1, x_l2, x_av1, x_av2, x_ov1, x_ov2, x_at1, x_at2, x_ot1, x_ot2, x_p0, x_p1, x_o0, x_o1, x_seq, x_rng1, x_rng2, x_zip, sizeLine_eq, iL_len, setAll, setTg, wipeD, initS, ↓to_lb, ↓to_evl, ↓to_itl, lb_val, lb_exc, lb_none, itl_t, itl_f, evl_val, evl_none, evl_lb, mulW false cs1 w v 200 300 q2 (q3 v (List.of_mem_zip huv).2) (by decide)]; try simp only [of_lb, of_evl, of_itl])
  · rintro sl cs1 ⟨rfl, acc, o6, o7, rfl, ha, _, hf⟩
    have hf : acc = totF goal.length ws hs := hf
    subst hf
    exact hq _ _
  · refine ⟨rfl, zeros goal.length, _, _, rfl, by simp [zeros], fun p hp => ?_, ?_⟩
    · obtain ⟨p1, p2⟩ := List.of_mem_zip hp
      exact ⟨(hh _ p2).1, (hh _ p2).2, hw _ p1⟩
    · unfold totF
      rw [sq_fold []]
theorem law_nev_ {goal ws : List Int} {hs : List (List Int)} (h0 : goal ≠ []) (hL : goal.length ≤ 1000) (gb : BndF 300 goal) (hh : ∀ h ∈ hs, h.length = goal.length ∧ BndF 300 h) (hw : ∀ w ∈ ws, w.natAbs < 2 ^ 200) :
    SM (n+1) i__law_leaf [(Pc.nev ws).enc, .lst (hD hs), .tup (iL goal)] cs = some (.val (.bl (nevM ws hs goal)), cs) := by
  have hh1 : ∀ h ∈ hs, h.length = goal.length := fun h hm => (hh h hm).1
  rw [e__law_leaf, b__law_leaf, nevM_tot h0 hh1]
  have hz : ((goal.length : Int) - 1) = ((goal.length - 1 : Nat) : Int) := by
    have := List.length_pos_iff.mpr h0
    omega
  by_cases c : ws.length = hs.length
  · refine ev_at.mp ?_
    (simp -implicitDefEqProofs [x_nil, x_cons, x_expr, x_doc, x_pas, x_cont, x_brk, x_ret, x_retN, x_ite, x_set, x_asg, x_sub, x_for, x_raise, x_sfld, x_nev, x_while, x_var, x_int, x_str, x_bl, x_non, x_con, x_tup, x_lst, x_bin, x_neg, x_notv, x_nott, x_andv, x_andt, x_orv, x_ort, x_cmpv, x_cmpt, x_chnv, x_chnt, x_ife, x_ix, x_sl, x_isi, x_isis, x_iso, x_tyiv, x_tyit, x_fld, x_mcl, x_new, x_blt, x_tlt, x_mth, x_call, x_how, x_dl, x_rp, x_lc, t_var, t_int, t_str, t_bl, t_non, t_con, t_tup, t_lst, t_bin, t_neg, t_ix, t_sl, t_isi, t_isis, t_iso, t_fld, t_mcl, t_new, t_blt, t_tlt, t_mth, t_call, t_how, t_lc, x_l0, x_l1, x_l2, x_av1, x_av2, x_ov1, x_ov2, x_at1, x_at2, x_ot1, x_ot2, x_p0, x_p1, x_o0, x_o1, x_seq, x_rng1, x_rng2, x_zip, sizeLine_eq, iL_len, setAll, setTg, wipeD, initS, ↓to_lb, ↓to_evl, ↓to_itl, lb_val, lb_exc, lb_none, itl_t, itl_f, evl_val, evl_none, evl_lb, Pc.enc, atI_m1_2, hD_len, c, rep0 cs goal.length hL, zip_hD]; try simp only [of_lb, of_evl, of_itl])
    refine leaf_loop n cs hL gb hh hw rfl fun o5 o6 => ?_
    have t := totF_len (ws := ws) hh1
    cases hr : totF goal.length ws hs with
    | nil =>
      rw [hr] at t
      exact absurd (List.length_eq_zero_iff.mp t.symm) h0
    | cons x r =>
      rw [hr] at t
      have zr := zeroT_dec r (goal.length - 1) (by simp at t; omega)
      (simp -implicitDefEqProofs [x_nil, x_cons, x_expr, x_doc, x_pas, x_cont, x_brk, x_ret, x_retN, x_ite, x_set, x_asg, x_sub, x_for, x_raise, x_sfld, x_nev, x_while, x_var, x_int, x_str, x_bl, x_non, x_con, x_tup, x_lst, x_bin, x_neg, x_notv, x_nott, x_andv, x_andt, x_orv, x_ort, x_cmpv, x_cmpt, x_chnv, x_chnt, x_ife, x_ix, x_sl, x_isi, x_isis, x_iso, x_tyiv, x_tyit, x_fld, x_mcl, x_new, x_blt, x_tlt, x_mth, x_call, x_how, x_dl, x_rp, x_lc, t_var, t_int, t_str, t_bl, t_non, t_con, t_tup, t_lst, t_bin, t_neg, t_ix, t_sl, t_isi, t_isis, t_iso, t_fld, t_mcl, t_new, t_blt, t_tlt, t_mth, t_call, t_how, t_lc, x_l0, x_l1, x_l2, x_av1, x_av2, x_ov1, x_ov2, x_at1, x_at2, x_ot1, x_ot2, x_p0, x_p1, x_o0, x_o1, x_seq, x_rng1, x_rng2, x_zip, sizeLine_eq, iL_len, setAll, setTg, wipeD, initS, ↓to_lb, ↓to_evl, ↓to_itl, lb_val, lb_exc, lb_none, itl_t, itl_f, evl_val, evl_none, evl_lb, rep0 cs (goal.length - 1) (by omega), hz, eq_lst, zr]; try simp only [of_lb, of_evl, of_itl])
      by_cases cx : x < 0
      · (simp -implicitDefEqProofs [x_nil, x_cons, x_expr, x_doc, x_pas, x_cont, x_brk, x_ret, x_retN, x_ite, x_set, x_asg, x_sub, x_for, x_raise, x_sfld, x_nev, x_while, x_var, x_int, x_str, x_bl, x_non, x_con, x_tup, x_lst, x_bin, x_neg, x_notv, x_nott, x_andv, x_andt, x_orv, x_ort, x_cmpv, x_cmpt, x_chnv, x_chnt, x_ife, x_ix, x_sl, x_isi, x_isis, x_iso, x_tyiv, x_tyit, x_fld, x_mcl, x_new, x_blt, x_tlt, x_mth, x_call, x_how, x_dl, x_rp, x_lc, t_var, t_int, t_str, t_bl, t_non, t_con, t_tup, t_lst, t_bin, t_neg, t_ix, t_sl, t_isi, t_isis, t_iso, t_fld, t_mcl, t_new, t_blt, t_tlt, t_mth, t_call, t_how, t_lc, x_l0, x_l1, x_l2, x_av1, x_av2, x_ov1, x_ov2, x_at1, x_at2, x_ot1, x_ot2, x_p0, x_p1, x_o0, x_o1, x_seq, x_rng1, x_rng2, x_zip, sizeLine_eq, iL_len, setAll, setTg, wipeD, initS, ↓to_lb, ↓to_evl, ↓to_itl, lb_val, lb_exc, lb_none, itl_t, itl_f, evl_val, evl_none, evl_lb, cx, rep0 cs (goal.length - 1) (by omega), hz, eq_lst]; try simp only [of_lb, of_evl, of_itl])
      · (simp -implicitDefEqProofs [x_nil, x_cons, x_expr, x_doc, x_pas, x_cont, x_brk, x_ret, x_retN, x_ite, x_set, x_asg, x_sub, x_for, x_raise, x_sfld, x_nev, x_while, x_var, x_int, x_str, x_bl, x_non, x_con, x_tup, x_lst, x_bin, x_neg, x_notv, x_nott, x_andv, x_andt, x_orv, x_ort, x_cmpv, x_cmpt, x_chnv, x_chnt, x_ife, x_ix, x_sl, x_isi, x_isis, x_iso, x_tyiv, x_tyit, x_fld, x_mcl, x_new, x_blt, x_tlt, x_mth, x_call, x_how, x_dl, x_rp, x_lc, t_var, t_int, t_str, t_bl, t_non, t_con, t_tup, t_lst, t_bin, t_neg, t_ix, t_sl, t_isi, t_isis, t_iso, t_fld, t_mcl, t_new, t_blt, t_tlt, t_mth, t_call, t_how, t_lc, x_l0, x_l1, x_l2, x_av1, x_av2, x_ov1, x_ov2, x_at1, x_at2, x_ot1, x_ot2, x_p0, x_p1, x_o0, x_o1, x_seq, x_rng1, x_rng2, x_zip, sizeLine_eq, iL_len, setAll, setTg, wipeD, initS, ↓to_lb, ↓to_evl, ↓to_itl, lb_val, lb_exc, lb_none, itl_t, itl_f, evl_val, evl_none, evl_lb, cx]; try simp only [of_lb, of_evl, of_itl])
  · have c2 : ¬ (ws.length : Int) = (hs.length : Int) := by omega
    (simp -implicitDefEqProofs [x_nil, x_cons, x_expr, x_doc, x_pas, x_cont, x_brk, x_ret, x_retN, x_ite, x_set, x_asg, x_sub, x_for, x_raise, x_sfld, x_nev, x_while, x_var, x_int, x_str, x_bl, x_non, x_con, x_tup, x_lst, x_bin, x_neg, x_notv, x_nott, x_andv, x_andt, x_orv, x_ort, x_cmpv, x_cmpt, x_chnv, x_chnt, x_ife, x_ix, x_sl, x_isi, x_isis, x_iso, x_tyiv, x_tyit, x_fld, x_mcl, x_new, x_blt, x_tlt, x_mth, x_call, x_how, x_dl, x_rp, x_lc, t_var, t_int, t_str, t_bl, t_non, t_con, t_tup, t_lst, t_bin, t_neg, t_ix, t_sl, t_isi, t_isis, t_iso, t_fld, t_mcl, t_new, t_blt, t_tlt, t_mth, t_call, t_how, t_lc, x_l0, x_l1, x_l2, x_av1, x_av2, x_ov1, x_ov2, x_at1, x_at2, x_ot1, x_ot2, x_p0, x_p1, x_o0, x_o1, x_seq, x_rng1, x_rng2, x_zip, sizeLine_eq, iL_len, setAll, setTg, wipeD, initS, ↓to_lb, ↓to_evl, ↓to_itl, lb_val, lb_exc, lb_none, itl_t, itl_f, evl_val, evl_none, evl_lb, Pc.enc, atI_m1_2, hD_len, c, c2]; try simp only [of_lb, of_evl, of_itl])
theorem law_sum_ {k : Int} {goal ws : List Int} {hs : List (List Int)} (h0 : goal ≠ []) (hL : goal.length ≤ 1000) (gb : BndF 300 goal) (hh : ∀ h ∈ hs, h.length = goal.length ∧ BndF 300 h) (hw : ∀ w ∈ ws, w.natAbs < 2 ^ 200) (hk : k.natAbs < 2 ^ 200) :
    SM (n+1) i__law_leaf [(Pc.sum k ws).enc, .lst (hD hs), .tup (iL goal)] cs = some (.val (.bl (sumM k ws hs goal)), cs) := by
  have hh1 : ∀ h ∈ hs, h.length = goal.length := fun h hm => (hh h hm).1
  rw [e__law_leaf, b__law_leaf]
  unfold sumM
  have hz : ((goal.length : Int) - 1) = ((goal.length - 1 : Nat) : Int) := by
    have := List.length_pos_iff.mpr h0
    omega
  by_cases c : ws.length = hs.length
  · refine ev_at.mp ?_
    (simp -implicitDefEqProofs [x_nil, x_cons, x_expr, x_doc, x_pas, x_cont, x_brk, x_ret, x_retN, x_ite, x_set, x_asg, x_sub, x_for, x_raise, x_sfld, x_nev, x_while, x_var, x_int, x_str, x_bl, x_non, x_con, x_tup, x_lst, x_bin, x_neg, x_notv, x_nott, x_andv, x_andt, x_orv, x_ort, x_cmpv, x_cmpt, x_chnv, x_chnt, x_ife, x_ix, x_sl, x_isi, x_isis, x_iso, x_tyiv, x_tyit, x_fld, x_mcl, x_new, x_blt, x_tlt, x_mth, x_call, x_how, x_dl, x_rp, x_lc, t_var, t_int, t_str, t_bl, t_non, t_con, t_tup, t_lst, t_bin, t_neg, t_ix, t_sl, t_isi, t_isis, t_iso, t_fld, t_mcl, t_new, t_blt, t_tlt, t_mth, t_call, t_how, t_lc, x_l0, x_l1, x_l2, x_av1, x_av2, x_ov1, x_ov2, x_at1, x_at2, x_ot1, x_ot2, x_p0, x_p1, x_o0, x_o1, x_seq, x_rng1, x_rng2, x_zip, sizeLine_eq, iL_len, setAll, setTg, wipeD, initS, ↓to_lb, ↓to_evl, ↓to_itl, lb_val, lb_exc, lb_none, itl_t, itl_f, evl_val, evl_none, evl_lb, Pc.enc, atI_m1_3, hD_len, c, rep0 cs goal.length hL, zip_hD]; try simp only [of_lb, of_evl, of_itl])
    refine leaf_loop n cs hL gb hh hw rfl fun o5 o6 => ?_
    (simp -implicitDefEqProofs [x_nil, x_cons, x_expr, x_doc, x_pas, x_cont, x_brk, x_ret, x_retN, x_ite, x_set, x_asg, x_sub, x_for, x_raise, x_sfld, x_nev, x_while, x_var, x_int, x_str, x_bl, x_non, x_con, x_tup, x_lst, x_bin, x_neg, x_notv, x_nott, x_andv, x_andt, x_orv, x_ort, x_cmpv, x_cmpt, x_chnv, x_chnt, x_ife, x_ix, x_sl, x_isi, x_isis, x_iso, x_tyiv, x_tyit, x_fld, x_mcl, x_new, x_blt, x_tlt, x_mth, x_call, x_how, x_dl, x_rp, x_lc, t_var, t_int, t_str, t_bl, t_non, t_con, t_tup, t_lst, t_bin, t_neg, t_ix, t_sl, t_isi, t_isis, t_iso, t_fld, t_mcl, t_new, t_blt, t_tlt, t_mth, t_call, t_how, t_lc, x_l0, x_l1, x_l2, x_av1, x_av2, x_ov1, x_ov2, x_at1, x_at2, x_ot1, x_ot2, x_p0, x_p1, x_o0, x_o1, x_seq, x_rng1, x_rng2, x_zip, sizeLine_eq, iL_len, setAll, setTg, wipeD, initS, ↓to_lb, ↓to_evl, ↓to_itl, lb_val, lb_exc, lb_none, itl_t, itl_f, evl_val, evl_none, evl_lb]; try simp only [of_lb, of_evl, of_itl])
    rw [lcD_map (F := fun d => match d with | .tup [.int u, .int v] => .int (k * u - v) | _ => .non) (items := zipD (iL goal) (iL (totF goal.length ws hs))) (g := [])]
    · rw [mapZip _ (fun u v => k * u - v) fun _ _ => rfl]
      have el : List.zipWith (fun u v => k * u - v) goal (totF goal.length ws hs) = leftF k goal ws hs := by
        rw [leftF_tot hh1]
        simp only [addF, oftF, List.zipWith_map]
        congr 1
        funext u v
        rw [Int.mul_comm k u]
        omega
      rw [el]
      have t := leftF_len (k := k) (ws := ws) hh1
      cases hr : leftF k goal ws hs with
      | nil =>
        rw [hr] at t
        exact absurd (List.length_eq_zero_iff.mp t.symm) h0
      | cons x r =>
        rw [hr] at t
        have zr := zeroT_dec r (goal.length - 1) (by simp at t; omega)
        (simp -implicitDefEqProofs [x_nil, x_cons, x_expr, x_doc, x_pas, x_cont, x_brk, x_ret, x_retN, x_ite, x_set, x_asg, x_sub, x_for, x_raise, x_sfld, x_nev, x_while, x_var, x_int, x_str, x_bl, x_non, x_con, x_tup, x_lst, x_bin, x_neg, x_notv, x_nott, x_andv, x_andt, x_orv, x_ort, x_cmpv, x_cmpt, x_chnv, x_chnt, x_ife, x_ix, x_sl, x_isi, x_isis, x_iso, x_tyiv, x_tyit, x_fld, x_mcl, x_new, x_blt, x_tlt, x_mth, x_call, x_how, x_dl, x_rp, x_lc, t_var, t_int, t_str, t_bl, t_non, t_con, t_tup, t_lst, t_bin, t_neg, t_ix, t_sl, t_isi, t_isis, t_iso, t_fld, t_mcl, t_new, t_blt, t_tlt, t_mth, t_call, t_how, t_lc, x_l0, x_l1, x_l2, x_av1, x_av2, x_ov1, x_ov2, x_at1, x_at2, x_ot1, x_ot2, x_p0, x_p1, x_o0, x_o1, x_seq, x_rng1, x_rng2, x_zip, sizeLine_eq, iL_len, setAll, setTg, wipeD, initS, ↓to_lb, ↓to_evl, ↓to_itl, lb_val, lb_exc, lb_none, itl_t, itl_f, evl_val, evl_none, evl_lb, rep0 cs (goal.length - 1) (by omega), hz, eq_lst, zr]; try simp only [of_lb, of_evl, of_itl])
        by_cases cx : -k < x
        · (simp -implicitDefEqProofs [x_nil, x_cons, x_expr, x_doc, x_pas, x_cont, x_brk, x_ret, x_retN, x_ite, x_set, x_asg, x_sub, x_for, x_raise, x_sfld, x_nev, x_while, x_var, x_int, x_str, x_bl, x_non, x_con, x_tup, x_lst, x_bin, x_neg, x_notv, x_nott, x_andv, x_andt, x_orv, x_ort, x_cmpv, x_cmpt, x_chnv, x_chnt, x_ife, x_ix, x_sl, x_isi, x_isis, x_iso, x_tyiv, x_tyit, x_fld, x_mcl, x_new, x_blt, x_tlt, x_mth, x_call, x_how, x_dl, x_rp, x_lc, t_var, t_int, t_str, t_bl, t_non, t_con, t_tup, t_lst, t_bin, t_neg, t_ix, t_sl, t_isi, t_isis, t_iso, t_fld, t_mcl, t_new, t_blt, t_tlt, t_mth, t_call, t_how, t_lc, x_l0, x_l1, x_l2, x_av1, x_av2, x_ov1, x_ov2, x_at1, x_at2, x_ot1, x_ot2, x_p0, x_p1, x_o0, x_o1, x_seq, x_rng1, x_rng2, x_zip, sizeLine_eq, iL_len, setAll, setTg, wipeD, initS, ↓to_lb, ↓to_evl, ↓to_itl, lb_val, lb_exc, lb_none, itl_t, itl_f, evl_val, evl_none, evl_lb, cx, rep0 cs (goal.length - 1) (by omega), hz, eq_lst]; try simp only [of_lb, of_evl, of_itl])
        · (simp -implicitDefEqProofs [x_nil, x_cons, x_expr, x_doc, x_pas, x_cont, x_brk, x_ret, x_retN, x_ite, x_set, x_asg, x_sub, x_for, x_raise, x_sfld, x_nev, x_while, x_var, x_int, x_str, x_bl, x_non, x_con, x_tup, x_lst, x_bin, x_neg, x_notv, x_nott, x_andv, x_andt, x_orv, x_ort, x_cmpv, x_cmpt, x_chnv, x_chnt, x_ife, x_ix, x_sl, x_isi, x_isis, x_iso, x_tyiv, x_tyit, x_fld, x_mcl, x_new, x_blt, x_tlt, x_mth, x_call, x_how, x_dl, x_rp, x_lc, t_var, t_int, t_str, t_bl, t_non, t_con, t_tup, t_lst, t_bin, t_neg, t_ix, t_sl, t_isi, t_isis, t_iso, t_fld, t_mcl, t_new, t_blt, t_tlt, t_mth, t_call, t_how, t_lc, x_l0, x_l1, x_l2, x_av1, x_av2, x_ov1, x_ov2, x_at1, x_at2, x_ot1, x_ot2, x_p0, x_p1, x_o0, x_o1, x_seq, x_rng1, x_rng2, x_zip, sizeLine_eq, iL_len, setAll, setTg, wipeD, initS, ↓to_lb, ↓to_evl, ↓to_itl, lb_val, lb_exc, lb_none, itl_t, itl_f, evl_val, evl_none, evl_lb, cx]; try simp only [of_lb, of_evl, of_itl])
    · (simp -implicitDefEqProofs [x_nil, x_cons, x_expr, x_doc, x_pas, x_cont, x_brk, x_ret, x_retN, x_ite, x_set, x_asg, x_sub, x_for, x_raise, x_sfld, x_nev, x_while, x_var, x_int, x_str, x_bl, x_non, x_con, x_tup, x_lst, x_bin, x_neg, x_notv, x_nott, x_andv, x_andt, x_orv, x_ort, x_cmpv, x_cmpt, x_chnv, x_chnt, x_ife, x_ix, x_sl, x_isi, x_isis, x_iso, x_tyiv, x_tyit, x_fld, x_mcl, x_new, x_blt, x_tlt, x_mth, x_call, x_how, x_dl, x_rp, x_lc, t_var, t_int, t_str, t_bl, t_non, t_con, t_tup, t_lst, t_bin, t_neg, t_ix, t_sl, t_isi, t_isis, t_iso, t_fld, t_mcl, t_new, t_blt, t_tlt, t_mth, t_call, t_how, t_lc, x_l0, x_l1, x_l2, x_av1, x_av2, x_ov1, x_ov2, x_at1, x_at2, x_ot1, x_ot2, x_p0, x_p1, x_o0, x_o1, x_seq, x_rng1, x_rng2, x_zip, sizeLine_eq, iL_len, setAll, setTg, wipeD, initS, ↓to_lb, ↓to_evl, ↓to_itl, lb_val, lb_exc, lb_none, itl_t, itl_f, evl_val, evl_none, evl_lb]; try simp only [of_lb, of_evl, of_itl])
    · exact grdN _
    · rw [zip_iL]; simp [sizeLine]; omega
    · intro y hy
      rw [zip_iL] at hy
      obtain ⟨⟨u, v⟩, huv, rfl⟩ := List.mem_map.mp hy
      (simp -implicitDefEqProofs [x_nil, x_cons, x_expr, x_doc, x_pas, x_cont, x_brk, x_ret, x_retN, x_ite, x_set, x_asg, x_sub, x_for, x_raise, x_sfld, x_nev, x_while, x_var, x_int, x_str, x_bl, x_non, x_con, x_tup, x_lst, x_bin, x_neg, x_notv, x_nott, x_andv, x_andt, x_orv, x_ort, x_cmpv, x_cmpt, x_chnv, x_chnt, x_ife, x_ix, x_sl, x_isi, x_isis, x_iso, x_tyiv, x_tyit, x_fld, x_mcl, x_new, x_blt, x_tlt, x_mth, x_call, x_how, x_dl, x_rp, x_lc, t_var, t_int, t_str, t_bl, t_non, t_con, t_tup, t_lst, t_bin, t_neg, t_ix, t_sl, t_isi, t_isis, t_iso, t_fld, t_mcl, t_new, t_blt, t_tlt, t_mth, t_call, t_how, t_lc, x_l0, x_l1, x_l2, x_av1, x_av2, x_ov1, x_ov2, x_at1, x_at2, x_ot1, x_ot2, x_p0, x_p1, x_o0, x_o1, x_seq, x_rng1, x_rng2, x_zip, sizeLine_eq, iL_len, setAll, setTg, wipeD, initS, ↓to_lb, ↓to_evl, ↓to_itl, lb_val, lb_exc, lb_none, itl_t, itl_f, evl_val, evl_none, evl_lb, mulW false cs k u 200 300 hk (gb u (List.of_mem_zip huv).1) (by decide)]; try simp only [of_lb, of_evl, of_itl])
  · have c2 : ¬ (ws.length : Int) = (hs.length : Int) := by omega
    (simp -implicitDefEqProofs [x_nil, x_cons, x_expr, x_doc, x_pas, x_cont, x_brk, x_ret, x_retN, x_ite, x_set, x_asg, x_sub, x_for, x_raise, x_sfld, x_nev, x_while, x_var, x_int, x_str, x_bl, x_non, x_con, x_tup, x_lst, x_bin, x_neg, x_notv, x_nott, x_andv, x_andt, x_orv, x_ort, x_cmpv, x_cmpt, x_chnv, x_chnt, x_ife, x_ix, x_sl, x_isi, x_isis, x_iso, x_tyiv, x_tyit, x_fld, x_mcl, x_new, x_blt, x_tlt, x_mth, x_call, x_how, x_dl, x_rp, x_lc, t_var, t_int, t_str, t_bl, t_non, t_con, t_tup, t_lst, t_bin, t_neg, t_ix, t_sl, t_isi, t_isis, t_iso, t_fld, t_mcl, t_new, t_blt, t_tlt, t_mth, t_call, t_how, t_lc, x_l0, x_l1, x_l2, x_av1, x_av2, x_ov1, x_ov2, x_at1, x_at2, x_ot1, x_ot2, x_p0, x_p1, x_o0, x_o1, x_seq, x_rng1, x_rng2, x_zip, sizeLine_eq, iL_len, setAll, setTg, wipeD, initS, ↓to_lb, ↓to_evl, ↓to_itl, lb_val, lb_exc, lb_none, itl_t, itl_f, evl_val, evl_none, evl_lb, Pc.enc, atI_m1_3, hD_len, c, c2]; try simp only [of_lb, of_evl, of_itl])
end
end EV

namespace EV
open PySem PySem.Spec PyProof.Rows L2 ZG
theorem contra_d (x : Int) (r : List Int) : D.int (-x - 1) :: r.map (fun i => D.int (-i)) = iL (conF (x :: r)) := by
  have h1 : -x - 1 = x * -1 - 1 := by omega
  have h2 : (fun i : Int => D.int (-i)) = D.int ∘ fun x => x * -1 := by
    funext i
    have : -i = i * -1 := by omega
    simp only [Function.comp_apply, this]
  unfold conF oftF iL
  rw [List.map_cons, List.map_map, h1, h2]
section
variable (n : Nat) (cs : Cells)
theorem contra_ {T : Tb} {vs : List Nat} {i : Nat} {src : Slots → Cells → RsG ItD} {f : Slots → Cells → Rs} {sl : Slots} {r : List Int} (hl : r.length ≤ 1000) (hs : src sl cs = some (.val ⟨iL r, []⟩, cs)) (hf : ∀ x : Int, f ((wipeD sl vs).set i (some (.int x))) cs = some (.val (.int (-x)), cs)) :
    lcD false (.nm i) vs src (tstO (evo T .no)) f sl cs = some (.val (.lst (r.map fun i => D.int (-i))), cs) := by
  refine lcD_mapA D.int (fun i => D.int (-i)) r hs (by rw [sizeLine_eq]; omega) fun x _ => ⟨_, rfl, ?_, hf x⟩
  rw [x_o0]
end
theorem in_two (cs : Cells) (w : Str) : cmpD .NotIn (.str w) (.tup [.str "split", .str "apart"]) cs = some (.val (.bl (!(decide (w = "split") || decide (w = "apart")))), cs) := by
  have e : inD cs (.str w) (.tup [.str "split", .str "apart"]) = some (([D.str "split", D.str "apart"]).any fun z => eqF z (.str w)) := rfl
  have e2 : (([D.str "split", D.str "apart"]).any fun z => eqF z (.str w)) = (decide (w = "split") || decide (w = "apart")) := by
    rw [List.any_cons, List.any_cons, List.any_nil, Bool.or_false]
    have q : ∀ u : Str, eqF (.str u) (.str w) = decide (w = u) := fun u => by
      show (u == w) = _
      rw [Bool.eq_iff_iff, beq_iff_eq, decide_eq_true_eq]
      exact eq_comm
    rw [q, q]
  rw [e2] at e
  unfold cmpD
  dsimp only
  rw [e]
  rfl
section
variable (n : Nat) (cs : Cells)
theorem law_shows_none {m : Nat} {d : D} (h : kd m d = true) (hm : m ≤ 50) (e : papD d = none) (H G : D) {un : List (List Int)} (left : Nat) : SM (n+4) i__law_shows [d, H, .lst (hD un), G, .int left] cs = some (.val (.bl false), cs) := by
  rw [e__law_shows, b__law_shows]
  cases d with
  | tup ds =>
    cases ds with
    | nil =>
      have E := eq_nilT cs (n := 0) (ds := []) (by simp) (by omega)
      (simp -implicitDefEqProofs [x_nil, x_cons, x_expr, x_doc, x_pas, x_cont, x_brk, x_ret, x_retN, x_ite, x_set, x_asg, x_sub, x_for, x_raise, x_sfld, x_nev, x_while, x_var, x_int, x_str, x_bl, x_non, x_con, x_tup, x_lst, x_bin, x_neg, x_notv, x_nott, x_andv, x_andt, x_orv, x_ort, x_cmpv, x_cmpt, x_chnv, x_chnt, x_ife, x_ix, x_sl, x_isi, x_isis, x_iso, x_tyiv, x_tyit, x_fld, x_mcl, x_new, x_blt, x_tlt, x_mth, x_call, x_how, x_dl, x_rp, x_lc, t_var, t_int, t_str, t_bl, t_non, t_con, t_tup, t_lst, t_bin, t_neg, t_ix, t_sl, t_isi, t_isis, t_iso, t_fld, t_mcl, t_new, t_blt, t_tlt, t_mth, t_call, t_how, t_lc, x_l0, x_l1, x_l2, x_av1, x_av2, x_ov1, x_ov2, x_at1, x_at2, x_ot1, x_ot2, x_p0, x_p1, x_o0, x_o1, x_seq, x_rng1, x_rng2, x_zip, sizeLine_eq, iL_len, setAll, setTg, wipeD, initS, ↓to_lb, ↓to_evl, ↓to_itl, lb_val, lb_exc, lb_none, itl_t, itl_f, evl_val, evl_none, evl_lb, isTy, E]; try simp only [of_lb, of_evl, of_itl])
    | cons x r =>
      obtain ⟨k, rfl, hl, h2⟩ := kd_tup h
      have hx := h2 x (by simp)
      have E := eq_nilT cs h2 (by omega)
      have E0 : (x :: r).isEmpty = false := rfl
      rw [E0] at E
      cases x with
      | str w =>
        have hp : papR w r = none := e
        have E1 := eq_word cs hx (by omega) "sum" ok_words.1
        have E2 := eq_word cs hx (by omega) "never" ok_words.2.1
        have E3 := eq_word cs hx (by omega) "split" ok_words.2.2.1
        have NI := in_two cs w
        by_cases w1 : w = "sum"
        · subst w1
          have p1 : (!(decide (("sum" : Str) = "split") || decide (("sum" : Str) = "apart"))) = true := by decide +kernel
          rw [p1] at NI
          by_cases l : r.length = 2
          · obtain ⟨a, b, rfl⟩ := lst2 l
            have ka := h2 a (by simp)
            have kb := h2 b (by simp)
            have W := law_is_weights_D (n+1) cs kb (by omega)
            have F := law_is_form_T (n+2) cs (m := k) (ds := [a]) (by simp) (by simpa using ka) (by omega)
            have q := pap_sum a b
            rw [hp] at q
            have q : (isI a && (decide (1 ≤ toI a) && isWts b)) = false := q.symm
            cases a with
            | int i =>
              by_cases c : 0 < i
              · have c1 : decide (1 ≤ toI (.int i)) = true := decide_eq_true (show 1 ≤ i by omega)
                have c2 : isWts b = false := by
                  rw [c1] at q
                  simpa [isI] using q
                (simp -implicitDefEqProofs [x_nil, x_cons, x_expr, x_doc, x_pas, x_cont, x_brk, x_ret, x_retN, x_ite, x_set, x_asg, x_sub, x_for, x_raise, x_sfld, x_nev, x_while, x_var, x_int, x_str, x_bl, x_non, x_con, x_tup, x_lst, x_bin, x_neg, x_notv, x_nott, x_andv, x_andt, x_orv, x_ort, x_cmpv, x_cmpt, x_chnv, x_chnt, x_ife, x_ix, x_sl, x_isi, x_isis, x_iso, x_tyiv, x_tyit, x_fld, x_mcl, x_new, x_blt, x_tlt, x_mth, x_call, x_how, x_dl, x_rp, x_lc, t_var, t_int, t_str, t_bl, t_non, t_con, t_tup, t_lst, t_bin, t_neg, t_ix, t_sl, t_isi, t_isis, t_iso, t_fld, t_mcl, t_new, t_blt, t_tlt, t_mth, t_call, t_how, t_lc, x_l0, x_l1, x_l2, x_av1, x_av2, x_ov1, x_ov2, x_at1, x_at2, x_ot1, x_ot2, x_p0, x_p1, x_o0, x_o1, x_seq, x_rng1, x_rng2, x_zip, sizeLine_eq, iL_len, setAll, setTg, wipeD, initS, ↓to_lb, ↓to_evl, ↓to_itl, lb_val, lb_exc, lb_none, itl_t, itl_f, evl_val, evl_none, evl_lb, isTy, E, W, F, c, isF, isI, c2]; try simp only [of_lb, of_evl, of_itl])
              · (simp -implicitDefEqProofs [x_nil, x_cons, x_expr, x_doc, x_pas, x_cont, x_brk, x_ret, x_retN, x_ite, x_set, x_asg, x_sub, x_for, x_raise, x_sfld, x_nev, x_while, x_var, x_int, x_str, x_bl, x_non, x_con, x_tup, x_lst, x_bin, x_neg, x_notv, x_nott, x_andv, x_andt, x_orv, x_ort, x_cmpv, x_cmpt, x_chnv, x_chnt, x_ife, x_ix, x_sl, x_isi, x_isis, x_iso, x_tyiv, x_tyit, x_fld, x_mcl, x_new, x_blt, x_tlt, x_mth, x_call, x_how, x_dl, x_rp, x_lc, t_var, t_int, t_str, t_bl, t_non, t_con, t_tup, t_lst, t_bin, t_neg, t_ix, t_sl, t_isi, t_isis, t_iso, t_fld, t_mcl, t_new, t_blt, t_tlt, t_mth, t_call, t_how, t_lc, x_l0, x_l1, x_l2, x_av1, x_av2, x_ov1, x_ov2, x_at1, x_at2, x_ot1, x_ot2, x_p0, x_p1, x_o0, x_o1, x_seq, x_rng1, x_rng2, x_zip, sizeLine_eq, iL_len, setAll, setTg, wipeD, initS, ↓to_lb, ↓to_evl, ↓to_itl, lb_val, lb_exc, lb_none, itl_t, itl_f, evl_val, evl_none, evl_lb, isTy, E, W, F, c, isF, isI]; try simp only [of_lb, of_evl, of_itl])
            | non => (simp -implicitDefEqProofs [x_nil, x_cons, x_expr, x_doc, x_pas, x_cont, x_brk, x_ret, x_retN, x_ite, x_set, x_asg, x_sub, x_for, x_raise, x_sfld, x_nev, x_while, x_var, x_int, x_str, x_bl, x_non, x_con, x_tup, x_lst, x_bin, x_neg, x_notv, x_nott, x_andv, x_andt, x_orv, x_ort, x_cmpv, x_cmpt, x_chnv, x_chnt, x_ife, x_ix, x_sl, x_isi, x_isis, x_iso, x_tyiv, x_tyit, x_fld, x_mcl, x_new, x_blt, x_tlt, x_mth, x_call, x_how, x_dl, x_rp, x_lc, t_var, t_int, t_str, t_bl, t_non, t_con, t_tup, t_lst, t_bin, t_neg, t_ix, t_sl, t_isi, t_isis, t_iso, t_fld, t_mcl, t_new, t_blt, t_tlt, t_mth, t_call, t_how, t_lc, x_l0, x_l1, x_l2, x_av1, x_av2, x_ov1, x_ov2, x_at1, x_at2, x_ot1, x_ot2, x_p0, x_p1, x_o0, x_o1, x_seq, x_rng1, x_rng2, x_zip, sizeLine_eq, iL_len, setAll, setTg, wipeD, initS, ↓to_lb, ↓to_evl, ↓to_itl, lb_val, lb_exc, lb_none, itl_t, itl_f, evl_val, evl_none, evl_lb, isTy, E, F, isF, isI]; try simp only [of_lb, of_evl, of_itl])
            | bl _ => (simp -implicitDefEqProofs [x_nil, x_cons, x_expr, x_doc, x_pas, x_cont, x_brk, x_ret, x_retN, x_ite, x_set, x_asg, x_sub, x_for, x_raise, x_sfld, x_nev, x_while, x_var, x_int, x_str, x_bl, x_non, x_con, x_tup, x_lst, x_bin, x_neg, x_notv, x_nott, x_andv, x_andt, x_orv, x_ort, x_cmpv, x_cmpt, x_chnv, x_chnt, x_ife, x_ix, x_sl, x_isi, x_isis, x_iso, x_tyiv, x_tyit, x_fld, x_mcl, x_new, x_blt, x_tlt, x_mth, x_call, x_how, x_dl, x_rp, x_lc, t_var, t_int, t_str, t_bl, t_non, t_con, t_tup, t_lst, t_bin, t_neg, t_ix, t_sl, t_isi, t_isis, t_iso, t_fld, t_mcl, t_new, t_blt, t_tlt, t_mth, t_call, t_how, t_lc, x_l0, x_l1, x_l2, x_av1, x_av2, x_ov1, x_ov2, x_at1, x_at2, x_ot1, x_ot2, x_p0, x_p1, x_o0, x_o1, x_seq, x_rng1, x_rng2, x_zip, sizeLine_eq, iL_len, setAll, setTg, wipeD, initS, ↓to_lb, ↓to_evl, ↓to_itl, lb_val, lb_exc, lb_none, itl_t, itl_f, evl_val, evl_none, evl_lb, isTy, E, F, isF, isI]; try simp only [of_lb, of_evl, of_itl])
            | str _ => (simp -implicitDefEqProofs [x_nil, x_cons, x_expr, x_doc, x_pas, x_cont, x_brk, x_ret, x_retN, x_ite, x_set, x_asg, x_sub, x_for, x_raise, x_sfld, x_nev, x_while, x_var, x_int, x_str, x_bl, x_non, x_con, x_tup, x_lst, x_bin, x_neg, x_notv, x_nott, x_andv, x_andt, x_orv, x_ort, x_cmpv, x_cmpt, x_chnv, x_chnt, x_ife, x_ix, x_sl, x_isi, x_isis, x_iso, x_tyiv, x_tyit, x_fld, x_mcl, x_new, x_blt, x_tlt, x_mth, x_call, x_how, x_dl, x_rp, x_lc, t_var, t_int, t_str, t_bl, t_non, t_con, t_tup, t_lst, t_bin, t_neg, t_ix, t_sl, t_isi, t_isis, t_iso, t_fld, t_mcl, t_new, t_blt, t_tlt, t_mth, t_call, t_how, t_lc, x_l0, x_l1, x_l2, x_av1, x_av2, x_ov1, x_ov2, x_at1, x_at2, x_ot1, x_ot2, x_p0, x_p1, x_o0, x_o1, x_seq, x_rng1, x_rng2, x_zip, sizeLine_eq, iL_len, setAll, setTg, wipeD, initS, ↓to_lb, ↓to_evl, ↓to_itl, lb_val, lb_exc, lb_none, itl_t, itl_f, evl_val, evl_none, evl_lb, isTy, E, F, isF, isI]; try simp only [of_lb, of_evl, of_itl])
            | tup _ => (simp -implicitDefEqProofs [x_nil, x_cons, x_expr, x_doc, x_pas, x_cont, x_brk, x_ret, x_retN, x_ite, x_set, x_asg, x_sub, x_for, x_raise, x_sfld, x_nev, x_while, x_var, x_int, x_str, x_bl, x_non, x_con, x_tup, x_lst, x_bin, x_neg, x_notv, x_nott, x_andv, x_andt, x_orv, x_ort, x_cmpv, x_cmpt, x_chnv, x_chnt, x_ife, x_ix, x_sl, x_isi, x_isis, x_iso, x_tyiv, x_tyit, x_fld, x_mcl, x_new, x_blt, x_tlt, x_mth, x_call, x_how, x_dl, x_rp, x_lc, t_var, t_int, t_str, t_bl, t_non, t_con, t_tup, t_lst, t_bin, t_neg, t_ix, t_sl, t_isi, t_isis, t_iso, t_fld, t_mcl, t_new, t_blt, t_tlt, t_mth, t_call, t_how, t_lc, x_l0, x_l1, x_l2, x_av1, x_av2, x_ov1, x_ov2, x_at1, x_at2, x_ot1, x_ot2, x_p0, x_p1, x_o0, x_o1, x_seq, x_rng1, x_rng2, x_zip, sizeLine_eq, iL_len, setAll, setTg, wipeD, initS, ↓to_lb, ↓to_evl, ↓to_itl, lb_val, lb_exc, lb_none, itl_t, itl_f, evl_val, evl_none, evl_lb, isTy, E, F, isF, isI]; try simp only [of_lb, of_evl, of_itl])
            | lst _ => (simp -implicitDefEqProofs [x_nil, x_cons, x_expr, x_doc, x_pas, x_cont, x_brk, x_ret, x_retN, x_ite, x_set, x_asg, x_sub, x_for, x_raise, x_sfld, x_nev, x_while, x_var, x_int, x_str, x_bl, x_non, x_con, x_tup, x_lst, x_bin, x_neg, x_notv, x_nott, x_andv, x_andt, x_orv, x_ort, x_cmpv, x_cmpt, x_chnv, x_chnt, x_ife, x_ix, x_sl, x_isi, x_isis, x_iso, x_tyiv, x_tyit, x_fld, x_mcl, x_new, x_blt, x_tlt, x_mth, x_call, x_how, x_dl, x_rp, x_lc, t_var, t_int, t_str, t_bl, t_non, t_con, t_tup, t_lst, t_bin, t_neg, t_ix, t_sl, t_isi, t_isis, t_iso, t_fld, t_mcl, t_new, t_blt, t_tlt, t_mth, t_call, t_how, t_lc, x_l0, x_l1, x_l2, x_av1, x_av2, x_ov1, x_ov2, x_at1, x_at2, x_ot1, x_ot2, x_p0, x_p1, x_o0, x_o1, x_seq, x_rng1, x_rng2, x_zip, sizeLine_eq, iL_len, setAll, setTg, wipeD, initS, ↓to_lb, ↓to_evl, ↓to_itl, lb_val, lb_exc, lb_none, itl_t, itl_f, evl_val, evl_none, evl_lb, isTy, E, F, isF, isI]; try simp only [of_lb, of_evl, of_itl])
            | _ => cases k <;> simp [kd] at ka
          · have l2 : ¬ ((r.length : Int) + 1 = 3) := by omega
            have l3 : ¬ (r.length + 1 = 3) := by omega
            (simp -implicitDefEqProofs [x_nil, x_cons, x_expr, x_doc, x_pas, x_cont, x_brk, x_ret, x_retN, x_ite, x_set, x_asg, x_sub, x_for, x_raise, x_sfld, x_nev, x_while, x_var, x_int, x_str, x_bl, x_non, x_con, x_tup, x_lst, x_bin, x_neg, x_notv, x_nott, x_andv, x_andt, x_orv, x_ort, x_cmpv, x_cmpt, x_chnv, x_chnt, x_ife, x_ix, x_sl, x_isi, x_isis, x_iso, x_tyiv, x_tyit, x_fld, x_mcl, x_new, x_blt, x_tlt, x_mth, x_call, x_how, x_dl, x_rp, x_lc, t_var, t_int, t_str, t_bl, t_non, t_con, t_tup, t_lst, t_bin, t_neg, t_ix, t_sl, t_isi, t_isis, t_iso, t_fld, t_mcl, t_new, t_blt, t_tlt, t_mth, t_call, t_how, t_lc, x_l0, x_l1, x_l2, x_av1, x_av2, x_ov1, x_ov2, x_at1, x_at2, x_ot1, x_ot2, x_p0, x_p1, x_o0, x_o1, x_seq, x_rng1, x_rng2, x_zip, sizeLine_eq, iL_len, setAll, setTg, wipeD, initS, ↓to_lb, ↓to_evl, ↓to_itl, lb_val, lb_exc, lb_none, itl_t, itl_f, evl_val, evl_none, evl_lb, isTy, E, l, l2, l3, NI]; try simp only [of_lb, of_evl, of_itl])
        · rw [isW_no w1] at E1
          by_cases w2 : w = "never"
          · subst w2
            have p1 : (!(decide (("never" : Str) = "split") || decide (("never" : Str) = "apart"))) = true := by decide +kernel
            rw [p1] at NI
            by_cases l : r.length = 1
            · obtain ⟨b, rfl⟩ := lst1 l
              have W := law_is_weights_D (n+1) cs (h2 b (by simp)) (by omega)
              have q := pap_nev b
              rw [hp] at q
              have q : isWts b = false := q.symm
              (simp -implicitDefEqProofs [x_nil, x_cons, x_expr, x_doc, x_pas, x_cont, x_brk, x_ret, x_retN, x_ite, x_set, x_asg, x_sub, x_for, x_raise, x_sfld, x_nev, x_while, x_var, x_int, x_str, x_bl, x_non, x_con, x_tup, x_lst, x_bin, x_neg, x_notv, x_nott, x_andv, x_andt, x_orv, x_ort, x_cmpv, x_cmpt, x_chnv, x_chnt, x_ife, x_ix, x_sl, x_isi, x_isis, x_iso, x_tyiv, x_tyit, x_fld, x_mcl, x_new, x_blt, x_tlt, x_mth, x_call, x_how, x_dl, x_rp, x_lc, t_var, t_int, t_str, t_bl, t_non, t_con, t_tup, t_lst, t_bin, t_neg, t_ix, t_sl, t_isi, t_isis, t_iso, t_fld, t_mcl, t_new, t_blt, t_tlt, t_mth, t_call, t_how, t_lc, x_l0, x_l1, x_l2, x_av1, x_av2, x_ov1, x_ov2, x_at1, x_at2, x_ot1, x_ot2, x_p0, x_p1, x_o0, x_o1, x_seq, x_rng1, x_rng2, x_zip, sizeLine_eq, iL_len, setAll, setTg, wipeD, initS, ↓to_lb, ↓to_evl, ↓to_itl, lb_val, lb_exc, lb_none, itl_t, itl_f, evl_val, evl_none, evl_lb, isTy, E, W, q]; try simp only [of_lb, of_evl, of_itl])
            · have l2 : ¬ ((r.length : Int) + 1 = 2) := by omega
              have l3 : ¬ (r.length + 1 = 2) := by omega
              (simp -implicitDefEqProofs [x_nil, x_cons, x_expr, x_doc, x_pas, x_cont, x_brk, x_ret, x_retN, x_ite, x_set, x_asg, x_sub, x_for, x_raise, x_sfld, x_nev, x_while, x_var, x_int, x_str, x_bl, x_non, x_con, x_tup, x_lst, x_bin, x_neg, x_notv, x_nott, x_andv, x_andt, x_orv, x_ort, x_cmpv, x_cmpt, x_chnv, x_chnt, x_ife, x_ix, x_sl, x_isi, x_isis, x_iso, x_tyiv, x_tyit, x_fld, x_mcl, x_new, x_blt, x_tlt, x_mth, x_call, x_how, x_dl, x_rp, x_lc, t_var, t_int, t_str, t_bl, t_non, t_con, t_tup, t_lst, t_bin, t_neg, t_ix, t_sl, t_isi, t_isis, t_iso, t_fld, t_mcl, t_new, t_blt, t_tlt, t_mth, t_call, t_how, t_lc, x_l0, x_l1, x_l2, x_av1, x_av2, x_ov1, x_ov2, x_at1, x_at2, x_ot1, x_ot2, x_p0, x_p1, x_o0, x_o1, x_seq, x_rng1, x_rng2, x_zip, sizeLine_eq, iL_len, setAll, setTg, wipeD, initS, ↓to_lb, ↓to_evl, ↓to_itl, lb_val, lb_exc, lb_none, itl_t, itl_f, evl_val, evl_none, evl_lb, isTy, E, l, l2, l3, NI]; try simp only [of_lb, of_evl, of_itl])
          · rw [isW_no w2] at E2
            by_cases w3 : w = "split"
            · subst w3
              have p1 : (!(decide (("split" : Str) = "split") || decide (("split" : Str) = "apart"))) = false := by decide +kernel
              rw [p1] at NI
              by_cases l : r.length = 3
              · obtain ⟨f, a, b, rfl⟩ := lst3 l
                have W := law_is_form_D (n+2) cs (h2 f (by simp)) (by omega)
                have q := pap_spl f a b
                rw [hp] at q
                have q : isF f = false := q.symm
                by_cases z : left = 0
                · subst z
                  (simp -implicitDefEqProofs [x_nil, x_cons, x_expr, x_doc, x_pas, x_cont, x_brk, x_ret, x_retN, x_ite, x_set, x_asg, x_sub, x_for, x_raise, x_sfld, x_nev, x_while, x_var, x_int, x_str, x_bl, x_non, x_con, x_tup, x_lst, x_bin, x_neg, x_notv, x_nott, x_andv, x_andt, x_orv, x_ort, x_cmpv, x_cmpt, x_chnv, x_chnt, x_ife, x_ix, x_sl, x_isi, x_isis, x_iso, x_tyiv, x_tyit, x_fld, x_mcl, x_new, x_blt, x_tlt, x_mth, x_call, x_how, x_dl, x_rp, x_lc, t_var, t_int, t_str, t_bl, t_non, t_con, t_tup, t_lst, t_bin, t_neg, t_ix, t_sl, t_isi, t_isis, t_iso, t_fld, t_mcl, t_new, t_blt, t_tlt, t_mth, t_call, t_how, t_lc, x_l0, x_l1, x_l2, x_av1, x_av2, x_ov1, x_ov2, x_at1, x_at2, x_ot1, x_ot2, x_p0, x_p1, x_o0, x_o1, x_seq, x_rng1, x_rng2, x_zip, sizeLine_eq, iL_len, setAll, setTg, wipeD, initS, ↓to_lb, ↓to_evl, ↓to_itl, lb_val, lb_exc, lb_none, itl_t, itl_f, evl_val, evl_none, evl_lb, isTy, E, NI]; try simp only [of_lb, of_evl, of_itl])
                · have z2 : ¬ (left : Int) = 0 := by omega
                  (simp -implicitDefEqProofs [x_nil, x_cons, x_expr, x_doc, x_pas, x_cont, x_brk, x_ret, x_retN, x_ite, x_set, x_asg, x_sub, x_for, x_raise, x_sfld, x_nev, x_while, x_var, x_int, x_str, x_bl, x_non, x_con, x_tup, x_lst, x_bin, x_neg, x_notv, x_nott, x_andv, x_andt, x_orv, x_ort, x_cmpv, x_cmpt, x_chnv, x_chnt, x_ife, x_ix, x_sl, x_isi, x_isis, x_iso, x_tyiv, x_tyit, x_fld, x_mcl, x_new, x_blt, x_tlt, x_mth, x_call, x_how, x_dl, x_rp, x_lc, t_var, t_int, t_str, t_bl, t_non, t_con, t_tup, t_lst, t_bin, t_neg, t_ix, t_sl, t_isi, t_isis, t_iso, t_fld, t_mcl, t_new, t_blt, t_tlt, t_mth, t_call, t_how, t_lc, x_l0, x_l1, x_l2, x_av1, x_av2, x_ov1, x_ov2, x_at1, x_at2, x_ot1, x_ot2, x_p0, x_p1, x_o0, x_o1, x_seq, x_rng1, x_rng2, x_zip, sizeLine_eq, iL_len, setAll, setTg, wipeD, initS, ↓to_lb, ↓to_evl, ↓to_itl, lb_val, lb_exc, lb_none, itl_t, itl_f, evl_val, evl_none, evl_lb, isTy, E, NI, z, z2, W, q]; try simp only [of_lb, of_evl, of_itl])
              · have l2 : ¬ ((r.length : Int) + 1 = 4) := by omega
                have l3 : ¬ (r.length + 1 = 4) := by omega
                (simp -implicitDefEqProofs [x_nil, x_cons, x_expr, x_doc, x_pas, x_cont, x_brk, x_ret, x_retN, x_ite, x_set, x_asg, x_sub, x_for, x_raise, x_sfld, x_nev, x_while, x_var, x_int, x_str, x_bl, x_non, x_con, x_tup, x_lst, x_bin, x_neg, x_notv, x_nott, x_andv, x_andt, x_orv, x_ort, x_cmpv, x_cmpt, x_chnv, x_chnt, x_ife, x_ix, x_sl, x_isi, x_isis, x_iso, x_tyiv, x_tyit, x_fld, x_mcl, x_new, x_blt, x_tlt, x_mth, x_call, x_how, x_dl, x_rp, x_lc, t_var, t_int, t_str, t_bl, t_non, t_con, t_tup, t_lst, t_bin, t_neg, t_ix, t_sl, t_isi, t_isis, t_iso, t_fld, t_mcl, t_new, t_blt, t_tlt, t_mth, t_call, t_how, t_lc, x_l0, x_l1, x_l2, x_av1, x_av2, x_ov1, x_ov2, x_at1, x_at2, x_ot1, x_ot2, x_p0, x_p1, x_o0, x_o1, x_seq, x_rng1, x_rng2, x_zip, sizeLine_eq, iL_len, setAll, setTg, wipeD, initS, ↓to_lb, ↓to_evl, ↓to_itl, lb_val, lb_exc, lb_none, itl_t, itl_f, evl_val, evl_none, evl_lb, isTy, E, l, l2, l3, NI]; try simp only [of_lb, of_evl, of_itl])
            · rw [isW_no w3] at E3
              by_cases w4 : w = "apart"
              · subst w4
                have p1 : (!(decide (("apart" : Str) = "split") || decide (("apart" : Str) = "apart"))) = false := by decide +kernel
                rw [p1] at NI
                by_cases l : r.length = 3
                · obtain ⟨i, a, b, rfl⟩ := lst3 l
                  have ki := h2 i (by simp)
                  have F := law_is_form_T (n+2) cs (m := k) (ds := [i]) (by simp) (by simpa using ki) (by omega)
                  have q := pap_apt i a b
                  rw [hp] at q
                  have q : (isI i && decide (0 ≤ toI i)) = false := q.symm
                  by_cases z : left = 0
                  · subst z
                    (simp -implicitDefEqProofs [x_nil, x_cons, x_expr, x_doc, x_pas, x_cont, x_brk, x_ret, x_retN, x_ite, x_set, x_asg, x_sub, x_for, x_raise, x_sfld, x_nev, x_while, x_var, x_int, x_str, x_bl, x_non, x_con, x_tup, x_lst, x_bin, x_neg, x_notv, x_nott, x_andv, x_andt, x_orv, x_ort, x_cmpv, x_cmpt, x_chnv, x_chnt, x_ife, x_ix, x_sl, x_isi, x_isis, x_iso, x_tyiv, x_tyit, x_fld, x_mcl, x_new, x_blt, x_tlt, x_mth, x_call, x_how, x_dl, x_rp, x_lc, t_var, t_int, t_str, t_bl, t_non, t_con, t_tup, t_lst, t_bin, t_neg, t_ix, t_sl, t_isi, t_isis, t_iso, t_fld, t_mcl, t_new, t_blt, t_tlt, t_mth, t_call, t_how, t_lc, x_l0, x_l1, x_l2, x_av1, x_av2, x_ov1, x_ov2, x_at1, x_at2, x_ot1, x_ot2, x_p0, x_p1, x_o0, x_o1, x_seq, x_rng1, x_rng2, x_zip, sizeLine_eq, iL_len, setAll, setTg, wipeD, initS, ↓to_lb, ↓to_evl, ↓to_itl, lb_val, lb_exc, lb_none, itl_t, itl_f, evl_val, evl_none, evl_lb, isTy, E, NI]; try simp only [of_lb, of_evl, of_itl])
                  · have z2 : ¬ (left : Int) = 0 := by omega
                    cases i with
                    | int j =>
                      have c : ¬ 0 ≤ j := of_decide_eq_false (show decide (0 ≤ j) = false from q)
                      (simp -implicitDefEqProofs [x_nil, x_cons, x_expr, x_doc, x_pas, x_cont, x_brk, x_ret, x_retN, x_ite, x_set, x_asg, x_sub, x_for, x_raise, x_sfld, x_nev, x_while, x_var, x_int, x_str, x_bl, x_non, x_con, x_tup, x_lst, x_bin, x_neg, x_notv, x_nott, x_andv, x_andt, x_orv, x_ort, x_cmpv, x_cmpt, x_chnv, x_chnt, x_ife, x_ix, x_sl, x_isi, x_isis, x_iso, x_tyiv, x_tyit, x_fld, x_mcl, x_new, x_blt, x_tlt, x_mth, x_call, x_how, x_dl, x_rp, x_lc, t_var, t_int, t_str, t_bl, t_non, t_con, t_tup, t_lst, t_bin, t_neg, t_ix, t_sl, t_isi, t_isis, t_iso, t_fld, t_mcl, t_new, t_blt, t_tlt, t_mth, t_call, t_how, t_lc, x_l0, x_l1, x_l2, x_av1, x_av2, x_ov1, x_ov2, x_at1, x_at2, x_ot1, x_ot2, x_p0, x_p1, x_o0, x_o1, x_seq, x_rng1, x_rng2, x_zip, sizeLine_eq, iL_len, setAll, setTg, wipeD, initS, ↓to_lb, ↓to_evl, ↓to_itl, lb_val, lb_exc, lb_none, itl_t, itl_f, evl_val, evl_none, evl_lb, isTy, E, NI, z, z2, F, isF, isI, chnD, c]; try simp only [of_lb, of_evl, of_itl])
                    | non => (simp -implicitDefEqProofs [x_nil, x_cons, x_expr, x_doc, x_pas, x_cont, x_brk, x_ret, x_retN, x_ite, x_set, x_asg, x_sub, x_for, x_raise, x_sfld, x_nev, x_while, x_var, x_int, x_str, x_bl, x_non, x_con, x_tup, x_lst, x_bin, x_neg, x_notv, x_nott, x_andv, x_andt, x_orv, x_ort, x_cmpv, x_cmpt, x_chnv, x_chnt, x_ife, x_ix, x_sl, x_isi, x_isis, x_iso, x_tyiv, x_tyit, x_fld, x_mcl, x_new, x_blt, x_tlt, x_mth, x_call, x_how, x_dl, x_rp, x_lc, t_var, t_int, t_str, t_bl, t_non, t_con, t_tup, t_lst, t_bin, t_neg, t_ix, t_sl, t_isi, t_isis, t_iso, t_fld, t_mcl, t_new, t_blt, t_tlt, t_mth, t_call, t_how, t_lc, x_l0, x_l1, x_l2, x_av1, x_av2, x_ov1, x_ov2, x_at1, x_at2, x_ot1, x_ot2, x_p0, x_p1, x_o0, x_o1, x_seq, x_rng1, x_rng2, x_zip, sizeLine_eq, iL_len, setAll, setTg, wipeD, initS, ↓to_lb, ↓to_evl, ↓to_itl, lb_val, lb_exc, lb_none, itl_t, itl_f, evl_val, evl_none, evl_lb, isTy, E, NI, z, z2, F, isF, isI]; try simp only [of_lb, of_evl, of_itl])
                    | bl _ => (simp -implicitDefEqProofs [x_nil, x_cons, x_expr, x_doc, x_pas, x_cont, x_brk, x_ret, x_retN, x_ite, x_set, x_asg, x_sub, x_for, x_raise, x_sfld, x_nev, x_while, x_var, x_int, x_str, x_bl, x_non, x_con, x_tup, x_lst, x_bin, x_neg, x_notv, x_nott, x_andv, x_andt, x_orv, x_ort, x_cmpv, x_cmpt, x_chnv, x_chnt, x_ife, x_ix, x_sl, x_isi, x_isis, x_iso, x_tyiv, x_tyit, x_fld, x_mcl, x_new, x_blt, x_tlt, x_mth, x_call, x_how, x_dl, x_rp, x_lc, t_var, t_int, t_str, t_bl, t_non, t_con, t_tup, t_lst, t_bin, t_neg, t_ix, t_sl, t_isi, t_isis, t_iso, t_fld, t_mcl, t_new, t_blt, t_tlt, t_mth, t_call, t_how, t_lc, x_l0, x_l1, x_l2, x_av1, x_av2, x_ov1, x_ov2, x_at1, x_at2, x_ot1, x_ot2, x_p0, x_p1, x_o0, x_o1, x_seq, x_rng1, x_rng2, x_zip, sizeLine_eq, iL_len, setAll, setTg, wipeD, initS, ↓to_lb, ↓to_evl, ↓to_itl, lb_val, lb_exc, lb_none, itl_t, itl_f, evl_val, evl_none, evl_lb, isTy, E, NI, z, z2, F, isF, isI]; try simp only [of_lb, of_evl, of_itl])
                    | str _ => (simp -implicitDefEqProofs [x_nil, x_cons, x_expr, x_doc, x_pas, x_cont, x_brk, x_ret, x_retN, x_ite, x_set, x_asg, x_sub, x_for, x_raise, x_sfld, x_nev, x_while, x_var, x_int, x_str, x_bl, x_non, x_con, x_tup, x_lst, x_bin, x_neg, x_notv, x_nott, x_andv, x_andt, x_orv, x_ort, x_cmpv, x_cmpt, x_chnv, x_chnt, x_ife, x_ix, x_sl, x_isi, x_isis, x_iso, x_tyiv, x_tyit, x_fld, x_mcl, x_new, x_blt, x_tlt, x_mth, x_call, x_how, x_dl, x_rp, x_lc, t_var, t_int, t_str, t_bl, t_non, t_con, t_tup, t_lst, t_bin, t_neg, t_ix, t_sl, t_isi, t_isis, t_iso, t_fld, t_mcl, t_new, t_blt, t_tlt, t_mth, t_call, t_how, t_lc, x_l0, x_l1, x_l2, x_av1, x_av2, x_ov1, x_ov2, x_at1, x_at2, x_ot1, x_ot2, x_p0, x_p1, x_o0, x_o1, x_seq, x_rng1, x_rng2, x_zip, sizeLine_eq, iL_len, setAll, setTg, wipeD, initS, ↓to_lb, ↓to_evl, ↓to_itl, lb_val, lb_exc, lb_none, itl_t, itl_f, evl_val, evl_none, evl_lb, isTy, E, NI, z, z2, F, isF, isI]; try simp only [of_lb, of_evl, of_itl])
                    | tup _ => (simp -implicitDefEqProofs [x_nil, x_cons, x_expr, x_doc, x_pas, x_cont, x_brk, x_ret, x_retN, x_ite, x_set, x_asg, x_sub, x_for, x_raise, x_sfld, x_nev, x_while, x_var, x_int, x_str, x_bl, x_non, x_con, x_tup, x_lst, x_bin, x_neg, x_notv, x_nott, x_andv, x_andt, x_orv, x_ort, x_cmpv, x_cmpt, x_chnv, x_chnt, x_ife, x_ix, x_sl, x_isi, x_isis, x_iso, x_tyiv, x_tyit, x_fld, x_mcl, x_new, x_blt, x_tlt, x_mth, x_call, x_how, x_dl, x_rp, x_lc, t_var, t_int, t_str, t_bl, t_non, t_con, t_tup, t_lst, t_bin, t_neg, t_ix, t_sl, t_isi, t_isis, t_iso, t_fld, t_mcl, t_new, t_blt, t_tlt, t_mth, t_call, t_how, t_lc, x_l0, x_l1, x_l2, x_av1, x_av2, x_ov1, x_ov2, x_at1, x_at2, x_ot1, x_ot2, x_p0, x_p1, x_o0, x_o1, x_seq, x_rng1, x_rng2, x_zip, sizeLine_eq, iL_len, setAll, setTg, wipeD, initS, ↓to_lb, ↓to_evl, ↓to_itl, lb_val, lb_exc, lb_none, itl_t, itl_f, evl_val, evl_none, evl_lb, isTy, E, NI, z, z2, F, isF, isI]; try simp only [of_lb, of_evl, of_itl])
                    | lst _ => (simp -implicitDefEqProofs [x_nil, x_cons, x_expr, x_doc, x_pas, x_cont, x_brk, x_ret, x_retN, x_ite, x_set, x_asg, x_sub, x_for, x_raise, x_sfld, x_nev, x_while, x_var, x_int, x_str, x_bl, x_non, x_con, x_tup, x_lst, x_bin, x_neg, x_notv, x_nott, x_andv, x_andt, x_orv, x_ort, x_cmpv, x_cmpt, x_chnv, x_chnt, x_ife, x_ix, x_sl, x_isi, x_isis, x_iso, x_tyiv, x_tyit, x_fld, x_mcl, x_new, x_blt, x_tlt, x_mth, x_call, x_how, x_dl, x_rp, x_lc, t_var, t_int, t_str, t_bl, t_non, t_con, t_tup, t_lst, t_bin, t_neg, t_ix, t_sl, t_isi, t_isis, t_iso, t_fld, t_mcl, t_new, t_blt, t_tlt, t_mth, t_call, t_how, t_lc, x_l0, x_l1, x_l2, x_av1, x_av2, x_ov1, x_ov2, x_at1, x_at2, x_ot1, x_ot2, x_p0, x_p1, x_o0, x_o1, x_seq, x_rng1, x_rng2, x_zip, sizeLine_eq, iL_len, setAll, setTg, wipeD, initS, ↓to_lb, ↓to_evl, ↓to_itl, lb_val, lb_exc, lb_none, itl_t, itl_f, evl_val, evl_none, evl_lb, isTy, E, NI, z, z2, F, isF, isI]; try simp only [of_lb, of_evl, of_itl])
                    | _ => cases k <;> simp [kd] at ki
                · have l2 : ¬ ((r.length : Int) + 1 = 4) := by omega
                  have l3 : ¬ (r.length + 1 = 4) := by omega
                  (simp -implicitDefEqProofs [x_nil, x_cons, x_expr, x_doc, x_pas, x_cont, x_brk, x_ret, x_retN, x_ite, x_set, x_asg, x_sub, x_for, x_raise, x_sfld, x_nev, x_while, x_var, x_int, x_str, x_bl, x_non, x_con, x_tup, x_lst, x_bin, x_neg, x_notv, x_nott, x_andv, x_andt, x_orv, x_ort, x_cmpv, x_cmpt, x_chnv, x_chnt, x_ife, x_ix, x_sl, x_isi, x_isis, x_iso, x_tyiv, x_tyit, x_fld, x_mcl, x_new, x_blt, x_tlt, x_mth, x_call, x_how, x_dl, x_rp, x_lc, t_var, t_int, t_str, t_bl, t_non, t_con, t_tup, t_lst, t_bin, t_neg, t_ix, t_sl, t_isi, t_isis, t_iso, t_fld, t_mcl, t_new, t_blt, t_tlt, t_mth, t_call, t_how, t_lc, x_l0, x_l1, x_l2, x_av1, x_av2, x_ov1, x_ov2, x_at1, x_at2, x_ot1, x_ot2, x_p0, x_p1, x_o0, x_o1, x_seq, x_rng1, x_rng2, x_zip, sizeLine_eq, iL_len, setAll, setTg, wipeD, initS, ↓to_lb, ↓to_evl, ↓to_itl, lb_val, lb_exc, lb_none, itl_t, itl_f, evl_val, evl_none, evl_lb, isTy, E, l, l2, l3, NI]; try simp only [of_lb, of_evl, of_itl])
              · have p1 : (!(decide (w = "split") || decide (w = "apart"))) = true := by simp [w3, w4]
                rw [p1] at NI
                (simp -implicitDefEqProofs [x_nil, x_cons, x_expr, x_doc, x_pas, x_cont, x_brk, x_ret, x_retN, x_ite, x_set, x_asg, x_sub, x_for, x_raise, x_sfld, x_nev, x_while, x_var, x_int, x_str, x_bl, x_non, x_con, x_tup, x_lst, x_bin, x_neg, x_notv, x_nott, x_andv, x_andt, x_orv, x_ort, x_cmpv, x_cmpt, x_chnv, x_chnt, x_ife, x_ix, x_sl, x_isi, x_isis, x_iso, x_tyiv, x_tyit, x_fld, x_mcl, x_new, x_blt, x_tlt, x_mth, x_call, x_how, x_dl, x_rp, x_lc, t_var, t_int, t_str, t_bl, t_non, t_con, t_tup, t_lst, t_bin, t_neg, t_ix, t_sl, t_isi, t_isis, t_iso, t_fld, t_mcl, t_new, t_blt, t_tlt, t_mth, t_call, t_how, t_lc, x_l0, x_l1, x_l2, x_av1, x_av2, x_ov1, x_ov2, x_at1, x_at2, x_ot1, x_ot2, x_p0, x_p1, x_o0, x_o1, x_seq, x_rng1, x_rng2, x_zip, sizeLine_eq, iL_len, setAll, setTg, wipeD, initS, ↓to_lb, ↓to_evl, ↓to_itl, lb_val, lb_exc, lb_none, itl_t, itl_f, evl_val, evl_none, evl_lb, isTy, E, E1, E2, NI]; try simp only [of_lb, of_evl, of_itl])
      | non => (simp -implicitDefEqProofs [x_nil, x_cons, x_expr, x_doc, x_pas, x_cont, x_brk, x_ret, x_retN, x_ite, x_set, x_asg, x_sub, x_for, x_raise, x_sfld, x_nev, x_while, x_var, x_int, x_str, x_bl, x_non, x_con, x_tup, x_lst, x_bin, x_neg, x_notv, x_nott, x_andv, x_andt, x_orv, x_ort, x_cmpv, x_cmpt, x_chnv, x_chnt, x_ife, x_ix, x_sl, x_isi, x_isis, x_iso, x_tyiv, x_tyit, x_fld, x_mcl, x_new, x_blt, x_tlt, x_mth, x_call, x_how, x_dl, x_rp, x_lc, t_var, t_int, t_str, t_bl, t_non, t_con, t_tup, t_lst, t_bin, t_neg, t_ix, t_sl, t_isi, t_isis, t_iso, t_fld, t_mcl, t_new, t_blt, t_tlt, t_mth, t_call, t_how, t_lc, x_l0, x_l1, x_l2, x_av1, x_av2, x_ov1, x_ov2, x_at1, x_at2, x_ot1, x_ot2, x_p0, x_p1, x_o0, x_o1, x_seq, x_rng1, x_rng2, x_zip, sizeLine_eq, iL_len, setAll, setTg, wipeD, initS, ↓to_lb, ↓to_evl, ↓to_itl, lb_val, lb_exc, lb_none, itl_t, itl_f, evl_val, evl_none, evl_lb, isTy, E]; try simp only [of_lb, of_evl, of_itl])
      | bl _ => (simp -implicitDefEqProofs [x_nil, x_cons, x_expr, x_doc, x_pas, x_cont, x_brk, x_ret, x_retN, x_ite, x_set, x_asg, x_sub, x_for, x_raise, x_sfld, x_nev, x_while, x_var, x_int, x_str, x_bl, x_non, x_con, x_tup, x_lst, x_bin, x_neg, x_notv, x_nott, x_andv, x_andt, x_orv, x_ort, x_cmpv, x_cmpt, x_chnv, x_chnt, x_ife, x_ix, x_sl, x_isi, x_isis, x_iso, x_tyiv, x_tyit, x_fld, x_mcl, x_new, x_blt, x_tlt, x_mth, x_call, x_how, x_dl, x_rp, x_lc, t_var, t_int, t_str, t_bl, t_non, t_con, t_tup, t_lst, t_bin, t_neg, t_ix, t_sl, t_isi, t_isis, t_iso, t_fld, t_mcl, t_new, t_blt, t_tlt, t_mth, t_call, t_how, t_lc, x_l0, x_l1, x_l2, x_av1, x_av2, x_ov1, x_ov2, x_at1, x_at2, x_ot1, x_ot2, x_p0, x_p1, x_o0, x_o1, x_seq, x_rng1, x_rng2, x_zip, sizeLine_eq, iL_len, setAll, setTg, wipeD, initS, ↓to_lb, ↓to_evl, ↓to_itl, lb_val, lb_exc, lb_none, itl_t, itl_f, evl_val, evl_none, evl_lb, isTy, E]; try simp only [of_lb, of_evl, of_itl])
      | int _ => (simp -implicitDefEqProofs [x_nil, x_cons, x_expr, x_doc, x_pas, x_cont, x_brk, x_ret, x_retN, x_ite, x_set, x_asg, x_sub, x_for, x_raise, x_sfld, x_nev, x_while, x_var, x_int, x_str, x_bl, x_non, x_con, x_tup, x_lst, x_bin, x_neg, x_notv, x_nott, x_andv, x_andt, x_orv, x_ort, x_cmpv, x_cmpt, x_chnv, x_chnt, x_ife, x_ix, x_sl, x_isi, x_isis, x_iso, x_tyiv, x_tyit, x_fld, x_mcl, x_new, x_blt, x_tlt, x_mth, x_call, x_how, x_dl, x_rp, x_lc, t_var, t_int, t_str, t_bl, t_non, t_con, t_tup, t_lst, t_bin, t_neg, t_ix, t_sl, t_isi, t_isis, t_iso, t_fld, t_mcl, t_new, t_blt, t_tlt, t_mth, t_call, t_how, t_lc, x_l0, x_l1, x_l2, x_av1, x_av2, x_ov1, x_ov2, x_at1, x_at2, x_ot1, x_ot2, x_p0, x_p1, x_o0, x_o1, x_seq, x_rng1, x_rng2, x_zip, sizeLine_eq, iL_len, setAll, setTg, wipeD, initS, ↓to_lb, ↓to_evl, ↓to_itl, lb_val, lb_exc, lb_none, itl_t, itl_f, evl_val, evl_none, evl_lb, isTy, E]; try simp only [of_lb, of_evl, of_itl])
      | tup _ => (simp -implicitDefEqProofs [x_nil, x_cons, x_expr, x_doc, x_pas, x_cont, x_brk, x_ret, x_retN, x_ite, x_set, x_asg, x_sub, x_for, x_raise, x_sfld, x_nev, x_while, x_var, x_int, x_str, x_bl, x_non, x_con, x_tup, x_lst, x_bin, x_neg, x_notv, x_nott, x_andv, x_andt, x_orv, x_ort, x_cmpv, x_cmpt, x_chnv, x_chnt, x_ife, x_ix, x_sl, x_isi, x_isis, x_iso, x_tyiv, x_tyit, x_fld, x_mcl, x_new, x_blt, x_tlt, x_mth, x_call, x_how, x_dl, x_rp, x_lc, t_var, t_int, t_str, t_bl, t_non, t_con, t_tup, t_lst, t_bin, t_neg, t_ix, t_sl, t_isi, t_isis, t_iso, t_fld, t_mcl, t_new, t_blt, t_tlt, t_mth, t_call, t_how, t_lc, x_l0, x_l1, x_l2, x_av1, x_av2, x_ov1, x_ov2, x_at1, x_at2, x_ot1, x_ot2, x_p0, x_p1, x_o0, x_o1, x_seq, x_rng1, x_rng2, x_zip, sizeLine_eq, iL_len, setAll, setTg, wipeD, initS, ↓to_lb, ↓to_evl, ↓to_itl, lb_val, lb_exc, lb_none, itl_t, itl_f, evl_val, evl_none, evl_lb, isTy, E]; try simp only [of_lb, of_evl, of_itl])
      | lst _ => (simp -implicitDefEqProofs [x_nil, x_cons, x_expr, x_doc, x_pas, x_cont, x_brk, x_ret, x_retN, x_ite, x_set, x_asg, x_sub, x_for, x_raise, x_sfld, x_nev, x_while, x_var, x_int, x_str, x_bl, x_non, x_con, x_tup, x_lst, x_bin, x_neg, x_notv, x_nott, x_andv, x_andt, x_orv, x_ort, x_cmpv, x_cmpt, x_chnv, x_chnt, x_ife, x_ix, x_sl, x_isi, x_isis, x_iso, x_tyiv, x_tyit, x_fld, x_mcl, x_new, x_blt, x_tlt, x_mth, x_call, x_how, x_dl, x_rp, x_lc, t_var, t_int, t_str, t_bl, t_non, t_con, t_tup, t_lst, t_bin, t_neg, t_ix, t_sl, t_isi, t_isis, t_iso, t_fld, t_mcl, t_new, t_blt, t_tlt, t_mth, t_call, t_how, t_lc, x_l0, x_l1, x_l2, x_av1, x_av2, x_ov1, x_ov2, x_at1, x_at2, x_ot1, x_ot2, x_p0, x_p1, x_o0, x_o1, x_seq, x_rng1, x_rng2, x_zip, sizeLine_eq, iL_len, setAll, setTg, wipeD, initS, ↓to_lb, ↓to_evl, ↓to_itl, lb_val, lb_exc, lb_none, itl_t, itl_f, evl_val, evl_none, evl_lb, isTy, E]; try simp only [of_lb, of_evl, of_itl])
      | _ => cases k <;> simp [kd] at hx
  | non => (simp -implicitDefEqProofs [x_nil, x_cons, x_expr, x_doc, x_pas, x_cont, x_brk, x_ret, x_retN, x_ite, x_set, x_asg, x_sub, x_for, x_raise, x_sfld, x_nev, x_while, x_var, x_int, x_str, x_bl, x_non, x_con, x_tup, x_lst, x_bin, x_neg, x_notv, x_nott, x_andv, x_andt, x_orv, x_ort, x_cmpv, x_cmpt, x_chnv, x_chnt, x_ife, x_ix, x_sl, x_isi, x_isis, x_iso, x_tyiv, x_tyit, x_fld, x_mcl, x_new, x_blt, x_tlt, x_mth, x_call, x_how, x_dl, x_rp, x_lc, t_var, t_int, t_str, t_bl, t_non, t_con, t_tup, t_lst, t_bin, t_neg, t_ix, t_sl, t_isi, t_isis, t_iso, t_fld, t_mcl, t_new, t_blt, t_tlt, t_mth, t_call, t_how, t_lc, x_l0, x_l1, x_l2, x_av1, x_av2, x_ov1, x_ov2, x_at1, x_at2, x_ot1, x_ot2, x_p0, x_p1, x_o0, x_o1, x_seq, x_rng1, x_rng2, x_zip, sizeLine_eq, iL_len, setAll, setTg, wipeD, initS, ↓to_lb, ↓to_evl, ↓to_itl, lb_val, lb_exc, lb_none, itl_t, itl_f, evl_val, evl_none, evl_lb, isTy]; try simp only [of_lb, of_evl, of_itl])
  | bl _ => (simp -implicitDefEqProofs [x_nil, x_cons, x_expr, x_doc, x_pas, x_cont, x_brk, x_ret, x_retN, x_ite, x_set, x_asg, x_sub, x_for, x_raise, x_sfld, x_nev, x_while, x_var, x_int, x_str, x_bl, x_non, x_con, x_tup, x_lst, x_bin, x_neg, x_notv, x_nott, x_andv, x_andt, x_orv, x_ort, x_cmpv, x_cmpt, x_chnv, x_chnt, x_ife, x_ix, x_sl, x_isi, x_isis, x_iso, x_tyiv, x_tyit, x_fld, x_mcl, x_new, x_blt, x_tlt, x_mth, x_call, x_how, x_dl, x_rp, x_lc, t_var, t_int, t_str, t_bl, t_non, t_con, t_tup, t_lst, t_bin, t_neg, t_ix, t_sl, t_isi, t_isis, t_iso, t_fld, t_mcl, t_new, t_blt, t_tlt, t_mth, t_call, t_how, t_lc, x_l0, x_l1, x_l2, x_av1, x_av2, x_ov1, x_ov2, x_at1, x_at2, x_ot1, x_ot2, x_p0, x_p1, x_o0, x_o1, x_seq, x_rng1, x_rng2, x_zip, sizeLine_eq, iL_len, setAll, setTg, wipeD, initS, ↓to_lb, ↓to_evl, ↓to_itl, lb_val, lb_exc, lb_none, itl_t, itl_f, evl_val, evl_none, evl_lb, isTy]; try simp only [of_lb, of_evl, of_itl])
  | int _ => (simp -implicitDefEqProofs [x_nil, x_cons, x_expr, x_doc, x_pas, x_cont, x_brk, x_ret, x_retN, x_ite, x_set, x_asg, x_sub, x_for, x_raise, x_sfld, x_nev, x_while, x_var, x_int, x_str, x_bl, x_non, x_con, x_tup, x_lst, x_bin, x_neg, x_notv, x_nott, x_andv, x_andt, x_orv, x_ort, x_cmpv, x_cmpt, x_chnv, x_chnt, x_ife, x_ix, x_sl, x_isi, x_isis, x_iso, x_tyiv, x_tyit, x_fld, x_mcl, x_new, x_blt, x_tlt, x_mth, x_call, x_how, x_dl, x_rp, x_lc, t_var, t_int, t_str, t_bl, t_non, t_con, t_tup, t_lst, t_bin, t_neg, t_ix, t_sl, t_isi, t_isis, t_iso, t_fld, t_mcl, t_new, t_blt, t_tlt, t_mth, t_call, t_how, t_lc, x_l0, x_l1, x_l2, x_av1, x_av2, x_ov1, x_ov2, x_at1, x_at2, x_ot1, x_ot2, x_p0, x_p1, x_o0, x_o1, x_seq, x_rng1, x_rng2, x_zip, sizeLine_eq, iL_len, setAll, setTg, wipeD, initS, ↓to_lb, ↓to_evl, ↓to_itl, lb_val, lb_exc, lb_none, itl_t, itl_f, evl_val, evl_none, evl_lb, isTy]; try simp only [of_lb, of_evl, of_itl])
  | str _ => (simp -implicitDefEqProofs [x_nil, x_cons, x_expr, x_doc, x_pas, x_cont, x_brk, x_ret, x_retN, x_ite, x_set, x_asg, x_sub, x_for, x_raise, x_sfld, x_nev, x_while, x_var, x_int, x_str, x_bl, x_non, x_con, x_tup, x_lst, x_bin, x_neg, x_notv, x_nott, x_andv, x_andt, x_orv, x_ort, x_cmpv, x_cmpt, x_chnv, x_chnt, x_ife, x_ix, x_sl, x_isi, x_isis, x_iso, x_tyiv, x_tyit, x_fld, x_mcl, x_new, x_blt, x_tlt, x_mth, x_call, x_how, x_dl, x_rp, x_lc, t_var, t_int, t_str, t_bl, t_non, t_con, t_tup, t_lst, t_bin, t_neg, t_ix, t_sl, t_isi, t_isis, t_iso, t_fld, t_mcl, t_new, t_blt, t_tlt, t_mth, t_call, t_how, t_lc, x_l0, x_l1, x_l2, x_av1, x_av2, x_ov1, x_ov2, x_at1, x_at2, x_ot1, x_ot2, x_p0, x_p1, x_o0, x_o1, x_seq, x_rng1, x_rng2, x_zip, sizeLine_eq, iL_len, setAll, setTg, wipeD, initS, ↓to_lb, ↓to_evl, ↓to_itl, lb_val, lb_exc, lb_none, itl_t, itl_f, evl_val, evl_none, evl_lb, isTy]; try simp only [of_lb, of_evl, of_itl])
  | lst _ => (simp -implicitDefEqProofs [x_nil, x_cons, x_expr, x_doc, x_pas, x_cont, x_brk, x_ret, x_retN, x_ite, x_set, x_asg, x_sub, x_for, x_raise, x_sfld, x_nev, x_while, x_var, x_int, x_str, x_bl, x_non, x_con, x_tup, x_lst, x_bin, x_neg, x_notv, x_nott, x_andv, x_andt, x_orv, x_ort, x_cmpv, x_cmpt, x_chnv, x_chnt, x_ife, x_ix, x_sl, x_isi, x_isis, x_iso, x_tyiv, x_tyit, x_fld, x_mcl, x_new, x_blt, x_tlt, x_mth, x_call, x_how, x_dl, x_rp, x_lc, t_var, t_int, t_str, t_bl, t_non, t_con, t_tup, t_lst, t_bin, t_neg, t_ix, t_sl, t_isi, t_isis, t_iso, t_fld, t_mcl, t_new, t_blt, t_tlt, t_mth, t_call, t_how, t_lc, x_l0, x_l1, x_l2, x_av1, x_av2, x_ov1, x_ov2, x_at1, x_at2, x_ot1, x_ot2, x_p0, x_p1, x_o0, x_o1, x_seq, x_rng1, x_rng2, x_zip, sizeLine_eq, iL_len, setAll, setTg, wipeD, initS, ↓to_lb, ↓to_evl, ↓to_itl, lb_val, lb_exc, lb_none, itl_t, itl_f, evl_val, evl_none, evl_lb, isTy]; try simp only [of_lb, of_evl, of_itl])
  | _ => cases m <;> simp [kd] at h
theorem law_shows_ {un : List (List Int)} {goal : List Int} (g0 : goal ≠ []) (gL : goal.length ≤ 1000) (gb : BndF 300 goal) (hu : ∀ u ∈ un, u.length = goal.length ∧ BndF 200 u) : ∀ (left : Nat) (hs : List (List Int)) (m : Nat) (d : D), kd m d = true → m ≤ 50 → (∀ h ∈ hs, h.length = goal.length ∧ BndF 300 h) → hs.length + left ≤ 9000 →
    SM (n + left + 4) i__law_shows [d, .lst (hD hs), .lst (hD un), .tup (iL goal), .int left] cs = some (.val (.bl (showsD un goal left hs d)), cs) := by
  have leafs : ∀ (L : Nat) (left : Nat) (hs : List (List Int)) (c : Pc), (∀ h ∈ hs, h.length = goal.length ∧ BndF 300 h) → c.Ok L → L ≤ 50 → (match c with
      | .sum k ws => SM (n + left + 4) i__law_shows [c.enc, .lst (hD hs), .lst (hD un), .tup (iL goal), .int left] cs = some (.val (.bl (sumM k ws hs goal)), cs)
      | .nev ws => SM (n + left + 4) i__law_shows [c.enc, .lst (hD hs), .lst (hD un), .tup (iL goal), .int left] cs = some (.val (.bl (nevM ws hs goal)), cs)
      | _ => True) := by
    intro L left hs c hh ok hL
    cases c with
    | sum k ws =>
      obtain ⟨k1, k2, w1, w2⟩ := ok
      dsimp only
      rw [show n + left + 4 = (n + left + 3) + 1 by omega, e__law_shows, b__law_shows]
      have S := law_sum_ (n + left + 2) cs (k := k) (ws := ws) g0 gL gb hh (fun w hw => (w2 w hw).2) k2
      have N := eq_nilT cs (n := 2) (ds := [D.str "sum", D.int k, D.lst (iL ws)]) (fun d hd => by
        simp only [List.mem_cons, List.not_mem_nil, or_false] at hd
        rcases hd with rfl | rfl | rfl
        · simp [kd, ok_words]
        · simpa [kd] using k2
        · exact kd_mkL (by rw [iL_len]; exact w1) (kd_iL fun w hw => (w2 w hw).2)) (by omega)
      have F : SM (n + left + 3) i__law_is_form [.tup [.int k]] cs = _ := law_is_form_T (n + left + 2) cs (m := 1) (ds := [.int k]) (by simp) (by simpa [kd] using k2) (by omega)
      have Fe : isF (.tup [.int k]) = true := rfl
      rw [Fe] at F
      have W : SM (n + left + 3) i__law_is_weights [.lst (iL ws)] cs = _ := law_is_weights_D (n + left + 1) cs (m := 2) (kd_mkL (by rw [iL_len]; exact w1) (kd_iL fun w hw => (w2 w hw).2)) (by omega)
      have We : isWts (.lst (iL ws)) = true := by
        rw [wts_iL, List.isEmpty_iff, List.filter_eq_nil_iff]
        intro w hw
        have := (w2 w hw).1
        simp only [decide_eq_true_eq]
        omega
      rw [We] at W
      simp only [Pc.enc] at S ⊢
      have kp : 0 < k := by omega
      (simp -implicitDefEqProofs [x_nil, x_cons, x_expr, x_doc, x_pas, x_cont, x_brk, x_ret, x_retN, x_ite, x_set, x_asg, x_sub, x_for, x_raise, x_sfld, x_nev, x_while, x_var, x_int, x_str, x_bl, x_non, x_con, x_tup, x_lst, x_bin, x_neg, x_notv, x_nott, x_andv, x_andt, x_orv, x_ort, x_cmpv, x_cmpt, x_chnv, x_chnt, x_ife, x_ix, x_sl, x_isi, x_isis, x_iso, x_tyiv, x_tyit, x_fld, x_mcl, x_new, x_blt, x_tlt, x_mth, x_call, x_how, x_dl, x_rp, x_lc, t_var, t_int, t_str, t_bl, t_non, t_con, t_tup, t_lst, t_bin, t_neg, t_ix, t_sl, t_isi, t_isis, t_iso, t_fld, t_mcl, t_new, t_blt, t_tlt, t_mth, t_call, t_how, t_lc, x_l0, x_l1, x_l2, x_av1, x_av2, x_ov1, x_ov2, x_at1, x_at2, x_ot1, x_ot2, x_p0, x_p1, x_o0, x_o1, x_seq, x_rng1, x_rng2, x_zip, sizeLine_eq, iL_len, setAll, setTg, wipeD, initS, ↓to_lb, ↓to_evl, ↓to_itl, lb_val, lb_exc, lb_none, itl_t, itl_f, evl_val, evl_none, evl_lb, N, isTy, F, kp, W, S]; try simp only [of_lb, of_evl, of_itl])
    | nev ws =>
      obtain ⟨w1, w2⟩ := ok
      dsimp only
      rw [show n + left + 4 = (n + left + 3) + 1 by omega, e__law_shows, b__law_shows]
      have S := law_nev_ (n + left + 2) cs (ws := ws) g0 gL gb hh (fun w hw => (w2 w hw).2)
      have N := eq_nilT cs (n := 2) (ds := [D.str "never", D.lst (iL ws)]) (fun d hd => by
        simp only [List.mem_cons, List.not_mem_nil, or_false] at hd
        rcases hd with rfl | rfl
        · simp [kd, ok_words]
        · exact kd_mkL (by rw [iL_len]; exact w1) (kd_iL fun w hw => (w2 w hw).2)) (by omega)
      have W : SM (n + left + 3) i__law_is_weights [.lst (iL ws)] cs = _ := law_is_weights_D (n + left + 1) cs (m := 2) (kd_mkL (by rw [iL_len]; exact w1) (kd_iL fun w hw => (w2 w hw).2)) (by omega)
      have We : isWts (.lst (iL ws)) = true := by
        rw [wts_iL, List.isEmpty_iff, List.filter_eq_nil_iff]
        intro w hw
        have := (w2 w hw).1
        simp only [decide_eq_true_eq]
        omega
      rw [We] at W
      simp only [Pc.enc] at S ⊢
      (simp -implicitDefEqProofs [x_nil, x_cons, x_expr, x_doc, x_pas, x_cont, x_brk, x_ret, x_retN, x_ite, x_set, x_asg, x_sub, x_for, x_raise, x_sfld, x_nev, x_while, x_var, x_int, x_str, x_bl, x_non, x_con, x_tup, x_lst, x_bin, x_neg, x_notv, x_nott, x_andv, x_andt, x_orv, x_ort, x_cmpv, x_cmpt, x_chnv, x_chnt, x_ife, x_ix, x_sl, x_isi, x_isis, x_iso, x_tyiv, x_tyit, x_fld, x_mcl, x_new, x_blt, x_tlt, x_mth, x_call, x_how, x_dl, x_rp, x_lc, t_var, t_int, t_str, t_bl, t_non, t_con, t_tup, t_lst, t_bin, t_neg, t_ix, t_sl, t_isi, t_isis, t_iso, t_fld, t_mcl, t_new, t_blt, t_tlt, t_mth, t_call, t_how, t_lc, x_l0, x_l1, x_l2, x_av1, x_av2, x_ov1, x_ov2, x_at1, x_at2, x_ot1, x_ot2, x_p0, x_p1, x_o0, x_o1, x_seq, x_rng1, x_rng2, x_zip, sizeLine_eq, iL_len, setAll, setTg, wipeD, initS, ↓to_lb, ↓to_evl, ↓to_itl, lb_val, lb_exc, lb_none, itl_t, itl_f, evl_val, evl_none, evl_lb, N, isTy, W, S]; try simp only [of_lb, of_evl, of_itl])
    | spl f a b => trivial
    | apt i a b => trivial
  intro left
  induction left with
  | zero =>
    intro hs m d hd hm hh hl
    cases e : papD d with
    | none =>
      rw [showsD_none e]
      exact law_shows_none n cs hd hm e _ _ 0
    | some c =>
      obtain ⟨rfl, m', rfl, ok⟩ := papD_ok hd e
      have Lf := leafs m' 0 hs c hh ok (by omega)
      cases c with
      | sum k ws =>
        have V : showsD un goal 0 hs (Pc.enc (.sum k ws)) = sumM k ws hs goal := by simp only [showsD, e]
        rw [V]
        exact Lf
      | nev ws =>
        have V : showsD un goal 0 hs (Pc.enc (.nev ws)) = nevM ws hs goal := by simp only [showsD, e]
        rw [V]
        exact Lf
      | spl f a b =>
        have V : showsD un goal 0 hs (Pc.enc (.spl f a b)) = false := by simp only [showsD, e]
        obtain ⟨k, ek, _, h2⟩ := kd_tup hd
        cases ek
        have N := eq_nilT cs h2 (by omega)
        rw [V, e__law_shows, b__law_shows]
        simp only [Pc.enc] at N ⊢
        (simp -implicitDefEqProofs [x_nil, x_cons, x_expr, x_doc, x_pas, x_cont, x_brk, x_ret, x_retN, x_ite, x_set, x_asg, x_sub, x_for, x_raise, x_sfld, x_nev, x_while, x_var, x_int, x_str, x_bl, x_non, x_con, x_tup, x_lst, x_bin, x_neg, x_notv, x_nott, x_andv, x_andt, x_orv, x_ort, x_cmpv, x_cmpt, x_chnv, x_chnt, x_ife, x_ix, x_sl, x_isi, x_isis, x_iso, x_tyiv, x_tyit, x_fld, x_mcl, x_new, x_blt, x_tlt, x_mth, x_call, x_how, x_dl, x_rp, x_lc, t_var, t_int, t_str, t_bl, t_non, t_con, t_tup, t_lst, t_bin, t_neg, t_ix, t_sl, t_isi, t_isis, t_iso, t_fld, t_mcl, t_new, t_blt, t_tlt, t_mth, t_call, t_how, t_lc, x_l0, x_l1, x_l2, x_av1, x_av2, x_ov1, x_ov2, x_at1, x_at2, x_ot1, x_ot2, x_p0, x_p1, x_o0, x_o1, x_seq, x_rng1, x_rng2, x_zip, sizeLine_eq, iL_len, setAll, setTg, wipeD, initS, ↓to_lb, ↓to_evl, ↓to_itl, lb_val, lb_exc, lb_none, itl_t, itl_f, evl_val, evl_none, evl_lb, N, isTy, nin_split]; try simp only [of_lb, of_evl, of_itl])
      | apt i a b =>
        have V : showsD un goal 0 hs (Pc.enc (.apt i a b)) = false := by simp only [showsD, e]
        obtain ⟨k, ek, _, h2⟩ := kd_tup hd
        cases ek
        have N := eq_nilT cs h2 (by omega)
        rw [V, e__law_shows, b__law_shows]
        simp only [Pc.enc] at N ⊢
        (simp -implicitDefEqProofs [x_nil, x_cons, x_expr, x_doc, x_pas, x_cont, x_brk, x_ret, x_retN, x_ite, x_set, x_asg, x_sub, x_for, x_raise, x_sfld, x_nev, x_while, x_var, x_int, x_str, x_bl, x_non, x_con, x_tup, x_lst, x_bin, x_neg, x_notv, x_nott, x_andv, x_andt, x_orv, x_ort, x_cmpv, x_cmpt, x_chnv, x_chnt, x_ife, x_ix, x_sl, x_isi, x_isis, x_iso, x_tyiv, x_tyit, x_fld, x_mcl, x_new, x_blt, x_tlt, x_mth, x_call, x_how, x_dl, x_rp, x_lc, t_var, t_int, t_str, t_bl, t_non, t_con, t_tup, t_lst, t_bin, t_neg, t_ix, t_sl, t_isi, t_isis, t_iso, t_fld, t_mcl, t_new, t_blt, t_tlt, t_mth, t_call, t_how, t_lc, x_l0, x_l1, x_l2, x_av1, x_av2, x_ov1, x_ov2, x_at1, x_at2, x_ot1, x_ot2, x_p0, x_p1, x_o0, x_o1, x_seq, x_rng1, x_rng2, x_zip, sizeLine_eq, iL_len, setAll, setTg, wipeD, initS, ↓to_lb, ↓to_evl, ↓to_itl, lb_val, lb_exc, lb_none, itl_t, itl_f, evl_val, evl_none, evl_lb, N, isTy, nin_apart]; try simp only [of_lb, of_evl, of_itl])
  | succ l ih =>
    intro hs m d hd hm hh hl
    have e1 : ¬ ((l : Int) + 1 = 0) := by omega
    have e2 : ((l + 1 : Nat) : Int) - 1 = (l : Int) := by omega
    cases e : papD d with
    | none =>
      rw [showsD_none e]
      have := law_shows_none (n + l + 1) cs hd hm e (.lst (hD hs)) (.tup (iL goal)) (un := un) (l + 1)
      exact this
    | some c =>
      obtain ⟨rfl, m', rfl, ok⟩ := papD_ok hd e
      have Lf := leafs m' (l + 1) hs c hh ok (by omega)
      cases c with
      | sum k ws =>
        have V : showsD un goal (l + 1) hs (Pc.enc (.sum k ws)) = sumM k ws hs goal := by simp only [showsD, e]
        rw [V]
        exact Lf
      | nev ws =>
        have V : showsD un goal (l + 1) hs (Pc.enc (.nev ws)) = nevM ws hs goal := by simp only [showsD, e]
        rw [V]
        exact Lf
      | spl f a b =>
        obtain ⟨f0, f1, f2, ka, kb⟩ := ok
        have V : showsD un goal (l + 1) hs (Pc.enc (.spl f a b)) = (decide (f.length = goal.length) && (showsD un goal l (hs ++ [f]) a && showsD un goal l (hs ++ [conF f]) b)) := by simp only [showsD, e]
        obtain ⟨k, ek, _, h2⟩ := kd_tup hd
        cases ek
        have N := eq_nilT cs h2 (by omega)
        have F : SM (n + l + 4) i__law_is_form [.tup (iL f)] cs = _ := law_is_form_T (n + l + 3) cs (m := 1) (ds := iL f) (by rw [iL_len]; omega) (kd_iL f2) (by omega)
        rw [isF_iL f0] at F
        rw [V, show n + (l + 1) + 4 = (n + l + 4) + 1 by omega, e__law_shows, b__law_shows]
        simp only [Pc.enc] at N ⊢
        by_cases c : f.length = goal.length
        · cases f with
          | nil => exact absurd rfl f0
          | cons x r =>
            have A := ih (hs ++ [x :: r]) m' a ka (by omega) (all_app hh ⟨c, f2.mono (by decide)⟩) (by simp; omega)
            have B := ih (hs ++ [conF (x :: r)]) m' b kb (by omega) (all_app hh ⟨by rw [conF_len, c], f2.con.mono (by decide)⟩) (by simp; omega)
            have b1 := binD_lst cs (hD hs) [D.tup (iL (x :: r))] (by simp [hD, sizeLine]; omega)
            have b2 := binD_lst cs (hD hs) [D.tup (iL (conF (x :: r)))] (by simp [hD, sizeLine]; omega)
            rw [hD_app] at b1 b2
            have c3 : r.length + 1 = goal.length := c
            have bt := binD_tup false cs [D.int (-x - 1)] (r.map fun i => D.int (-i)) (by simp [sizeLine]; omega)
            have bt2 : [D.int (-x - 1)] ++ r.map (fun i => D.int (-i)) = iL (conF (x :: r)) := contra_d x r
            rw [bt2] at bt
            (simp -implicitDefEqProofs [x_nil, x_cons, x_expr, x_doc, x_pas, x_cont, x_brk, x_ret, x_retN, x_ite, x_set, x_asg, x_sub, x_for, x_raise, x_sfld, x_nev, x_while, x_var, x_int, x_str, x_bl, x_non, x_con, x_tup, x_lst, x_bin, x_neg, x_notv, x_nott, x_andv, x_andt, x_orv, x_ort, x_cmpv, x_cmpt, x_chnv, x_chnt, x_ife, x_ix, x_sl, x_isi, x_isis, x_iso, x_tyiv, x_tyit, x_fld, x_mcl, x_new, x_blt, x_tlt, x_mth, x_call, x_how, x_dl, x_rp, x_lc, t_var, t_int, t_str, t_bl, t_non, t_con, t_tup, t_lst, t_bin, t_neg, t_ix, t_sl, t_isi, t_isis, t_iso, t_fld, t_mcl, t_new, t_blt, t_tlt, t_mth, t_call, t_how, t_lc, x_l0, x_l1, x_l2, x_av1, x_av2, x_ov1, x_ov2, x_at1, x_at2, x_ot1, x_ot2, x_p0, x_p1, x_o0, x_o1, x_seq, x_rng1, x_rng2, x_zip, sizeLine_eq, iL_len, setAll, setTg, wipeD, initS, ↓to_lb, ↓to_evl, ↓to_itl, lb_val, lb_exc, lb_none, itl_t, itl_f, evl_val, evl_none, evl_lb, N, isTy, nin_split, e1, F, c3]; try simp only [of_lb, of_evl, of_itl])
            rw [contra_ (r := r) cs (by omega) (by (simp -implicitDefEqProofs [x_nil, x_cons, x_expr, x_doc, x_pas, x_cont, x_brk, x_ret, x_retN, x_ite, x_set, x_asg, x_sub, x_for, x_raise, x_sfld, x_nev, x_while, x_var, x_int, x_str, x_bl, x_non, x_con, x_tup, x_lst, x_bin, x_neg, x_notv, x_nott, x_andv, x_andt, x_orv, x_ort, x_cmpv, x_cmpt, x_chnv, x_chnt, x_ife, x_ix, x_sl, x_isi, x_isis, x_iso, x_tyiv, x_tyit, x_fld, x_mcl, x_new, x_blt, x_tlt, x_mth, x_call, x_how, x_dl, x_rp, x_lc, t_var, t_int, t_str, t_bl, t_non, t_con, t_tup, t_lst, t_bin, t_neg, t_ix, t_sl, t_isi, t_isis, t_iso, t_fld, t_mcl, t_new, t_blt, t_tlt, t_mth, t_call, t_how, t_lc, x_l0, x_l1, x_l2, x_av1, x_av2, x_ov1, x_ov2, x_at1, x_at2, x_ot1, x_ot2, x_p0, x_p1, x_o0, x_o1, x_seq, x_rng1, x_rng2, x_zip, sizeLine_eq, iL_len, setAll, setTg, wipeD, initS, ↓to_lb, ↓to_evl, ↓to_itl, lb_val, lb_exc, lb_none, itl_t, itl_f, evl_val, evl_none, evl_lb]; try simp only [of_lb, of_evl, of_itl])) (fun y => by (simp -implicitDefEqProofs [x_nil, x_cons, x_expr, x_doc, x_pas, x_cont, x_brk, x_ret, x_retN, x_ite, x_set, x_asg, x_sub, x_for, x_raise, x_sfld, x_nev, x_while, x_var, x_int, x_str, x_bl, x_non, x_con, x_tup, x_lst, x_bin, x_neg, x_notv, x_nott, x_andv, x_andt, x_orv, x_ort, x_cmpv, x_cmpt, x_chnv, x_chnt, x_ife, x_ix, x_sl, x_isi, x_isis, x_iso, x_tyiv, x_tyit, x_fld, x_mcl, x_new, x_blt, x_tlt, x_mth, x_call, x_how, x_dl, x_rp, x_lc, t_var, t_int, t_str, t_bl, t_non, t_con, t_tup, t_lst, t_bin, t_neg, t_ix, t_sl, t_isi, t_isis, t_iso, t_fld, t_mcl, t_new, t_blt, t_tlt, t_mth, t_call, t_how, t_lc, x_l0, x_l1, x_l2, x_av1, x_av2, x_ov1, x_ov2, x_at1, x_at2, x_ot1, x_ot2, x_p0, x_p1, x_o0, x_o1, x_seq, x_rng1, x_rng2, x_zip, sizeLine_eq, iL_len, setAll, setTg, wipeD, initS, ↓to_lb, ↓to_evl, ↓to_itl, lb_val, lb_exc, lb_none, itl_t, itl_f, evl_val, evl_none, evl_lb]; try simp only [of_lb, of_evl, of_itl]))]
            (simp -implicitDefEqProofs [x_nil, x_cons, x_expr, x_doc, x_pas, x_cont, x_brk, x_ret, x_retN, x_ite, x_set, x_asg, x_sub, x_for, x_raise, x_sfld, x_nev, x_while, x_var, x_int, x_str, x_bl, x_non, x_con, x_tup, x_lst, x_bin, x_neg, x_notv, x_nott, x_andv, x_andt, x_orv, x_ort, x_cmpv, x_cmpt, x_chnv, x_chnt, x_ife, x_ix, x_sl, x_isi, x_isis, x_iso, x_tyiv, x_tyit, x_fld, x_mcl, x_new, x_blt, x_tlt, x_mth, x_call, x_how, x_dl, x_rp, x_lc, t_var, t_int, t_str, t_bl, t_non, t_con, t_tup, t_lst, t_bin, t_neg, t_ix, t_sl, t_isi, t_isis, t_iso, t_fld, t_mcl, t_new, t_blt, t_tlt, t_mth, t_call, t_how, t_lc, x_l0, x_l1, x_l2, x_av1, x_av2, x_ov1, x_ov2, x_at1, x_at2, x_ot1, x_ot2, x_p0, x_p1, x_o0, x_o1, x_seq, x_rng1, x_rng2, x_zip, sizeLine_eq, iL_len, setAll, setTg, wipeD, initS, ↓to_lb, ↓to_evl, ↓to_itl, lb_val, lb_exc, lb_none, itl_t, itl_f, evl_val, evl_none, evl_lb, bt, b1, b2, e2, A, B, c3]; try simp only [of_lb, of_evl, of_itl])
            cases showsD un goal l (hs ++ [x :: r]) a
            · (simp -implicitDefEqProofs [x_nil, x_cons, x_expr, x_doc, x_pas, x_cont, x_brk, x_ret, x_retN, x_ite, x_set, x_asg, x_sub, x_for, x_raise, x_sfld, x_nev, x_while, x_var, x_int, x_str, x_bl, x_non, x_con, x_tup, x_lst, x_bin, x_neg, x_notv, x_nott, x_andv, x_andt, x_orv, x_ort, x_cmpv, x_cmpt, x_chnv, x_chnt, x_ife, x_ix, x_sl, x_isi, x_isis, x_iso, x_tyiv, x_tyit, x_fld, x_mcl, x_new, x_blt, x_tlt, x_mth, x_call, x_how, x_dl, x_rp, x_lc, t_var, t_int, t_str, t_bl, t_non, t_con, t_tup, t_lst, t_bin, t_neg, t_ix, t_sl, t_isi, t_isis, t_iso, t_fld, t_mcl, t_new, t_blt, t_tlt, t_mth, t_call, t_how, t_lc, x_l0, x_l1, x_l2, x_av1, x_av2, x_ov1, x_ov2, x_at1, x_at2, x_ot1, x_ot2, x_p0, x_p1, x_o0, x_o1, x_seq, x_rng1, x_rng2, x_zip, sizeLine_eq, iL_len, setAll, setTg, wipeD, initS, ↓to_lb, ↓to_evl, ↓to_itl, lb_val, lb_exc, lb_none, itl_t, itl_f, evl_val, evl_none, evl_lb]; try simp only [of_lb, of_evl, of_itl])
            · (simp -implicitDefEqProofs [x_nil, x_cons, x_expr, x_doc, x_pas, x_cont, x_brk, x_ret, x_retN, x_ite, x_set, x_asg, x_sub, x_for, x_raise, x_sfld, x_nev, x_while, x_var, x_int, x_str, x_bl, x_non, x_con, x_tup, x_lst, x_bin, x_neg, x_notv, x_nott, x_andv, x_andt, x_orv, x_ort, x_cmpv, x_cmpt, x_chnv, x_chnt, x_ife, x_ix, x_sl, x_isi, x_isis, x_iso, x_tyiv, x_tyit, x_fld, x_mcl, x_new, x_blt, x_tlt, x_mth, x_call, x_how, x_dl, x_rp, x_lc, t_var, t_int, t_str, t_bl, t_non, t_con, t_tup, t_lst, t_bin, t_neg, t_ix, t_sl, t_isi, t_isis, t_iso, t_fld, t_mcl, t_new, t_blt, t_tlt, t_mth, t_call, t_how, t_lc, x_l0, x_l1, x_l2, x_av1, x_av2, x_ov1, x_ov2, x_at1, x_at2, x_ot1, x_ot2, x_p0, x_p1, x_o0, x_o1, x_seq, x_rng1, x_rng2, x_zip, sizeLine_eq, iL_len, setAll, setTg, wipeD, initS, ↓to_lb, ↓to_evl, ↓to_itl, lb_val, lb_exc, lb_none, itl_t, itl_f, evl_val, evl_none, evl_lb, b2, B, e2]; try simp only [of_lb, of_evl, of_itl])
        · have c2 : ¬ ((f.length : Int) = goal.length) := by omega
          (simp -implicitDefEqProofs [x_nil, x_cons, x_expr, x_doc, x_pas, x_cont, x_brk, x_ret, x_retN, x_ite, x_set, x_asg, x_sub, x_for, x_raise, x_sfld, x_nev, x_while, x_var, x_int, x_str, x_bl, x_non, x_con, x_tup, x_lst, x_bin, x_neg, x_notv, x_nott, x_andv, x_andt, x_orv, x_ort, x_cmpv, x_cmpt, x_chnv, x_chnt, x_ife, x_ix, x_sl, x_isi, x_isis, x_iso, x_tyiv, x_tyit, x_fld, x_mcl, x_new, x_blt, x_tlt, x_mth, x_call, x_how, x_dl, x_rp, x_lc, t_var, t_int, t_str, t_bl, t_non, t_con, t_tup, t_lst, t_bin, t_neg, t_ix, t_sl, t_isi, t_isis, t_iso, t_fld, t_mcl, t_new, t_blt, t_tlt, t_mth, t_call, t_how, t_lc, x_l0, x_l1, x_l2, x_av1, x_av2, x_ov1, x_ov2, x_at1, x_at2, x_ot1, x_ot2, x_p0, x_p1, x_o0, x_o1, x_seq, x_rng1, x_rng2, x_zip, sizeLine_eq, iL_len, setAll, setTg, wipeD, initS, ↓to_lb, ↓to_evl, ↓to_itl, lb_val, lb_exc, lb_none, itl_t, itl_f, evl_val, evl_none, evl_lb, N, isTy, nin_split, e1, F, c, c2]; try simp only [of_lb, of_evl, of_itl])
      | apt i a b =>
        obtain ⟨ka, kb⟩ := ok
        obtain ⟨k, ek, _, h2⟩ := kd_tup hd
        cases ek
        have N := eq_nilT cs h2 (by omega)
        have ki : kd m' (.int i) = true := h2 _ (by simp)
        have F : SM (n + l + 4) i__law_is_form [.tup [.int i]] cs = _ := law_is_form_T (n + l + 3) cs (m := m') (ds := [.int i]) (by simp) (by simpa using ki) (by omega)
        have Fe : isF (.tup [.int (i : Int)]) = true := rfl
        rw [Fe] at F
        cases hu' : un[i]? with
        | none =>
          have c2 : ¬ ((i : Int) < (un.length : Int)) := by
            have := List.getElem?_eq_none_iff.mp hu'
            omega
          have V : showsD un goal (l + 1) hs (Pc.enc (.apt i a b)) = false := by simp only [showsD, e, hu']
          rw [V, show n + (l + 1) + 4 = (n + l + 4) + 1 by omega, e__law_shows, b__law_shows]
          simp only [Pc.enc] at N ⊢
          (simp -implicitDefEqProofs [x_nil, x_cons, x_expr, x_doc, x_pas, x_cont, x_brk, x_ret, x_retN, x_ite, x_set, x_asg, x_sub, x_for, x_raise, x_sfld, x_nev, x_while, x_var, x_int, x_str, x_bl, x_non, x_con, x_tup, x_lst, x_bin, x_neg, x_notv, x_nott, x_andv, x_andt, x_orv, x_ort, x_cmpv, x_cmpt, x_chnv, x_chnt, x_ife, x_ix, x_sl, x_isi, x_isis, x_iso, x_tyiv, x_tyit, x_fld, x_mcl, x_new, x_blt, x_tlt, x_mth, x_call, x_how, x_dl, x_rp, x_lc, t_var, t_int, t_str, t_bl, t_non, t_con, t_tup, t_lst, t_bin, t_neg, t_ix, t_sl, t_isi, t_isis, t_iso, t_fld, t_mcl, t_new, t_blt, t_tlt, t_mth, t_call, t_how, t_lc, x_l0, x_l1, x_l2, x_av1, x_av2, x_ov1, x_ov2, x_at1, x_at2, x_ot1, x_ot2, x_p0, x_p1, x_o0, x_o1, x_seq, x_rng1, x_rng2, x_zip, sizeLine_eq, iL_len, setAll, setTg, wipeD, initS, ↓to_lb, ↓to_evl, ↓to_itl, lb_val, lb_exc, lb_none, itl_t, itl_f, evl_val, evl_none, evl_lb, N, isTy, nin_apart, e1, F, chnD, hD_len, c2]; try simp only [of_lb, of_evl, of_itl])
        | some u =>
          have hmem := List.mem_of_getElem? hu'
          obtain ⟨ul, ub⟩ := hu u hmem
          cases u with
          | nil => exact absurd (List.length_eq_zero_iff.mp ul.symm) g0
          | cons x r =>
            have V : showsD un goal (l + 1) hs (Pc.enc (.apt i a b)) = (showsD un goal l (hs ++ [sideF (x :: r)]) a && showsD un goal l (hs ++ [conF (x :: r)]) b) := by simp only [showsD, e, hu']
            rw [V, show n + (l + 1) + 4 = (n + l + 4) + 1 by omega, e__law_shows, b__law_shows]
            simp only [Pc.enc] at N ⊢
            have c2 : (i : Int) < (un.length : Int) := by
              have := (List.getElem?_eq_some_iff.mp hu').1
              omega
            have at' : L2.atI (hD un) (i : Int) = some (.tup (iL (x :: r))) := at_lst _ i _ (by simp [hD, hu'])
            have c3 : r.length + 1 = goal.length := ul
            have A := ih (hs ++ [sideF (x :: r)]) m' a ka (by omega) (all_app hh ⟨by rw [sideF_len, ul], ub.side.mono (by decide)⟩) (by simp; omega)
            have B := ih (hs ++ [conF (x :: r)]) m' b kb (by omega) (all_app hh ⟨by rw [conF_len, ul], ub.con.mono (by decide)⟩) (by simp; omega)
            have b1 := binD_lst cs (hD hs) [D.tup (iL (sideF (x :: r)))] (by simp [hD, sizeLine]; omega)
            have b2 := binD_lst cs (hD hs) [D.tup (iL (conF (x :: r)))] (by simp [hD, sizeLine]; omega)
            rw [hD_app] at b1 b2
            have bt := binD_tup false cs [D.int (-x - 1)] (r.map fun i => D.int (-i)) (by simp [sizeLine]; omega)
            have bt2 : [D.int (-x - 1)] ++ r.map (fun i => D.int (-i)) = iL (conF (x :: r)) := contra_d x r
            rw [bt2] at bt
            have bs := binD_tup false cs [D.int (x - 1)] (iL r) (by rw [iL_len]; simp [sizeLine]; omega)
            have bs2 : [D.int (x - 1)] ++ iL r = iL (sideF (x :: r)) := rfl
            rw [bs2] at bs
            (simp -implicitDefEqProofs [x_nil, x_cons, x_expr, x_doc, x_pas, x_cont, x_brk, x_ret, x_retN, x_ite, x_set, x_asg, x_sub, x_for, x_raise, x_sfld, x_nev, x_while, x_var, x_int, x_str, x_bl, x_non, x_con, x_tup, x_lst, x_bin, x_neg, x_notv, x_nott, x_andv, x_andt, x_orv, x_ort, x_cmpv, x_cmpt, x_chnv, x_chnt, x_ife, x_ix, x_sl, x_isi, x_isis, x_iso, x_tyiv, x_tyit, x_fld, x_mcl, x_new, x_blt, x_tlt, x_mth, x_call, x_how, x_dl, x_rp, x_lc, t_var, t_int, t_str, t_bl, t_non, t_con, t_tup, t_lst, t_bin, t_neg, t_ix, t_sl, t_isi, t_isis, t_iso, t_fld, t_mcl, t_new, t_blt, t_tlt, t_mth, t_call, t_how, t_lc, x_l0, x_l1, x_l2, x_av1, x_av2, x_ov1, x_ov2, x_at1, x_at2, x_ot1, x_ot2, x_p0, x_p1, x_o0, x_o1, x_seq, x_rng1, x_rng2, x_zip, sizeLine_eq, iL_len, setAll, setTg, wipeD, initS, ↓to_lb, ↓to_evl, ↓to_itl, lb_val, lb_exc, lb_none, itl_t, itl_f, evl_val, evl_none, evl_lb, N, isTy, nin_apart, e1, F, chnD, hD_len, c2, at', bs]; try simp only [of_lb, of_evl, of_itl])
            rw [contra_ (r := r) cs (by omega) (by (simp -implicitDefEqProofs [x_nil, x_cons, x_expr, x_doc, x_pas, x_cont, x_brk, x_ret, x_retN, x_ite, x_set, x_asg, x_sub, x_for, x_raise, x_sfld, x_nev, x_while, x_var, x_int, x_str, x_bl, x_non, x_con, x_tup, x_lst, x_bin, x_neg, x_notv, x_nott, x_andv, x_andt, x_orv, x_ort, x_cmpv, x_cmpt, x_chnv, x_chnt, x_ife, x_ix, x_sl, x_isi, x_isis, x_iso, x_tyiv, x_tyit, x_fld, x_mcl, x_new, x_blt, x_tlt, x_mth, x_call, x_how, x_dl, x_rp, x_lc, t_var, t_int, t_str, t_bl, t_non, t_con, t_tup, t_lst, t_bin, t_neg, t_ix, t_sl, t_isi, t_isis, t_iso, t_fld, t_mcl, t_new, t_blt, t_tlt, t_mth, t_call, t_how, t_lc, x_l0, x_l1, x_l2, x_av1, x_av2, x_ov1, x_ov2, x_at1, x_at2, x_ot1, x_ot2, x_p0, x_p1, x_o0, x_o1, x_seq, x_rng1, x_rng2, x_zip, sizeLine_eq, iL_len, setAll, setTg, wipeD, initS, ↓to_lb, ↓to_evl, ↓to_itl, lb_val, lb_exc, lb_none, itl_t, itl_f, evl_val, evl_none, evl_lb]; try simp only [of_lb, of_evl, of_itl])) (fun y => by (simp -implicitDefEqProofs [x_nil, x_cons, x_expr, x_doc, x_pas, x_cont, x_brk, x_ret, x_retN, x_ite, x_set, x_asg, x_sub, x_for, x_raise, x_sfld, x_nev, x_while, x_var, x_int, x_str, x_bl, x_non, x_con, x_tup, x_lst, x_bin, x_neg, x_notv, x_nott, x_andv, x_andt, x_orv, x_ort, x_cmpv, x_cmpt, x_chnv, x_chnt, x_ife, x_ix, x_sl, x_isi, x_isis, x_iso, x_tyiv, x_tyit, x_fld, x_mcl, x_new, x_blt, x_tlt, x_mth, x_call, x_how, x_dl, x_rp, x_lc, t_var, t_int, t_str, t_bl, t_non, t_con, t_tup, t_lst, t_bin, t_neg, t_ix, t_sl, t_isi, t_isis, t_iso, t_fld, t_mcl, t_new, t_blt, t_tlt, t_mth, t_call, t_how, t_lc, x_l0, x_l1, x_l2, x_av1, x_av2, x_ov1, x_ov2, x_at1, x_at2, x_ot1, x_ot2, x_p0, x_p1, x_o0, x_o1, x_seq, x_rng1, x_rng2, x_zip, sizeLine_eq, iL_len, setAll, setTg, wipeD, initS, ↓to_lb, ↓to_evl, ↓to_itl, lb_val, lb_exc, lb_none, itl_t, itl_f, evl_val, evl_none, evl_lb]; try simp only [of_lb, of_evl, of_itl]))]
            (simp -implicitDefEqProofs [x_nil, x_cons, x_expr, x_doc, x_pas, x_cont, x_brk, x_ret, x_retN, x_ite, x_set, x_asg, x_sub, x_for, x_raise, x_sfld, x_nev, x_while, x_var, x_int, x_str, x_bl, x_non, x_con, x_tup, x_lst, x_bin, x_neg, x_notv, x_nott, x_andv, x_andt, x_orv, x_ort, x_cmpv, x_cmpt, x_chnv, x_chnt, x_ife, x_ix, x_sl, x_isi, x_isis, x_iso, x_tyiv, x_tyit, x_fld, x_mcl, x_new, x_blt, x_tlt, x_mth, x_call, x_how, x_dl, x_rp, x_lc, t_var, t_int, t_str, t_bl, t_non, t_con, t_tup, t_lst, t_bin, t_neg, t_ix, t_sl, t_isi, t_isis, t_iso, t_fld, t_mcl, t_new, t_blt, t_tlt, t_mth, t_call, t_how, t_lc, x_l0, x_l1, x_l2, x_av1, x_av2, x_ov1, x_ov2, x_at1, x_at2, x_ot1, x_ot2, x_p0, x_p1, x_o0, x_o1, x_seq, x_rng1, x_rng2, x_zip, sizeLine_eq, iL_len, setAll, setTg, wipeD, initS, ↓to_lb, ↓to_evl, ↓to_itl, lb_val, lb_exc, lb_none, itl_t, itl_f, evl_val, evl_none, evl_lb, bt, b1, b2, e2, A, B]; try simp only [of_lb, of_evl, of_itl])
            cases showsD un goal l (hs ++ [sideF (x :: r)]) a
            · (simp -implicitDefEqProofs [x_nil, x_cons, x_expr, x_doc, x_pas, x_cont, x_brk, x_ret, x_retN, x_ite, x_set, x_asg, x_sub, x_for, x_raise, x_sfld, x_nev, x_while, x_var, x_int, x_str, x_bl, x_non, x_con, x_tup, x_lst, x_bin, x_neg, x_notv, x_nott, x_andv, x_andt, x_orv, x_ort, x_cmpv, x_cmpt, x_chnv, x_chnt, x_ife, x_ix, x_sl, x_isi, x_isis, x_iso, x_tyiv, x_tyit, x_fld, x_mcl, x_new, x_blt, x_tlt, x_mth, x_call, x_how, x_dl, x_rp, x_lc, t_var, t_int, t_str, t_bl, t_non, t_con, t_tup, t_lst, t_bin, t_neg, t_ix, t_sl, t_isi, t_isis, t_iso, t_fld, t_mcl, t_new, t_blt, t_tlt, t_mth, t_call, t_how, t_lc, x_l0, x_l1, x_l2, x_av1, x_av2, x_ov1, x_ov2, x_at1, x_at2, x_ot1, x_ot2, x_p0, x_p1, x_o0, x_o1, x_seq, x_rng1, x_rng2, x_zip, sizeLine_eq, iL_len, setAll, setTg, wipeD, initS, ↓to_lb, ↓to_evl, ↓to_itl, lb_val, lb_exc, lb_none, itl_t, itl_f, evl_val, evl_none, evl_lb]; try simp only [of_lb, of_evl, of_itl])
            · (simp -implicitDefEqProofs [x_nil, x_cons, x_expr, x_doc, x_pas, x_cont, x_brk, x_ret, x_retN, x_ite, x_set, x_asg, x_sub, x_for, x_raise, x_sfld, x_nev, x_while, x_var, x_int, x_str, x_bl, x_non, x_con, x_tup, x_lst, x_bin, x_neg, x_notv, x_nott, x_andv, x_andt, x_orv, x_ort, x_cmpv, x_cmpt, x_chnv, x_chnt, x_ife, x_ix, x_sl, x_isi, x_isis, x_iso, x_tyiv, x_tyit, x_fld, x_mcl, x_new, x_blt, x_tlt, x_mth, x_call, x_how, x_dl, x_rp, x_lc, t_var, t_int, t_str, t_bl, t_non, t_con, t_tup, t_lst, t_bin, t_neg, t_ix, t_sl, t_isi, t_isis, t_iso, t_fld, t_mcl, t_new, t_blt, t_tlt, t_mth, t_call, t_how, t_lc, x_l0, x_l1, x_l2, x_av1, x_av2, x_ov1, x_ov2, x_at1, x_at2, x_ot1, x_ot2, x_p0, x_p1, x_o0, x_o1, x_seq, x_rng1, x_rng2, x_zip, sizeLine_eq, iL_len, setAll, setTg, wipeD, initS, ↓to_lb, ↓to_evl, ↓to_itl, lb_val, lb_exc, lb_none, itl_t, itl_f, evl_val, evl_none, evl_lb, b2, B, e2]; try simp only [of_lb, of_evl, of_itl])
end
end EV

namespace EV
open PySem PySem.Spec PyProof.Rows L2 ZG
/-! ### repr of data of known kinds -/
mutual
def dw : D → Nat
  | .str x => x.cps.size
  | .tup ds => dwA ds
  | .lst ds => dwA ds
  | _ => 0
def dwA : List D → Nat
  | [] => 0
  | d :: ds => dw d + 1 + dwA ds
end
structure PyS (w : Nat) (p : PyData) : Prop where
  bulk : p.bulk = w
  leaf : p.leavesShort 62 = true
theorem kd_pySA (cs : Cells) {n : Nat} (ih : ∀ d, kd n d = true → ∃ p, toPy cs d = some p ∧ PyS (dw d) p) : ∀ ds : List D, (∀ d ∈ ds, kd n d = true) → ∃ ps, toPyA cs ds = some ps ∧ PyData.bulkAll ps = dwA ds ∧ PyData.leavesShortAll 62 ps = true
  | [], _ => ⟨[], by simp [toPyA], by simp [PyData.bulkAll, dwA], by simp [PyData.leavesShortAll]⟩
  | d :: ds, h => by
    obtain ⟨p, e, o⟩ := ih d (h d List.mem_cons_self)
    obtain ⟨ps, e2, o2, l⟩ := kd_pySA cs ih ds fun x hx => h x (List.mem_cons_of_mem _ hx)
    exact ⟨p :: ps, by simp [toPyA, e, e2], by simp [PyData.bulkAll, dwA, o.bulk, o2], by simp [PyData.leavesShortAll, o.leaf, l]⟩
theorem short_int {i : Int} (h : i.natAbs < 2 ^ 200) : (PyData.shown (.int i)).length ≤ 62 := by
  have h2 : i.natAbs < 10 ^ 61 := Nat.lt_of_lt_of_le h (by decide)
  have := int_text_length_le10 (a := i) (k := 61) (by decide) h2
  simp only [PyData.shown]
  rw [PySem.ofString_length]
  exact this
theorem short_str {x : Str} (h : PyData.strOk x = true) : (x.cps.toList.all fun c => decide (c < 16 ^ 8)) = true := by
  unfold PyData.strOk at h
  rw [List.all_eq_true]
  intro c hc
  have h2 : x.cps.toList.all (fun c => decide (c < 0x110000)) = true := by
    rw [Array.all_toList]
    exact h
  have := List.all_eq_true.mp h2 c hc
  simp only [decide_eq_true_eq] at this ⊢
  omega
theorem kd_pyS (cs : Cells) : ∀ (n : Nat) (d : D), kd n d = true → ∃ p, toPy cs d = some p ∧ PyS (dw d) p
  | n, .non, _ => ⟨.none, by simp [toPy], by simp [PyData.bulk, dw], by simp [PyData.leavesShort]⟩
  | n, .bl b, _ => ⟨.bool b, by simp [toPy], by simp [PyData.bulk, dw], by simp [PyData.leavesShort]⟩
  | n, .int i, h => ⟨.int i, by simp [toPy], by simp [PyData.bulk, dw], by
    have h : decide (i.natAbs < 2 ^ 200) = true := by cases n <;> simpa only [kd] using h
    simpa [PyData.leavesShort] using short_int (of_decide_eq_true h)⟩
  | n, .str x, h => ⟨.str x, by simp [toPy], by simp [PyData.bulk, dw], by
    have h : PyData.strOk x = true := by cases n <;> simpa only [kd] using h
    unfold PyData.leavesShort
    exact short_str h⟩
  | 0, .tup ds, h => by simp [kd] at h
  | 0, .lst ds, h => by simp [kd] at h
  | n + 1, .tup ds, h => by
    obtain ⟨m, e, _, h2⟩ := kd_tup h
    cases e
    obtain ⟨ps, e, o, l⟩ := kd_pySA cs (fun d hd => kd_pyS cs n d hd) ds h2
    exact ⟨.tuple ps, by simp [toPy, e], by simp [PyData.bulk, dw, o], by simp [PyData.leavesShort, l]⟩
  | n + 1, .lst ds, h => by
    obtain ⟨m, e, _, h2⟩ := kd_lst h
    cases e
    obtain ⟨ps, e, o, l⟩ := kd_pySA cs (fun d hd => kd_pyS cs n d hd) ds h2
    exact ⟨.list ps, by simp [toPy, e], by simp [PyData.bulk, dw, o], by simp [PyData.leavesShort, l]⟩
  | n, .frz _, h => by cases n <;> simp [kd] at h
  | n, .dct _ _, h => by cases n <;> simp [kd] at h
  | n, .ins _ _ _, h => by cases n <;> simp [kd] at h
  | n, .st _, h => by cases n <;> simp [kd] at h
  | n, .ref _, h => by cases n <;> simp [kd] at h
  | n, .obj _, h => by cases n <;> simp [kd] at h
mutual
def cf : D → Bool
  | .ref _ => false
  | .tup ds => cfA ds
  | .lst ds => cfA ds
  | .frz ds => cfA ds
  | _ => true
def cfA : List D → Bool
  | [] => true
  | d :: ds => cf d && cfA ds
end
mutual
theorem toPy_cf (cs cs' : Cells) : ∀ d : D, cf d = true → toPy cs d = toPy cs' d
  | .non, _ => by simp [toPy]
  | .bl _, _ => by simp [toPy]
  | .int _, _ => by simp [toPy]
  | .str _, _ => by simp [toPy]
  | .tup ds, h => by simp only [toPy]; rw [toPy_cfA cs cs' ds (by simpa [cf] using h)]
  | .lst ds, h => by simp only [toPy]; rw [toPy_cfA cs cs' ds (by simpa [cf] using h)]
  | .frz ds, h => by simp only [toPy]; rw [toPy_cfA cs cs' ds (by simpa [cf] using h)]
  | .dct _ _, _ => by simp [toPy]
  | .ins _ _ _, _ => by simp [toPy]
  | .st _, _ => by simp [toPy]
  | .obj _, _ => by simp [toPy]
  | .ref _, h => by simp [cf] at h
theorem toPy_cfA (cs cs' : Cells) : ∀ ds : List D, cfA ds = true → toPyA cs ds = toPyA cs' ds
  | [], _ => by simp [toPyA]
  | d :: ds, h => by
    have h : cf d = true ∧ cfA ds = true := by simpa [cfA] using h
    simp only [toPyA]
    rw [toPy_cf cs cs' d h.1, toPy_cfA cs cs' ds h.2]
end
theorem cfA_of {ds : List D} (h : ∀ d ∈ ds, cf d = true) : cfA ds = true := by
  induction ds with
  | nil => rfl
  | cons x r ih => simp [cfA, h x List.mem_cons_self, ih fun d hd => h d (List.mem_cons_of_mem _ hd)]
theorem kd_cf : ∀ (n : Nat) (d : D), kd n d = true → cf d = true
  | 0, d, h => by cases d <;> first | rfl | (simp [kd] at h)
  | n + 1, d, h => by
    cases d with
    | tup ds =>
      obtain ⟨m, e, _, h2⟩ := kd_tup h
      cases e
      simpa [cf] using cfA_of fun d hd => kd_cf n d (h2 d hd)
    | lst ds =>
      obtain ⟨m, e, _, h2⟩ := kd_lst h
      cases e
      simpa [cf] using cfA_of fun d hd => kd_cf n d (h2 d hd)
    | _ => first | rfl | (simp [kd] at h)
theorem toPy_free {n : Nat} {d : D} (cs : Cells) (h : kd n d = true) : toPy cs d = toPy [] d := toPy_cf cs [] d (kd_cf n d h)
theorem rep_ok {n : Nat} {d : D} (h : kd n d = true) (hn : n ≤ 60) (hw : dw d ≤ 200000) : ∃ t : Str, ∀ cs, reprD d cs = some (.val (.str t), cs) := by
  have key : ∀ cs, ∃ p, toPy cs d = some p ∧ rpOk p = true := fun cs => by
    obtain ⟨p, e, o⟩ := kd_py cs n d h
    obtain ⟨p', e', s⟩ := kd_pyS cs n d h
    cases e.symm.trans e'
    refine ⟨p, e, ?_⟩
    have l := PyData.shown_le_bulk 62 (by decide) p s.leaf
    have := s.bulk
    have := o.dep
    have sz : p.shown.length ≤ sizeLine := by rw [sizeLine_eq]; omega
    unfold rpOk
    rw [o.sho, PyData.hasDict_of_canLay p o.lay, decide_eq_true (show p.depth ≤ 100 by omega), decide_eq_true sz]
    rfl
  obtain ⟨p, e, o⟩ := key []
  refine ⟨p.shown, fun cs => ?_⟩
  obtain ⟨p', e', o'⟩ := key cs
  have : p' = p := by
    have := toPy_free cs h
    rw [this] at e'
    rw [e] at e'
    exact (Option.some.inj e').symm
  subst this
  unfold reprD
  rw [e']
  dsimp only
  rw [if_pos o']
theorem cut_iL (l : List Int) (lo hi : Option Int) : ∃ m, cutD (iL l) lo hi = iL m ∧ m.length ≤ l.length ∧ ∀ x ∈ m, x ∈ l := by
  unfold cutD
  refine ⟨_, by unfold iL; rw [← List.map_drop, ← List.map_take], ?_, fun x hx => List.mem_of_mem_drop (List.mem_of_mem_take hx)⟩
  rw [List.length_take, List.length_drop]
  omega
theorem dw_iL (l : List Int) : dwA (iL l) = l.length := by
  induction l with
  | nil => rfl
  | cons x l ih =>
    have e : iL (x :: l) = D.int x :: iL l := rfl
    have z : dw (D.int x) = 0 := by simp [dw]
    rw [e, dwA, ih, z, List.length_cons]
    omega
theorem dwA_app (a b : List D) : dwA (a ++ b) = dwA a + dwA b := by
  induction a with
  | nil => simp [dwA]
  | cons x a ih => rw [List.cons_append, dwA, ih, dwA]; omega
end EV

namespace EV
open PySem PySem.Spec PyProof.Rows L2 ZG
/-! ### a sum or never, and a hint for it -/
theorem zipW_mem {α β γ : Type} (f : α → β → γ) : ∀ (l : List α) (m : List β) (x : γ), x ∈ List.zipWith f l m → ∃ a b, a ∈ l ∧ b ∈ m ∧ x = f a b
  | [], _, _, h => by simp at h
  | _ :: _, [], _, h => by simp at h
  | a :: l, b :: m, x, h => by
    rw [List.zipWith_cons_cons] at h
    rcases List.mem_cons.mp h with rfl | h
    · exact ⟨a, b, List.mem_cons_self, List.mem_cons_self, rfl⟩
    · obtain ⟨u, v, h1, h2, rfl⟩ := zipW_mem f l m x h
      exact ⟨u, v, List.mem_cons_of_mem _ h1, List.mem_cons_of_mem _ h2, rfl⟩
structure WfI (pre suf : Cells) (k N : Nat) (l : List (List Int)) (acc : List D) (cs : Cells) : Prop where
  ex : ∃ ws : List Int, acc = iL ws ∧ ws.length + l.length = N ∧ (∀ w ∈ ws, 0 ≤ w ∧ w ≤ 2) ∧ PS pre suf (k + ws.length) cs
structure LfI (P H G T W R : D) (m N : Nat) (cs : Cells) (l : List (Int × List Int)) (sl : Slots) (cs' : Cells) : Prop where
  same : cs' = cs
  ex : ∃ (acc : List Int) (o7 o8 : Option D), sl = [some P, some H, some G, some T, some W, some R, some (.lst (iL acc)), o7, o8, none, none, none, none, none] ∧ acc.length = m ∧ (∀ x ∈ acc, x.natAbs ≤ 10 * (N - l.length)) ∧ l.length ≤ N ∧ (∀ p ∈ l, p.2.length = m ∧ Between (-5) 5 p.2 ∧ 0 ≤ p.1 ∧ p.1 ≤ 2)
/-- what is told -/
structure LfT (L N : Nat) (c : Pc) (more : List Int) : Prop where
  len : more.length = L
  bnd : ∀ x ∈ more, x.natAbs ≤ 1000
  leaf : ∃ ws : List Int, ws.length = N + 1 ∧ (∀ w ∈ ws, 0 ≤ w ∧ w ≤ 2) ∧ (c = .nev ws ∨ ∃ k : Int, 1 ≤ k ∧ k ≤ 3 ∧ c = .sum k ws)
section
variable (n : Nat)
theorem leaf_for_ {pre suf cs : Cells} {k : Nat} {goal : List Int} {hs : List (List Int)} (hp : PS pre suf k cs) (hk : k ≤ 800000) (g0 : goal ≠ []) (gL : goal.length ≤ 10) (gb : Between (-5) 5 goal) (F : Fs goal.length 5 hs) (hl : hs.length ≤ 10) :
    Ev (SM (n+2) i__law_leaf_for [.ref pre.length, .lst (hD hs), .tup (iL goal)] cs) fun d cs' => ∃ (c : Pc) (more : List Int), d = .tup [c.enc, .tup (iL more)] ∧ LfT goal.length hs.length c more ∧ PS pre suf (k + 20) cs' := by
  rw [e__law_leaf_for, b__law_leaf_for]
  (simp -implicitDefEqProofs [x_nil, x_cons, x_expr, x_doc, x_pas, x_cont, x_brk, x_ret, x_retN, x_ite, x_set, x_asg, x_sub, x_for, x_raise, x_sfld, x_nev, x_while, x_var, x_int, x_str, x_bl, x_non, x_con, x_tup, x_lst, x_bin, x_neg, x_notv, x_nott, x_andv, x_andt, x_orv, x_ort, x_cmpv, x_cmpt, x_chnv, x_chnt, x_ife, x_ix, x_sl, x_isi, x_isis, x_iso, x_tyiv, x_tyit, x_fld, x_mcl, x_new, x_blt, x_tlt, x_mth, x_call, x_how, x_dl, x_rp, x_lc, t_var, t_int, t_str, t_bl, t_non, t_con, t_tup, t_lst, t_bin, t_neg, t_ix, t_sl, t_isi, t_isis, t_iso, t_fld, t_mcl, t_new, t_blt, t_tlt, t_mth, t_call, t_how, t_lc, x_l0, x_l1, x_l2, x_av1, x_av2, x_ov1, x_ov2, x_at1, x_at2, x_ot1, x_ot2, x_p0, x_p1, x_o0, x_o1, x_seq, x_rng1, x_rng2, x_zip, sizeLine_eq, iL_len, setAll, setTg, wipeD, initS, ↓to_lb, ↓to_evl, ↓to_itl, lb_val, lb_exc, lb_none, itl_t, itl_f, evl_val, evl_none, evl_lb]; try simp only [of_lb, of_evl, of_itl])
  refine Ev.imp (take_ n hp (by omega) (by decide) (by decide)) ?_
  rintro _ cs1 ⟨r1, rfl, a1, a2, hp⟩
  (simp -implicitDefEqProofs [x_nil, x_cons, x_expr, x_doc, x_pas, x_cont, x_brk, x_ret, x_retN, x_ite, x_set, x_asg, x_sub, x_for, x_raise, x_sfld, x_nev, x_while, x_var, x_int, x_str, x_bl, x_non, x_con, x_tup, x_lst, x_bin, x_neg, x_notv, x_nott, x_andv, x_andt, x_orv, x_ort, x_cmpv, x_cmpt, x_chnv, x_chnt, x_ife, x_ix, x_sl, x_isi, x_isis, x_iso, x_tyiv, x_tyit, x_fld, x_mcl, x_new, x_blt, x_tlt, x_mth, x_call, x_how, x_dl, x_rp, x_lc, t_var, t_int, t_str, t_bl, t_non, t_con, t_tup, t_lst, t_bin, t_neg, t_ix, t_sl, t_isi, t_isis, t_iso, t_fld, t_mcl, t_new, t_blt, t_tlt, t_mth, t_call, t_how, t_lc, x_l0, x_l1, x_l2, x_av1, x_av2, x_ov1, x_ov2, x_at1, x_at2, x_ot1, x_ot2, x_p0, x_p1, x_o0, x_o1, x_seq, x_rng1, x_rng2, x_zip, sizeLine_eq, iL_len, setAll, setTg, wipeD, initS, ↓to_lb, ↓to_evl, ↓to_itl, lb_val, lb_exc, lb_none, itl_t, itl_f, evl_val, evl_none, evl_lb]; try simp only [of_lb, of_evl, of_itl])
  refine ev_lcI (fun h : List Int => D.tup (iL h)) hs (by omega) (WfI pre suf (k + 1) hs.length) (by (simp -implicitDefEqProofs [x_nil, x_cons, x_expr, x_doc, x_pas, x_cont, x_brk, x_ret, x_retN, x_ite, x_set, x_asg, x_sub, x_for, x_raise, x_sfld, x_nev, x_while, x_var, x_int, x_str, x_bl, x_non, x_con, x_tup, x_lst, x_bin, x_neg, x_notv, x_nott, x_andv, x_andt, x_orv, x_ort, x_cmpv, x_cmpt, x_chnv, x_chnt, x_ife, x_ix, x_sl, x_isi, x_isis, x_iso, x_tyiv, x_tyit, x_fld, x_mcl, x_new, x_blt, x_tlt, x_mth, x_call, x_how, x_dl, x_rp, x_lc, t_var, t_int, t_str, t_bl, t_non, t_con, t_tup, t_lst, t_bin, t_neg, t_ix, t_sl, t_isi, t_isis, t_iso, t_fld, t_mcl, t_new, t_blt, t_tlt, t_mth, t_call, t_how, t_lc, x_l0, x_l1, x_l2, x_av1, x_av2, x_ov1, x_ov2, x_at1, x_at2, x_ot1, x_ot2, x_p0, x_p1, x_o0, x_o1, x_seq, x_rng1, x_rng2, x_zip, sizeLine_eq, iL_len, setAll, setTg, wipeD, initS, ↓to_lb, ↓to_evl, ↓to_itl, lb_val, lb_exc, lb_none, itl_t, itl_f, evl_val, evl_none, evl_lb, hD]; try simp only [of_lb, of_evl, of_itl])) ⟨[], rfl, by simp, (fun w hw => nomatch hw), hp⟩ ?_ ?_
  · rintro x r acc cs2 ⟨ws, rfl, hl2, hw, hp⟩
    simp only [List.length_cons] at hl2
    refine ⟨_, rfl, ?_⟩
    (simp -implicitDefEqProofs [x_nil, x_cons, x_expr, x_doc, x_pas, x_cont, x_brk, x_ret, x_retN, x_ite, x_set, x_asg, x_sub, x_for, x_raise, x_sfld, x_nev, x_while, x_var, x_int, x_str, x_bl, x_non, x_con, x_tup, x_lst, x_bin, x_neg, x_notv, x_nott, x_andv, x_andt, x_orv, x_ort, x_cmpv, x_cmpt, x_chnv, x_chnt, x_ife, x_ix, x_sl, x_isi, x_isis, x_iso, x_tyiv, x_tyit, x_fld, x_mcl, x_new, x_blt, x_tlt, x_mth, x_call, x_how, x_dl, x_rp, x_lc, t_var, t_int, t_str, t_bl, t_non, t_con, t_tup, t_lst, t_bin, t_neg, t_ix, t_sl, t_isi, t_isis, t_iso, t_fld, t_mcl, t_new, t_blt, t_tlt, t_mth, t_call, t_how, t_lc, x_l0, x_l1, x_l2, x_av1, x_av2, x_ov1, x_ov2, x_at1, x_at2, x_ot1, x_ot2, x_p0, x_p1, x_o0, x_o1, x_seq, x_rng1, x_rng2, x_zip, sizeLine_eq, iL_len, setAll, setTg, wipeD, initS, ↓to_lb, ↓to_evl, ↓to_itl, lb_val, lb_exc, lb_none, itl_t, itl_f, evl_val, evl_none, evl_lb]; try simp only [of_lb, of_evl, of_itl])
    refine Ev.imp (take_ n hp (by omega) (by decide) (by decide)) ?_
    rintro _ cs3 ⟨r2, rfl, b1, b2, hp⟩
    refine ⟨ws ++ [r2], by simp [iL], by simp; omega, fun w hw' => ?_, ?_⟩
    · rcases List.mem_append.mp hw' with hw' | hw'
      · exact hw w hw'
      · rw [List.mem_singleton.mp hw']; omega
    · have e : k + 1 + (ws ++ [r2]).length = k + 1 + ws.length + 1 := by simp; omega
      rw [e]
      exact hp
  · rintro ds cs2 ⟨ws, rfl, hl2, hw, hp⟩
    simp only [List.length_nil, Nat.add_zero] at hl2
    try (simp -implicitDefEqProofs [x_nil, x_cons, x_expr, x_doc, x_pas, x_cont, x_brk, x_ret, x_retN, x_ite, x_set, x_asg, x_sub, x_for, x_raise, x_sfld, x_nev, x_while, x_var, x_int, x_str, x_bl, x_non, x_con, x_tup, x_lst, x_bin, x_neg, x_notv, x_nott, x_andv, x_andt, x_orv, x_ort, x_cmpv, x_cmpt, x_chnv, x_chnt, x_ife, x_ix, x_sl, x_isi, x_isis, x_iso, x_tyiv, x_tyit, x_fld, x_mcl, x_new, x_blt, x_tlt, x_mth, x_call, x_how, x_dl, x_rp, x_lc, t_var, t_int, t_str, t_bl, t_non, t_con, t_tup, t_lst, t_bin, t_neg, t_ix, t_sl, t_isi, t_isis, t_iso, t_fld, t_mcl, t_new, t_blt, t_tlt, t_mth, t_call, t_how, t_lc, x_l0, x_l1, x_l2, x_av1, x_av2, x_ov1, x_ov2, x_at1, x_at2, x_ot1, x_ot2, x_p0, x_p1, x_o0, x_o1, x_seq, x_rng1, x_rng2, x_zip, sizeLine_eq, iL_len, setAll, setTg, wipeD, initS, ↓to_lb, ↓to_evl, ↓to_itl, lb_val, lb_exc, lb_none, itl_t, itl_f, evl_val, evl_none, evl_lb]; try simp only [of_lb, of_evl, of_itl])
    refine Ev.imp (take_ n hp (by omega) (by omega) (by omega)) ?_
    rintro _ cs3 ⟨r2, rfl, b1, b2, hp⟩
    (simp -implicitDefEqProofs [x_nil, x_cons, x_expr, x_doc, x_pas, x_cont, x_brk, x_ret, x_retN, x_ite, x_set, x_asg, x_sub, x_for, x_raise, x_sfld, x_nev, x_while, x_var, x_int, x_str, x_bl, x_non, x_con, x_tup, x_lst, x_bin, x_neg, x_notv, x_nott, x_andv, x_andt, x_orv, x_ort, x_cmpv, x_cmpt, x_chnv, x_chnt, x_ife, x_ix, x_sl, x_isi, x_isis, x_iso, x_tyiv, x_tyit, x_fld, x_mcl, x_new, x_blt, x_tlt, x_mth, x_call, x_how, x_dl, x_rp, x_lc, t_var, t_int, t_str, t_bl, t_non, t_con, t_tup, t_lst, t_bin, t_neg, t_ix, t_sl, t_isi, t_isis, t_iso, t_fld, t_mcl, t_new, t_blt, t_tlt, t_mth, t_call, t_how, t_lc, x_l0, x_l1, x_l2, x_av1, x_av2, x_ov1, x_ov2, x_at1, x_at2, x_ot1, x_ot2, x_p0, x_p1, x_o0, x_o1, x_seq, x_rng1, x_rng2, x_zip, sizeLine_eq, iL_len, setAll, setTg, wipeD, initS, ↓to_lb, ↓to_evl, ↓to_itl, lb_val, lb_exc, lb_none, itl_t, itl_f, evl_val, evl_none, evl_lb, rep0 cs3 goal.length (by omega), zip_hD]; try simp only [of_lb, of_evl, of_itl])
    refine ev_items (fun p : Int × List Int => D.tup [.int p.1, .tup (iL p.2)]) (LfI (.ref pre.length) (.lst (hD hs)) (.tup (iL goal)) (.int (1 + r1)) (.lst (iL ws)) (.int (r2 - (1 + r1) - 1)) goal.length hs.length cs3) ?_ ?_ (ws.zip hs) _ cs3 ?_
    · rintro ⟨w, g⟩ r sl cs4 ⟨rfl, acc, o7, o8, rfl, ha, hb, hN, hall⟩
      obtain ⟨q1, q2, q3, q4⟩ := hall (w, g) List.mem_cons_self
      simp only at q1 q2 q3 q4
      simp only [List.length_cons] at hb hN
      refine ⟨_, rfl, ?_⟩
      have hl' : ∀ p ∈ r, p.2.length = goal.length ∧ Between (-5) 5 p.2 ∧ 0 ≤ p.1 ∧ p.1 ≤ 2 := fun p hp => hall p (List.mem_cons_of_mem _ hp)
      (simp -implicitDefEqProofs [x_nil, x_cons, x_expr, x_doc, x_pas, x_cont, x_brk, x_ret, x_retN, x_ite, x_set, x_asg, x_sub, x_for, x_raise, x_sfld, x_nev, x_while, x_var, x_int, x_str, x_bl, x_non, x_con, x_tup, x_lst, x_bin, x_neg, x_notv, x_nott, x_andv, x_andt, x_orv, x_ort, x_cmpv, x_cmpt, x_chnv, x_chnt, x_ife, x_ix, x_sl, x_isi, x_isis, x_iso, x_tyiv, x_tyit, x_fld, x_mcl, x_new, x_blt, x_tlt, x_mth, x_call, x_how, x_dl, x_rp, x_lc, t_var, t_int, t_str, t_bl, t_non, t_con, t_tup, t_lst, t_bin, t_neg, t_ix, t_sl, t_isi, t_isis, t_iso, t_fld, t_mcl, t_new, t_blt, t_tlt, t_mth, t_call, t_how, t_lc, x_l0, x_l1, x_l2, x_av1, x_av2, x_ov1, x_ov2, x_at1, x_at2, x_ot1, x_ot2, x_p0, x_p1, x_o0, x_o1, x_seq, x_rng1, x_rng2, x_zip, sizeLine_eq, iL_len, setAll, setTg, wipeD, initS, ↓to_lb, ↓to_evl, ↓to_itl, lb_val, lb_exc, lb_none, itl_t, itl_f, evl_val, evl_none, evl_lb]; try simp only [of_lb, of_evl, of_itl])
      rw [lcD_map (F := fun d => match d with | .tup [.int u, .int v] => .int (u + w * v) | _ => .non) (items := zipD (iL acc) (iL g)) (g := [])]
      · rw [mapZip _ (fun u v => u + w * v) fun _ _ => rfl]
        (simp -implicitDefEqProofs [x_nil, x_cons, x_expr, x_doc, x_pas, x_cont, x_brk, x_ret, x_retN, x_ite, x_set, x_asg, x_sub, x_for, x_raise, x_sfld, x_nev, x_while, x_var, x_int, x_str, x_bl, x_non, x_con, x_tup, x_lst, x_bin, x_neg, x_notv, x_nott, x_andv, x_andt, x_orv, x_ort, x_cmpv, x_cmpt, x_chnv, x_chnt, x_ife, x_ix, x_sl, x_isi, x_isis, x_iso, x_tyiv, x_tyit, x_fld, x_mcl, x_new, x_blt, x_tlt, x_mth, x_call, x_how, x_dl, x_rp, x_lc, t_var, t_int, t_str, t_bl, t_non, t_con, t_tup, t_lst, t_bin, t_neg, t_ix, t_sl, t_isi, t_isis, t_iso, t_fld, t_mcl, t_new, t_blt, t_tlt, t_mth, t_call, t_how, t_lc, x_l0, x_l1, x_l2, x_av1, x_av2, x_ov1, x_ov2, x_at1, x_at2, x_ot1, x_ot2, x_p0, x_p1, x_o0, x_o1, x_seq, x_rng1, x_rng2, x_zip, sizeLine_eq, iL_len, setAll, setTg, wipeD, initS, ↓to_lb, ↓to_evl, ↓to_itl, lb_val, lb_exc, lb_none, itl_t, itl_f, evl_val, evl_none, evl_lb]; try simp only [of_lb, of_evl, of_itl])
        refine turn_nx ⟨rfl, _, _, _, rfl, ?_, ?_, by omega, hl'⟩
        · rw [List.length_zipWith]; omega
        · intro x hx
          obtain ⟨u, v, hu, hv, rfl⟩ := zipW_mem _ _ _ _ hx
          have i1 := hb u hu
          have i2 := q2 v hv
          have hw3 : w = 0 ∨ w = 1 ∨ w = 2 := by omega
          rcases hw3 with rfl | rfl | rfl <;> omega
      · (simp -implicitDefEqProofs [x_nil, x_cons, x_expr, x_doc, x_pas, x_cont, x_brk, x_ret, x_retN, x_ite, x_set, x_asg, x_sub, x_for, x_raise, x_sfld, x_nev, x_while, x_var, x_int, x_str, x_bl, x_non, x_con, x_tup, x_lst, x_bin, x_neg, x_notv, x_nott, x_andv, x_andt, x_orv, x_ort, x_cmpv, x_cmpt, x_chnv, x_chnt, x_ife, x_ix, x_sl, x_isi, x_isis, x_iso, x_tyiv, x_tyit, x_fld, x_mcl, x_new, x_blt, x_tlt, x_mth, x_call, x_how, x_dl, x_rp, x_lc, t_var, t_int, t_str, t_bl, t_non, t_con, t_tup, t_lst, t_bin, t_neg, t_ix, t_sl, t_isi, t_isis, t_iso, t_fld, t_mcl, t_new, t_blt, t_tlt, t_mth, t_call, t_how, t_lc, x_l0, x_l1, x_l2, x_av1, x_av2, x_ov1, x_ov2, x_at1, x_at2, x_ot1, x_ot2, x_p0, x_p1, x_o0, x_o1, x_seq, x_rng1, x_rng2, x_zip, sizeLine_eq, iL_len, setAll, setTg, wipeD, initS, ↓to_lb, ↓to_evl, ↓to_itl, lb_val, lb_exc, lb_none, itl_t, itl_f, evl_val, evl_none, evl_lb]; try simp only [of_lb, of_evl, of_itl])
      · exact grdN _
      · rw [zip_iL]; simp [sizeLine]; omega
      · intro y hy
        rw [zip_iL] at hy
        obtain ⟨⟨u, v⟩, huv, rfl⟩ := List.mem_map.mp hy
        (simp -implicitDefEqProofs [x_nil, x_cons, x_expr, x_doc, x_pas, x_cont, x_brk, x_ret, x_retN, x_ite, x_set, x_asg, x_sub, x_for, x_raise, x_sfld, x_nev, x_while, x_var, x_int, x_str, x_bl, x_non, x_con, x_tup, x_lst, x_bin, x_neg, x_notv, x_nott, x_andv, x_andt, x_orv, x_ort, x_cmpv, x_cmpt, x_chnv, x_chnt, x_ife, x_ix, x_sl, x_isi, x_isis, x_iso, x_tyiv, x_tyit, x_fld, x_mcl, x_new, x_blt, x_tlt, x_mth, x_call, x_how, x_dl, x_rp, x_lc, t_var, t_int, t_str, t_bl, t_non, t_con, t_tup, t_lst, t_bin, t_neg, t_ix, t_sl, t_isi, t_isis, t_iso, t_fld, t_mcl, t_new, t_blt, t_tlt, t_mth, t_call, t_how, t_lc, x_l0, x_l1, x_l2, x_av1, x_av2, x_ov1, x_ov2, x_at1, x_at2, x_ot1, x_ot2, x_p0, x_p1, x_o0, x_o1, x_seq, x_rng1, x_rng2, x_zip, sizeLine_eq, iL_len, setAll, setTg, wipeD, initS, ↓to_lb, ↓to_evl, ↓to_itl, lb_val, lb_exc, lb_none, itl_t, itl_f, evl_val, evl_none, evl_lb, mulL false cs4 w v (by omega)]; try simp only [of_lb, of_evl, of_itl])
    · rintro sl cs4 ⟨rfl, acc, o7, o8, rfl, ha, hb, _, _⟩
      simp only [List.length_nil, Nat.sub_zero] at hb
      try (simp -implicitDefEqProofs [x_nil, x_cons, x_expr, x_doc, x_pas, x_cont, x_brk, x_ret, x_retN, x_ite, x_set, x_asg, x_sub, x_for, x_raise, x_sfld, x_nev, x_while, x_var, x_int, x_str, x_bl, x_non, x_con, x_tup, x_lst, x_bin, x_neg, x_notv, x_nott, x_andv, x_andt, x_orv, x_ort, x_cmpv, x_cmpt, x_chnv, x_chnt, x_ife, x_ix, x_sl, x_isi, x_isis, x_iso, x_tyiv, x_tyit, x_fld, x_mcl, x_new, x_blt, x_tlt, x_mth, x_call, x_how, x_dl, x_rp, x_lc, t_var, t_int, t_str, t_bl, t_non, t_con, t_tup, t_lst, t_bin, t_neg, t_ix, t_sl, t_isi, t_isis, t_iso, t_fld, t_mcl, t_new, t_blt, t_tlt, t_mth, t_call, t_how, t_lc, x_l0, x_l1, x_l2, x_av1, x_av2, x_ov1, x_ov2, x_at1, x_at2, x_ot1, x_ot2, x_p0, x_p1, x_o0, x_o1, x_seq, x_rng1, x_rng2, x_zip, sizeLine_eq, iL_len, setAll, setTg, wipeD, initS, ↓to_lb, ↓to_evl, ↓to_itl, lb_val, lb_exc, lb_none, itl_t, itl_f, evl_val, evl_none, evl_lb]; try simp only [of_lb, of_evl, of_itl])
      refine Ev.imp (take_ n hp (by omega) (by decide) (by decide)) ?_
      rintro _ cs5 ⟨r3, rfl, c1, c2, hp⟩
      have bw := binD_lst cs5 (iL ws) [D.int 1] (by rw [iL_len]; simp [sizeLine]; omega)
      have bw2 : iL ws ++ [D.int 1] = iL (ws ++ [1]) := by simp [iL]
      rw [bw2] at bw
      have okw : (ws ++ [1]).length = hs.length + 1 ∧ ∀ w ∈ ws ++ [1], 0 ≤ w ∧ w ≤ 2 := by
        refine ⟨by simp; omega, fun w hw' => ?_⟩
        rcases List.mem_append.mp hw' with hw' | hw'
        · exact hw w hw'
        · rw [List.mem_singleton.mp hw']; omega
      cases acc with
      | nil => exact absurd (List.length_eq_zero_iff.mp ha.symm) g0
      | cons x r =>
        simp only [List.length_cons] at ha
        have hx := hb x List.mem_cons_self
        by_cases c : r3 = 3
        · (simp -implicitDefEqProofs [x_nil, x_cons, x_expr, x_doc, x_pas, x_cont, x_brk, x_ret, x_retN, x_ite, x_set, x_asg, x_sub, x_for, x_raise, x_sfld, x_nev, x_while, x_var, x_int, x_str, x_bl, x_non, x_con, x_tup, x_lst, x_bin, x_neg, x_notv, x_nott, x_andv, x_andt, x_orv, x_ort, x_cmpv, x_cmpt, x_chnv, x_chnt, x_ife, x_ix, x_sl, x_isi, x_isis, x_iso, x_tyiv, x_tyit, x_fld, x_mcl, x_new, x_blt, x_tlt, x_mth, x_call, x_how, x_dl, x_rp, x_lc, t_var, t_int, t_str, t_bl, t_non, t_con, t_tup, t_lst, t_bin, t_neg, t_ix, t_sl, t_isi, t_isis, t_iso, t_fld, t_mcl, t_new, t_blt, t_tlt, t_mth, t_call, t_how, t_lc, x_l0, x_l1, x_l2, x_av1, x_av2, x_ov1, x_ov2, x_at1, x_at2, x_ot1, x_ot2, x_p0, x_p1, x_o0, x_o1, x_seq, x_rng1, x_rng2, x_zip, sizeLine_eq, iL_len, setAll, setTg, wipeD, initS, ↓to_lb, ↓to_evl, ↓to_itl, lb_val, lb_exc, lb_none, itl_t, itl_f, evl_val, evl_none, evl_lb, c]; try simp only [of_lb, of_evl, of_itl])
          refine Ev.imp (take_ n hp (by omega) (by decide) (by decide)) ?_
          rintro _ cs6 ⟨r4, rfl, d1, d2, hp⟩
          have bw := binD_lst cs6 (iL ws) [D.int 1] (by rw [iL_len]; simp [sizeLine]; omega)
          rw [bw2] at bw
          (simp -implicitDefEqProofs [x_nil, x_cons, x_expr, x_doc, x_pas, x_cont, x_brk, x_ret, x_retN, x_ite, x_set, x_asg, x_sub, x_for, x_raise, x_sfld, x_nev, x_while, x_var, x_int, x_str, x_bl, x_non, x_con, x_tup, x_lst, x_bin, x_neg, x_notv, x_nott, x_andv, x_andt, x_orv, x_ort, x_cmpv, x_cmpt, x_chnv, x_chnt, x_ife, x_ix, x_sl, x_isi, x_isis, x_iso, x_tyiv, x_tyit, x_fld, x_mcl, x_new, x_blt, x_tlt, x_mth, x_call, x_how, x_dl, x_rp, x_lc, t_var, t_int, t_str, t_bl, t_non, t_con, t_tup, t_lst, t_bin, t_neg, t_ix, t_sl, t_isi, t_isis, t_iso, t_fld, t_mcl, t_new, t_blt, t_tlt, t_mth, t_call, t_how, t_lc, x_l0, x_l1, x_l2, x_av1, x_av2, x_ov1, x_ov2, x_at1, x_at2, x_ot1, x_ot2, x_p0, x_p1, x_o0, x_o1, x_seq, x_rng1, x_rng2, x_zip, sizeLine_eq, iL_len, setAll, setTg, wipeD, initS, ↓to_lb, ↓to_evl, ↓to_itl, lb_val, lb_exc, lb_none, itl_t, itl_f, evl_val, evl_none, evl_lb, bw]; try simp only [of_lb, of_evl, of_itl])
          rw [contra_ (r := r) cs6 (by omega) (by (simp -implicitDefEqProofs [x_nil, x_cons, x_expr, x_doc, x_pas, x_cont, x_brk, x_ret, x_retN, x_ite, x_set, x_asg, x_sub, x_for, x_raise, x_sfld, x_nev, x_while, x_var, x_int, x_str, x_bl, x_non, x_con, x_tup, x_lst, x_bin, x_neg, x_notv, x_nott, x_andv, x_andt, x_orv, x_ort, x_cmpv, x_cmpt, x_chnv, x_chnt, x_ife, x_ix, x_sl, x_isi, x_isis, x_iso, x_tyiv, x_tyit, x_fld, x_mcl, x_new, x_blt, x_tlt, x_mth, x_call, x_how, x_dl, x_rp, x_lc, t_var, t_int, t_str, t_bl, t_non, t_con, t_tup, t_lst, t_bin, t_neg, t_ix, t_sl, t_isi, t_isis, t_iso, t_fld, t_mcl, t_new, t_blt, t_tlt, t_mth, t_call, t_how, t_lc, x_l0, x_l1, x_l2, x_av1, x_av2, x_ov1, x_ov2, x_at1, x_at2, x_ot1, x_ot2, x_p0, x_p1, x_o0, x_o1, x_seq, x_rng1, x_rng2, x_zip, sizeLine_eq, iL_len, setAll, setTg, wipeD, initS, ↓to_lb, ↓to_evl, ↓to_itl, lb_val, lb_exc, lb_none, itl_t, itl_f, evl_val, evl_none, evl_lb]; try simp only [of_lb, of_evl, of_itl])) (fun y => by (simp -implicitDefEqProofs [x_nil, x_cons, x_expr, x_doc, x_pas, x_cont, x_brk, x_ret, x_retN, x_ite, x_set, x_asg, x_sub, x_for, x_raise, x_sfld, x_nev, x_while, x_var, x_int, x_str, x_bl, x_non, x_con, x_tup, x_lst, x_bin, x_neg, x_notv, x_nott, x_andv, x_andt, x_orv, x_ort, x_cmpv, x_cmpt, x_chnv, x_chnt, x_ife, x_ix, x_sl, x_isi, x_isis, x_iso, x_tyiv, x_tyit, x_fld, x_mcl, x_new, x_blt, x_tlt, x_mth, x_call, x_how, x_dl, x_rp, x_lc, t_var, t_int, t_str, t_bl, t_non, t_con, t_tup, t_lst, t_bin, t_neg, t_ix, t_sl, t_isi, t_isis, t_iso, t_fld, t_mcl, t_new, t_blt, t_tlt, t_mth, t_call, t_how, t_lc, x_l0, x_l1, x_l2, x_av1, x_av2, x_ov1, x_ov2, x_at1, x_at2, x_ot1, x_ot2, x_p0, x_p1, x_o0, x_o1, x_seq, x_rng1, x_rng2, x_zip, sizeLine_eq, iL_len, setAll, setTg, wipeD, initS, ↓to_lb, ↓to_evl, ↓to_itl, lb_val, lb_exc, lb_none, itl_t, itl_f, evl_val, evl_none, evl_lb]; try simp only [of_lb, of_evl, of_itl]))]
          have bt := binD_tup false cs6 [D.int (r4 - 2 - x)] (r.map fun i => D.int (-i)) (by simp [sizeLine]; omega)
          have bt2 : [D.int (r4 - 2 - x)] ++ r.map (fun i => D.int (-i)) = iL ((r4 - 2 - x) :: r.map fun i => -i) := by simp [iL]
          rw [bt2] at bt
          (simp -implicitDefEqProofs [x_nil, x_cons, x_expr, x_doc, x_pas, x_cont, x_brk, x_ret, x_retN, x_ite, x_set, x_asg, x_sub, x_for, x_raise, x_sfld, x_nev, x_while, x_var, x_int, x_str, x_bl, x_non, x_con, x_tup, x_lst, x_bin, x_neg, x_notv, x_nott, x_andv, x_andt, x_orv, x_ort, x_cmpv, x_cmpt, x_chnv, x_chnt, x_ife, x_ix, x_sl, x_isi, x_isis, x_iso, x_tyiv, x_tyit, x_fld, x_mcl, x_new, x_blt, x_tlt, x_mth, x_call, x_how, x_dl, x_rp, x_lc, t_var, t_int, t_str, t_bl, t_non, t_con, t_tup, t_lst, t_bin, t_neg, t_ix, t_sl, t_isi, t_isis, t_iso, t_fld, t_mcl, t_new, t_blt, t_tlt, t_mth, t_call, t_how, t_lc, x_l0, x_l1, x_l2, x_av1, x_av2, x_ov1, x_ov2, x_at1, x_at2, x_ot1, x_ot2, x_p0, x_p1, x_o0, x_o1, x_seq, x_rng1, x_rng2, x_zip, sizeLine_eq, iL_len, setAll, setTg, wipeD, initS, ↓to_lb, ↓to_evl, ↓to_itl, lb_val, lb_exc, lb_none, itl_t, itl_f, evl_val, evl_none, evl_lb, bt]; try simp only [of_lb, of_evl, of_itl])
          refine ⟨.nev (ws ++ [1]), _, ⟨rfl, rfl⟩, ⟨by simp; omega, fun y hy => ?_, _, okw.1, okw.2, .inl rfl⟩, hp.mono (by omega)⟩
          rcases List.mem_cons.mp hy with rfl | hy
          · omega
          · obtain ⟨z, hz, rfl⟩ := List.mem_map.mp hy
            have := hb z (List.mem_cons_of_mem _ hz)
            omega
        · (simp -implicitDefEqProofs [x_nil, x_cons, x_expr, x_doc, x_pas, x_cont, x_brk, x_ret, x_retN, x_ite, x_set, x_asg, x_sub, x_for, x_raise, x_sfld, x_nev, x_while, x_var, x_int, x_str, x_bl, x_non, x_con, x_tup, x_lst, x_bin, x_neg, x_notv, x_nott, x_andv, x_andt, x_orv, x_ort, x_cmpv, x_cmpt, x_chnv, x_chnt, x_ife, x_ix, x_sl, x_isi, x_isis, x_iso, x_tyiv, x_tyit, x_fld, x_mcl, x_new, x_blt, x_tlt, x_mth, x_call, x_how, x_dl, x_rp, x_lc, t_var, t_int, t_str, t_bl, t_non, t_con, t_tup, t_lst, t_bin, t_neg, t_ix, t_sl, t_isi, t_isis, t_iso, t_fld, t_mcl, t_new, t_blt, t_tlt, t_mth, t_call, t_how, t_lc, x_l0, x_l1, x_l2, x_av1, x_av2, x_ov1, x_ov2, x_at1, x_at2, x_ot1, x_ot2, x_p0, x_p1, x_o0, x_o1, x_seq, x_rng1, x_rng2, x_zip, sizeLine_eq, iL_len, setAll, setTg, wipeD, initS, ↓to_lb, ↓to_evl, ↓to_itl, lb_val, lb_exc, lb_none, itl_t, itl_f, evl_val, evl_none, evl_lb, c]; try simp only [of_lb, of_evl, of_itl])
          rw [lcD_map (F := fun d => match d with | .tup [.int u, .int v] => .int ((1 + r1) * u - v) | _ => .non) (items := zipD (iL goal) (iL (x :: r))) (g := [])]
          · rw [mapZip _ (fun u v => (1 + r1) * u - v) fun _ _ => rfl]
            cases goal with
            | nil => exact absurd rfl g0
            | cons y g =>
              have mv : ∀ u ∈ y :: g, ∀ v ∈ x :: r, ((1 + r1) * u - v).natAbs ≤ 200 := by
                intro u hu v hv
                have i1 := gb u hu
                have i2 := hb v hv
                have hr3 : r1 = 0 ∨ r1 = 1 ∨ r1 = 2 := by omega
                rcases hr3 with rfl | rfl | rfl <;> omega
              rw [List.zipWith_cons_cons]
              simp only [List.length_cons] at ha gL
              have bt := binD_tup false cs5 [D.int ((1 + r1) * y - x - (r2 - (1 + r1) - 1))] (iL (List.zipWith (fun u v => (1 + r1) * u - v) g r)) (by rw [iL_len, List.length_zipWith]; simp [sizeLine]; omega)
              have bt2 : [D.int ((1 + r1) * y - x - (r2 - (1 + r1) - 1))] ++ iL (List.zipWith (fun u v => (1 + r1) * u - v) g r) = iL (((1 + r1) * y - x - (r2 - (1 + r1) - 1)) :: List.zipWith (fun u v => (1 + r1) * u - v) g r) := rfl
              rw [bt2] at bt
              (simp -implicitDefEqProofs [x_nil, x_cons, x_expr, x_doc, x_pas, x_cont, x_brk, x_ret, x_retN, x_ite, x_set, x_asg, x_sub, x_for, x_raise, x_sfld, x_nev, x_while, x_var, x_int, x_str, x_bl, x_non, x_con, x_tup, x_lst, x_bin, x_neg, x_notv, x_nott, x_andv, x_andt, x_orv, x_ort, x_cmpv, x_cmpt, x_chnv, x_chnt, x_ife, x_ix, x_sl, x_isi, x_isis, x_iso, x_tyiv, x_tyit, x_fld, x_mcl, x_new, x_blt, x_tlt, x_mth, x_call, x_how, x_dl, x_rp, x_lc, t_var, t_int, t_str, t_bl, t_non, t_con, t_tup, t_lst, t_bin, t_neg, t_ix, t_sl, t_isi, t_isis, t_iso, t_fld, t_mcl, t_new, t_blt, t_tlt, t_mth, t_call, t_how, t_lc, x_l0, x_l1, x_l2, x_av1, x_av2, x_ov1, x_ov2, x_at1, x_at2, x_ot1, x_ot2, x_p0, x_p1, x_o0, x_o1, x_seq, x_rng1, x_rng2, x_zip, sizeLine_eq, iL_len, setAll, setTg, wipeD, initS, ↓to_lb, ↓to_evl, ↓to_itl, lb_val, lb_exc, lb_none, itl_t, itl_f, evl_val, evl_none, evl_lb, bw, bt]; try simp only [of_lb, of_evl, of_itl])
              refine ⟨.sum (1 + r1) (ws ++ [1]), _, ⟨rfl, rfl⟩, ⟨by simp; omega, fun z hz => ?_, _, okw.1, okw.2, .inr ⟨1 + r1, by omega, by omega, rfl⟩⟩, hp.mono (by omega)⟩
              rcases List.mem_cons.mp hz with rfl | hz
              · have := mv y List.mem_cons_self x List.mem_cons_self
                omega
              · obtain ⟨u, v, hu, hv, rfl⟩ := zipW_mem _ _ _ _ hz
                have := mv u (List.mem_cons_of_mem _ hu) v (List.mem_cons_of_mem _ hv)
                omega
          · (simp -implicitDefEqProofs [x_nil, x_cons, x_expr, x_doc, x_pas, x_cont, x_brk, x_ret, x_retN, x_ite, x_set, x_asg, x_sub, x_for, x_raise, x_sfld, x_nev, x_while, x_var, x_int, x_str, x_bl, x_non, x_con, x_tup, x_lst, x_bin, x_neg, x_notv, x_nott, x_andv, x_andt, x_orv, x_ort, x_cmpv, x_cmpt, x_chnv, x_chnt, x_ife, x_ix, x_sl, x_isi, x_isis, x_iso, x_tyiv, x_tyit, x_fld, x_mcl, x_new, x_blt, x_tlt, x_mth, x_call, x_how, x_dl, x_rp, x_lc, t_var, t_int, t_str, t_bl, t_non, t_con, t_tup, t_lst, t_bin, t_neg, t_ix, t_sl, t_isi, t_isis, t_iso, t_fld, t_mcl, t_new, t_blt, t_tlt, t_mth, t_call, t_how, t_lc, x_l0, x_l1, x_l2, x_av1, x_av2, x_ov1, x_ov2, x_at1, x_at2, x_ot1, x_ot2, x_p0, x_p1, x_o0, x_o1, x_seq, x_rng1, x_rng2, x_zip, sizeLine_eq, iL_len, setAll, setTg, wipeD, initS, ↓to_lb, ↓to_evl, ↓to_itl, lb_val, lb_exc, lb_none, itl_t, itl_f, evl_val, evl_none, evl_lb]; try simp only [of_lb, of_evl, of_itl])
          · exact grdN _
          · rw [zip_iL]; simp [sizeLine]; omega
          · intro y hy
            rw [zip_iL] at hy
            obtain ⟨⟨u, v⟩, huv, rfl⟩ := List.mem_map.mp hy
            (simp -implicitDefEqProofs [x_nil, x_cons, x_expr, x_doc, x_pas, x_cont, x_brk, x_ret, x_retN, x_ite, x_set, x_asg, x_sub, x_for, x_raise, x_sfld, x_nev, x_while, x_var, x_int, x_str, x_bl, x_non, x_con, x_tup, x_lst, x_bin, x_neg, x_notv, x_nott, x_andv, x_andt, x_orv, x_ort, x_cmpv, x_cmpt, x_chnv, x_chnt, x_ife, x_ix, x_sl, x_isi, x_isis, x_iso, x_tyiv, x_tyit, x_fld, x_mcl, x_new, x_blt, x_tlt, x_mth, x_call, x_how, x_dl, x_rp, x_lc, t_var, t_int, t_str, t_bl, t_non, t_con, t_tup, t_lst, t_bin, t_neg, t_ix, t_sl, t_isi, t_isis, t_iso, t_fld, t_mcl, t_new, t_blt, t_tlt, t_mth, t_call, t_how, t_lc, x_l0, x_l1, x_l2, x_av1, x_av2, x_ov1, x_ov2, x_at1, x_at2, x_ot1, x_ot2, x_p0, x_p1, x_o0, x_o1, x_seq, x_rng1, x_rng2, x_zip, sizeLine_eq, iL_len, setAll, setTg, wipeD, initS, ↓to_lb, ↓to_evl, ↓to_itl, lb_val, lb_exc, lb_none, itl_t, itl_f, evl_val, evl_none, evl_lb, mulL false cs5 (1 + r1) u (by omega)]; try simp only [of_lb, of_evl, of_itl])
    · refine ⟨rfl, zeros goal.length, _, _, rfl, by simp [zeros], fun x hx => ?_, ?_, fun p hp => ?_⟩
      · have := (List.mem_replicate.mp hx).2
        omega
      · rw [List.length_zip]; omega
      · obtain ⟨p1, p2⟩ := List.of_mem_zip hp
        exact ⟨F.len _ p2, F.btw _ p2, hw _ p1⟩
end
end EV

namespace EV
open PySem PySem.Spec PyProof.Rows L2 ZG
theorem ev_lcS {own : Bool} {t : Tg} {vs : List Nat} {src : Slots → Cells → RsG ItD} {p : Slots → Cells → RsG Bool} {f : Slots → Cells → Rs} {sl : Slots} {cs : Cells} {Q : D → Cells → Prop} (h : Ev (src sl cs) fun it cs' => Ev (lcD own t vs (fun _ cs => some (.val it, cs)) p f sl cs') Q) : Ev (lcD own t vs src p f sl cs) Q := by
  obtain ⟨it, cs', e, q⟩ := h
  unfold lcD at q ⊢
  rw [e, bind_val]
  exact q
theorem ev_ds {t : Tg} {body : Slots → Cells → RsS} {Q : Fl × Slots → Cells → Prop} (I : List D → Slots → Cells → Prop)
    (hs : ∀ x r sl cs, I (x :: r) sl cs → ∃ sl', setTg t x sl = some sl' ∧ Ev (body sl' cs) (Turn (I r) Q)) (he : ∀ sl cs, I [] sl cs → Q (.nx, sl) cs)
    (l : List D) (sl : Slots) (cs : Cells) (h : I l sl cs) : Ev (forLoop t body [] l sl cs) Q := by
  have := ev_items (fun d : D => d) I hs he l sl cs h
  rwa [List.map_id'] at this
theorem ev_addT {a b : List D} {cs : Cells} {Q : D → Cells → Prop} (h : a.length + b.length ≤ sizeLine) (q : Q (.tup (a ++ b)) cs) : Ev (binD false .Add (.tup a) (.tup b) cs) Q := by
  rw [binD_tup false cs a b h, ev_val]
  exact q
theorem ev_addL {a b : List D} {cs : Cells} {Q : D → Cells → Prop} (h : a.length + b.length ≤ sizeLine) (q : Q (.lst (a ++ b)) cs) : Ev (binD false .Add (.lst a) (.lst b) cs) Q := by
  rw [binD_lst cs a b h, ev_val]
  exact q
theorem ev_src {a : List D} {cs : Cells} {Q : ItD → Cells → Prop} (q : Q ⟨a, []⟩ cs) : Ev (srcSeq (.lst a) cs) Q := by
  have e : srcSeq (.lst a) cs = some (.val ⟨a, []⟩, cs) := rfl
  rw [e, ev_val]
  exact q
structure L21 (s : List Int) (j : Nat) (sl : Slots) (cs : Cells) : Prop where
  ex : ∃ o1 o2 o3 o4 o5 o6 o7 o8 o9 o10 o11 o12 o13 o14 o15 o16 o17 : Option D, sl = [some (.frz (iL s)), o1, o2, o3, o4, o5, o6, o7, o8, o9, o10, o11, o12, o13, o14, o15, o16, o17]
  cl : cs.all (cleanC 0) = true
structure L21a (s : List Int) (c p : Nat) (pre : Cells) (k : Nat) (goal : List Int) (hs : List (List Int)) (j : Nat) (sl : Slots) (cs : Cells) : Prop where
  ex : ∃ o6 o7 o8 o9 o10 o11 o12 o13 o14 o15 o16 o17 : Option D, sl = [some (.frz (iL s)), some (.int c), some (.ref p), some (.int goal.length), some (.tup (iL goal)), some (.lst (hD hs)), o6, o7, o8, o9, o10, o11, o12, o13, o14, o15, o16, o17]
  ps : PS pre [] (k + 30 * j) cs
structure L21b (s : List Int) (c p : Nat) (goal : List Int) (hs : List (List Int)) (more : List Int) (cs : Cells) (l : List D) (sl : Slots) (cs' : Cells) : Prop where
  same : cs' = cs
  ex : ∃ o6 o7 o9 o10 o11 o12 o13 o14 o15 o16 o17 : Option D, sl = [some (.frz (iL s)), some (.int c), some (.ref p), some (.int goal.length), some (.tup (iL goal)), some (.lst (hD hs)), o6, o7, some (.tup (iL more)), o9, o10, o11, o12, o13, o14, o15, o16, o17]
  all : ∀ d ∈ l, kd 3 d = true ∧ dw d ≤ 1000
theorem kdw_all {l : List D} (h : ∀ d ∈ l, kd 3 d = true ∧ dw d ≤ 1000) : ∀ d ∈ l, kd 3 d = true ∧ dw d ≤ 1000 := h
theorem dw_hD (hs : List (List Int)) (N : Nat) (h : ∀ f ∈ hs, f.length ≤ N) : dwA (hD hs) ≤ (N + 1) * hs.length := by
  induction hs with
  | nil => simp [hD, dwA]
  | cons f hs ih =>
    have e : hD (f :: hs) = D.tup (iL f) :: hD hs := rfl
    have z : dw (.tup (iL f)) = f.length := by simp [dw, dw_iL]
    have := h f List.mem_cons_self
    have := ih fun g hg => h g (List.mem_cons_of_mem _ hg)
    rw [e, dwA, z, List.length_cons, Nat.mul_add]
    omega
theorem kd_hD {hs : List (List Int)} {n : Nat} (h : ∀ f ∈ hs, f.length ≤ 1000 ∧ ∀ x ∈ f, x.natAbs < 2 ^ 200) : ∀ d ∈ hD hs, kd (n + 1) d = true := by
  intro d hd
  obtain ⟨f, hf, rfl⟩ := List.mem_map.mp hd
  exact kd_mkT (by rw [iL_len]; exact (h f hf).1) (kd_iL (h f hf).2)
theorem p200 {k : Int} (h : k.natAbs ≤ 1000) : k.natAbs < 2 ^ 200 := Nat.lt_of_le_of_lt h (by decide)
theorem p300 {k : Int} (h : k.natAbs ≤ 1000) : k.natAbs < 2 ^ 300 := Nat.lt_of_lt_of_le (p200 h) (Nat.pow_le_pow_right (by decide) (by decide))
theorem kT1 {n : Nat} {a : D} (ha : kd n a = true) : kd (n + 1) (.tup [a]) = true := by simp [kd, ha]
theorem kT2 {n : Nat} {a b : D} (ha : kd n a = true) (hb : kd n b = true) : kd (n + 1) (.tup [a, b]) = true := by simp [kd, ha, hb]
theorem kT3 {n : Nat} {a b c : D} (ha : kd n a = true) (hb : kd n b = true) (hc : kd n c = true) : kd (n + 1) (.tup [a, b, c]) = true := by simp [kd, ha, hb, hc]
theorem kT4 {n : Nat} {a b c d : D} (ha : kd n a = true) (hb : kd n b = true) (hc : kd n c = true) (hd : kd n d = true) : kd (n + 1) (.tup [a, b, c, d]) = true := by simp [kd, ha, hb, hc, hd]
theorem kL2 {n : Nat} {a b : D} (ha : kd n a = true) (hb : kd n b = true) : kd (n + 1) (.lst [a, b]) = true := by simp [kd, ha, hb]
theorem kL3 {n : Nat} {a b c : D} (ha : kd n a = true) (hb : kd n b = true) (hc : kd n c = true) : kd (n + 1) (.lst [a, b, c]) = true := by simp [kd, ha, hb, hc]
theorem kS {n : Nat} {x : Str} (h : PyData.strOk x = true) : kd n (.str x) = true := by cases n <;> simpa [kd] using h
theorem kI {n : Nat} {i : Int} (h : i.natAbs ≤ 1000) : kd n (.int i) = true := by
  have := p200 h
  cases n <;> simpa [kd] using this
theorem kLi {n : Nat} {l : List Int} (hl : l.length ≤ 1000) (h : ∀ x ∈ l, x.natAbs ≤ 1000) : kd (n + 1) (.lst (iL l)) = true := kd_mkL (by rw [iL_len]; exact hl) (kd_iL fun x hx => p200 (h x hx))
theorem kTi {n : Nat} {l : List Int} (hl : l.length ≤ 1000) (h : ∀ x ∈ l, x.natAbs ≤ 1000) : kd (n + 1) (.tup (iL l)) = true := kd_mkT (by rw [iL_len]; exact hl) (kd_iL fun x hx => p200 (h x hx))
theorem z_sum : dw (.str "sum") = 3 := by decide +kernel
theorem z_nev : dw (.str "never") = 5 := by decide +kernel
theorem z_T (ds : List D) : dw (.tup ds) = dwA ds := by simp [dw]
theorem z_L (ds : List D) : dw (.lst ds) = dwA ds := by simp [dw]
theorem z_I (i : Int) : dw (.int i) = 0 := by simp [dw]
theorem z_n : dwA [] = 0 := by simp [dwA]
theorem z_c (d : D) (ds : List D) : dwA (d :: ds) = dw d + 1 + dwA ds := by simp [dwA]
section
variable (n : Nat)
theorem things_ {s : List Int} {j p : Nat} {goal more : List Int} {hs : List (List Int)} {cs : Cells} {Q : Fl × Slots → Cells → Prop} (hc : cs.all (cleanC 0) = true) (g0 : goal ≠ []) (gL : goal.length ≤ 10) (gb : Between (-5) 5 goal) (F : Fs goal.length 5 hs) (hl : hs.length ≤ 10) (ml : more.length = goal.length) (mb : ∀ x ∈ more, x.natAbs ≤ 1000) (ts : List D) (ht : ∀ d ∈ ts, kd 3 d = true ∧ dw d ≤ 1000)
    {o6 o7 o9 o10 o11 o12 o13 o14 o15 o16 o17 : Option D} (hq : ∀ o6 o7 o9 o10 o11 o12 o13 o14 o15 o16 o17, Q (.nx, [some (.frz (iL s)), some (.int j), some (.ref p), some (.int goal.length), some (.tup (iL goal)), some (.lst (hD hs)), o6, o7, some (.tup (iL more)), o9, o10, o11, o12, o13, o14, o15, o16, o17]) cs) :
    Ev (forLoop (.nm 13) (rns (TB (n+19)) (.cons (.set 15 (.call 16 (.cons (.var 13) (.cons (.bin false .Add (.var 5) (.lst false (.cons (.var 8) .nil))) (.cons (.lst false .nil) (.cons (.var 4) (.cons (.int 10) .nil))))))) (.cons (.set 16 (.rp (.lst false (.cons (.var 13) (.cons (.var 5) (.cons (.var 8) .nil)))))) (.cons (.set 17 (.call 6 (.cons (.var 13) (.cons (.bin false .Add (.var 5) (.lst false (.cons (.var 8) .nil))) (.cons (.lst false .nil) (.cons (.var 4) .nil)))))) (.cons (.ite (.or (.cons (.not (.isi (.var 17) "bool")) (.cons (.cmp .NotEq (.var 17) (.var 15)) (.cons (.cmp .NotEq (.rp (.lst false (.cons (.var 13) (.cons (.var 5) (.cons (.var 8) .nil))))) (.var 16)) .nil)))) (.cons (.ret (.bl false)) .nil) .nil) .nil))))) [] ts [some (.frz (iL s)), some (.int j), some (.ref p), some (.int goal.length), some (.tup (iL goal)), some (.lst (hD hs)), o6, o7, some (.tup (iL more)), o9, o10, o11, o12, o13, o14, o15, o16, o17] cs) Q := by
  have hb : ∀ f ∈ hs, f.length ≤ 1000 ∧ ∀ x ∈ f, x.natAbs < 2 ^ 200 := fun f hf => ⟨by rw [F.len f hf]; omega, fun x hx => p200 (by have := F.btw f hf x hx; omega)⟩
  have b1 := binD_lst cs (hD hs) [D.tup (iL more)] (by simp [hD, sizeLine]; omega)
  rw [hD_app] at b1
  have hh : ∀ h ∈ hs ++ [more], h.length = goal.length ∧ BndF 300 h := all_app (fun h hm => ⟨F.len h hm, fun x hx => p300 (by have := F.btw h hm x hx; omega)⟩) ⟨ml, fun x hx => p300 (mb x hx)⟩
  have gB : BndF 300 goal := fun x hx => p300 (by have := gb x hx; omega)
  refine ev_ds (L21b s j p goal hs more cs) ?_ ?_ ts _ cs ⟨rfl, ⟨_, _, _, _, _, _, _, _, _, _, _, rfl⟩, ht⟩
  · rintro d r sl cs1 ⟨rfl, ⟨o6, o7, o9, o10, o11, o12, o13, o14, o15, o16, o17, rfl⟩, hall⟩
    refine ⟨_, rfl, ?_⟩
    obtain ⟨kd3, dwd⟩ := hall d List.mem_cons_self
    have A : SM (n+19) i__law_shows [d, .lst (hD (hs ++ [more])), .lst [], .tup (iL goal), .int 10] cs1 = _ := law_shows_ (n+5) cs1 (un := []) g0 (by omega) gB (fun u hu => nomatch hu) 10 (hs ++ [more]) 3 d kd3 (by omega) hh (by simp; omega)
    have B : SM (n+19) i_shows [d, .lst (hD (hs ++ [more])), .lst [], .tup (iL goal)] cs1 = _ := shows_ n cs1 (un := []) hc g0 (by omega) gB (fun u hu => nomatch hu) kd3 (by omega) hh (by simp; omega)
    obtain ⟨t, R⟩ := rep_ok (n := 4) (d := .lst [d, .lst (hD hs), .tup (iL more)]) (kd_mkL (by simp) fun x hx => by
      simp only [List.mem_cons, List.not_mem_nil, or_false] at hx
      rcases hx with rfl | rfl | rfl
      · exact kd3
      · exact kd_mkL (by rw [hD_len]; omega) (kd_hD hb)
      · exact kd_mkT (by rw [iL_len]; omega) (kd_iL fun x hx => p200 (mb x hx))) (by omega) (by
      have := dw_hD hs 10 (fun f hf => by rw [F.len f hf]; omega)
      have e1 : dw (.lst (hD hs)) = dwA (hD hs) := by simp [dw]
      have e2 : dw (.tup (iL more)) = more.length := by simp [dw, dw_iL]
      simp only [dw, dwA] at e1 e2 ⊢
      have : (10 + 1) * hs.length ≤ 11 * 10 := Nat.mul_le_mul_left _ hl
      rw [dw_iL]
      omega)
    (simp -implicitDefEqProofs [x_nil, x_cons, x_expr, x_doc, x_pas, x_cont, x_brk, x_ret, x_retN, x_ite, x_set, x_asg, x_sub, x_for, x_raise, x_sfld, x_nev, x_while, x_var, x_int, x_str, x_bl, x_non, x_con, x_tup, x_lst, x_bin, x_neg, x_notv, x_nott, x_andv, x_andt, x_orv, x_ort, x_cmpv, x_cmpt, x_chnv, x_chnt, x_ife, x_ix, x_sl, x_isi, x_isis, x_iso, x_tyiv, x_tyit, x_fld, x_mcl, x_new, x_blt, x_tlt, x_mth, x_call, x_how, x_dl, x_rp, x_lc, t_var, t_int, t_str, t_bl, t_non, t_con, t_tup, t_lst, t_bin, t_neg, t_ix, t_sl, t_isi, t_isis, t_iso, t_fld, t_mcl, t_new, t_blt, t_tlt, t_mth, t_call, t_how, t_lc, x_l0, x_l1, x_l2, x_av1, x_av2, x_ov1, x_ov2, x_at1, x_at2, x_ot1, x_ot2, x_p0, x_p1, x_o0, x_o1, x_seq, x_rng1, x_rng2, x_zip, sizeLine_eq, iL_len, setAll, setTg, wipeD, initS, ↓to_lb, ↓to_evl, ↓to_itl, lb_val, lb_exc, lb_none, itl_t, itl_f, evl_val, evl_none, evl_lb, b1, A, R, B, isTy, ne_str]; try simp only [of_lb, of_evl, of_itl])
    refine turn_nx (I := L21b s j p goal hs more cs1 r) ?_
    exact ⟨rfl, ⟨_, _, _, _, _, _, _, _, _, _, _, rfl⟩, fun x hx => hall x (List.mem_cons_of_mem _ hx)⟩
  · rintro sl cs1 ⟨rfl, ⟨o6, o7, o9, o10, o11, o12, o13, o14, o15, o16, o17, rfl⟩, _⟩
    exact hq _ _ _ _ _ _ _ _ _ _ _
theorem law_ (s : List Int) : Ev (LW (n+19) [.frz (iL s)] []) fun d _ => d = .bl true := by
  rw [e_law, b_law]
  (simp -implicitDefEqProofs [x_nil, x_cons, x_expr, x_doc, x_pas, x_cont, x_brk, x_ret, x_retN, x_ite, x_set, x_asg, x_sub, x_for, x_raise, x_sfld, x_nev, x_while, x_var, x_int, x_str, x_bl, x_non, x_con, x_tup, x_lst, x_bin, x_neg, x_notv, x_nott, x_andv, x_andt, x_orv, x_ort, x_cmpv, x_cmpt, x_chnv, x_chnt, x_ife, x_ix, x_sl, x_isi, x_isis, x_iso, x_tyiv, x_tyit, x_fld, x_mcl, x_new, x_blt, x_tlt, x_mth, x_call, x_how, x_dl, x_rp, x_lc, t_var, t_int, t_str, t_bl, t_non, t_con, t_tup, t_lst, t_bin, t_neg, t_ix, t_sl, t_isi, t_isis, t_iso, t_fld, t_mcl, t_new, t_blt, t_tlt, t_mth, t_call, t_how, t_lc, x_l0, x_l1, x_l2, x_av1, x_av2, x_ov1, x_ov2, x_at1, x_at2, x_ot1, x_ot2, x_p0, x_p1, x_o0, x_o1, x_seq, x_rng1, x_rng2, x_zip, sizeLine_eq, iL_len, setAll, setTg, wipeD, initS, ↓to_lb, ↓to_evl, ↓to_itl, lb_val, lb_exc, lb_none, itl_t, itl_f, evl_val, evl_none, evl_lb, srcRng1_int (max 1 (min (s.length : Int) 6)) (by omega)]; try simp only [of_lb, of_evl, of_itl])
  refine ev_rng (lo := 0) _ (L21 s) ⟨⟨_, _, _, _, _, _, _, _, _, _, _, _, _, _, _, _, _, rfl⟩, rfl⟩ ?_ ?_
  · rintro j sl cs hj ⟨⟨o1, o2, o3, o4, o5, o6, o7, o8, o9, o10, o11, o12, o13, o14, o15, o16, o17, rfl⟩, hcl⟩
    try (simp -implicitDefEqProofs [x_nil, x_cons, x_expr, x_doc, x_pas, x_cont, x_brk, x_ret, x_retN, x_ite, x_set, x_asg, x_sub, x_for, x_raise, x_sfld, x_nev, x_while, x_var, x_int, x_str, x_bl, x_non, x_con, x_tup, x_lst, x_bin, x_neg, x_notv, x_nott, x_andv, x_andt, x_orv, x_ort, x_cmpv, x_cmpt, x_chnv, x_chnt, x_ife, x_ix, x_sl, x_isi, x_isis, x_iso, x_tyiv, x_tyit, x_fld, x_mcl, x_new, x_blt, x_tlt, x_mth, x_call, x_how, x_dl, x_rp, x_lc, t_var, t_int, t_str, t_bl, t_non, t_con, t_tup, t_lst, t_bin, t_neg, t_ix, t_sl, t_isi, t_isis, t_iso, t_fld, t_mcl, t_new, t_blt, t_tlt, t_mth, t_call, t_how, t_lc, x_l0, x_l1, x_l2, x_av1, x_av2, x_ov1, x_ov2, x_at1, x_at2, x_ot1, x_ot2, x_p0, x_p1, x_o0, x_o1, x_seq, x_rng1, x_rng2, x_zip, sizeLine_eq, iL_len, setAll, setTg, wipeD, initS, ↓to_lb, ↓to_evl, ↓to_itl, lb_val, lb_exc, lb_none, itl_t, itl_f, evl_val, evl_none, evl_lb]; try simp only [of_lb, of_evl, of_itl])
    refine Ev.imp (purse_ (n+18) s j (by omega) cs hcl) ?_
    rintro _ cs1 ⟨rfl, hp⟩
    try (simp -implicitDefEqProofs [x_nil, x_cons, x_expr, x_doc, x_pas, x_cont, x_brk, x_ret, x_retN, x_ite, x_set, x_asg, x_sub, x_for, x_raise, x_sfld, x_nev, x_while, x_var, x_int, x_str, x_bl, x_non, x_con, x_tup, x_lst, x_bin, x_neg, x_notv, x_nott, x_andv, x_andt, x_orv, x_ort, x_cmpv, x_cmpt, x_chnv, x_chnt, x_ife, x_ix, x_sl, x_isi, x_isis, x_iso, x_tyiv, x_tyit, x_fld, x_mcl, x_new, x_blt, x_tlt, x_mth, x_call, x_how, x_dl, x_rp, x_lc, t_var, t_int, t_str, t_bl, t_non, t_con, t_tup, t_lst, t_bin, t_neg, t_ix, t_sl, t_isi, t_isis, t_iso, t_fld, t_mcl, t_new, t_blt, t_tlt, t_mth, t_call, t_how, t_lc, x_l0, x_l1, x_l2, x_av1, x_av2, x_ov1, x_ov2, x_at1, x_at2, x_ot1, x_ot2, x_p0, x_p1, x_o0, x_o1, x_seq, x_rng1, x_rng2, x_zip, sizeLine_eq, iL_len, setAll, setTg, wipeD, initS, ↓to_lb, ↓to_evl, ↓to_itl, lb_val, lb_exc, lb_none, itl_t, itl_f, evl_val, evl_none, evl_lb]; try simp only [of_lb, of_evl, of_itl])
    refine Ev.imp (take_ (n+18) hp (by omega) (by decide) (by decide)) ?_
    rintro _ cs2 ⟨r1, rfl, a1, a2, hp⟩
    obtain ⟨L, hL⟩ : ∃ L : Nat, 2 + r1 = (L : Int) := ⟨(2 + r1).toNat, by omega⟩
    have L1 : 2 ≤ L ∧ L ≤ 5 := by omega
    (simp -implicitDefEqProofs [x_nil, x_cons, x_expr, x_doc, x_pas, x_cont, x_brk, x_ret, x_retN, x_ite, x_set, x_asg, x_sub, x_for, x_raise, x_sfld, x_nev, x_while, x_var, x_int, x_str, x_bl, x_non, x_con, x_tup, x_lst, x_bin, x_neg, x_notv, x_nott, x_andv, x_andt, x_orv, x_ort, x_cmpv, x_cmpt, x_chnv, x_chnt, x_ife, x_ix, x_sl, x_isi, x_isis, x_iso, x_tyiv, x_tyit, x_fld, x_mcl, x_new, x_blt, x_tlt, x_mth, x_call, x_how, x_dl, x_rp, x_lc, t_var, t_int, t_str, t_bl, t_non, t_con, t_tup, t_lst, t_bin, t_neg, t_ix, t_sl, t_isi, t_isis, t_iso, t_fld, t_mcl, t_new, t_blt, t_tlt, t_mth, t_call, t_how, t_lc, x_l0, x_l1, x_l2, x_av1, x_av2, x_ov1, x_ov2, x_at1, x_at2, x_ot1, x_ot2, x_p0, x_p1, x_o0, x_o1, x_seq, x_rng1, x_rng2, x_zip, sizeLine_eq, iL_len, setAll, setTg, wipeD, initS, ↓to_lb, ↓to_evl, ↓to_itl, lb_val, lb_exc, lb_none, itl_t, itl_f, evl_val, evl_none, evl_lb, hL]; try simp only [of_lb, of_evl, of_itl])
    refine Ev.imp (form_ (n+17) hp (many := L) (most := 5) (by omega) (by omega) (by decide) (by decide)) ?_
    rintro _ cs3 ⟨goal, rfl, g1, g2, hp⟩
    try (simp -implicitDefEqProofs [x_nil, x_cons, x_expr, x_doc, x_pas, x_cont, x_brk, x_ret, x_retN, x_ite, x_set, x_asg, x_sub, x_for, x_raise, x_sfld, x_nev, x_while, x_var, x_int, x_str, x_bl, x_non, x_con, x_tup, x_lst, x_bin, x_neg, x_notv, x_nott, x_andv, x_andt, x_orv, x_ort, x_cmpv, x_cmpt, x_chnv, x_chnt, x_ife, x_ix, x_sl, x_isi, x_isis, x_iso, x_tyiv, x_tyit, x_fld, x_mcl, x_new, x_blt, x_tlt, x_mth, x_call, x_how, x_dl, x_rp, x_lc, t_var, t_int, t_str, t_bl, t_non, t_con, t_tup, t_lst, t_bin, t_neg, t_ix, t_sl, t_isi, t_isis, t_iso, t_fld, t_mcl, t_new, t_blt, t_tlt, t_mth, t_call, t_how, t_lc, x_l0, x_l1, x_l2, x_av1, x_av2, x_ov1, x_ov2, x_at1, x_at2, x_ot1, x_ot2, x_p0, x_p1, x_o0, x_o1, x_seq, x_rng1, x_rng2, x_zip, sizeLine_eq, iL_len, setAll, setTg, wipeD, initS, ↓to_lb, ↓to_evl, ↓to_itl, lb_val, lb_exc, lb_none, itl_t, itl_f, evl_val, evl_none, evl_lb]; try simp only [of_lb, of_evl, of_itl])
    subst g1
    have g0 : goal ≠ [] := by
      rintro rfl
      simp at L1
    refine ev_lcS ?_
    (simp -implicitDefEqProofs [x_nil, x_cons, x_expr, x_doc, x_pas, x_cont, x_brk, x_ret, x_retN, x_ite, x_set, x_asg, x_sub, x_for, x_raise, x_sfld, x_nev, x_while, x_var, x_int, x_str, x_bl, x_non, x_con, x_tup, x_lst, x_bin, x_neg, x_notv, x_nott, x_andv, x_andt, x_orv, x_ort, x_cmpv, x_cmpt, x_chnv, x_chnt, x_ife, x_ix, x_sl, x_isi, x_isis, x_iso, x_tyiv, x_tyit, x_fld, x_mcl, x_new, x_blt, x_tlt, x_mth, x_call, x_how, x_dl, x_rp, x_lc, t_var, t_int, t_str, t_bl, t_non, t_con, t_tup, t_lst, t_bin, t_neg, t_ix, t_sl, t_isi, t_isis, t_iso, t_fld, t_mcl, t_new, t_blt, t_tlt, t_mth, t_call, t_how, t_lc, x_l0, x_l1, x_l2, x_av1, x_av2, x_ov1, x_ov2, x_at1, x_at2, x_ot1, x_ot2, x_p0, x_p1, x_o0, x_o1, x_seq, x_rng1, x_rng2, x_zip, sizeLine_eq, iL_len, setAll, setTg, wipeD, initS, ↓to_lb, ↓to_evl, ↓to_itl, lb_val, lb_exc, lb_none, itl_t, itl_f, evl_val, evl_none, evl_lb]; try simp only [of_lb, of_evl, of_itl])
    refine Ev.imp (take_ (n+18) hp (by omega) (by decide) (by decide)) ?_
    rintro _ cs4 ⟨r2, rfl, b1, b2, hp⟩
    obtain ⟨H, hH⟩ : ∃ L : Nat, r2 = (L : Int) := ⟨r2.toNat, by omega⟩
    subst hH
    have k1 : 3 * goal.length * H ≤ 3 * 5 * 4 := Nat.mul_le_mul (by omega) (by omega)
    (simp -implicitDefEqProofs [x_nil, x_cons, x_expr, x_doc, x_pas, x_cont, x_brk, x_ret, x_retN, x_ite, x_set, x_asg, x_sub, x_for, x_raise, x_sfld, x_nev, x_while, x_var, x_int, x_str, x_bl, x_non, x_con, x_tup, x_lst, x_bin, x_neg, x_notv, x_nott, x_andv, x_andt, x_orv, x_ort, x_cmpv, x_cmpt, x_chnv, x_chnt, x_ife, x_ix, x_sl, x_isi, x_isis, x_iso, x_tyiv, x_tyit, x_fld, x_mcl, x_new, x_blt, x_tlt, x_mth, x_call, x_how, x_dl, x_rp, x_lc, t_var, t_int, t_str, t_bl, t_non, t_con, t_tup, t_lst, t_bin, t_neg, t_ix, t_sl, t_isi, t_isis, t_iso, t_fld, t_mcl, t_new, t_blt, t_tlt, t_mth, t_call, t_how, t_lc, x_l0, x_l1, x_l2, x_av1, x_av2, x_ov1, x_ov2, x_at1, x_at2, x_ot1, x_ot2, x_p0, x_p1, x_o0, x_o1, x_seq, x_rng1, x_rng2, x_zip, sizeLine_eq, iL_len, setAll, setTg, wipeD, initS, ↓to_lb, ↓to_evl, ↓to_itl, lb_val, lb_exc, lb_none, itl_t, itl_f, evl_val, evl_none, evl_lb, srcRng1_nat H (by omega)]; try simp only [of_lb, of_evl, of_itl])
    refine forms_ (n+17) (N := H) (len := goal.length) (B := 5) hp (by omega) (by omega) (by omega) (by decide) (by decide) rfl (fun j cs => by (simp -implicitDefEqProofs [x_nil, x_cons, x_expr, x_doc, x_pas, x_cont, x_brk, x_ret, x_retN, x_ite, x_set, x_asg, x_sub, x_for, x_raise, x_sfld, x_nev, x_while, x_var, x_int, x_str, x_bl, x_non, x_con, x_tup, x_lst, x_bin, x_neg, x_notv, x_nott, x_andv, x_andt, x_orv, x_ort, x_cmpv, x_cmpt, x_chnv, x_chnt, x_ife, x_ix, x_sl, x_isi, x_isis, x_iso, x_tyiv, x_tyit, x_fld, x_mcl, x_new, x_blt, x_tlt, x_mth, x_call, x_how, x_dl, x_rp, x_lc, t_var, t_int, t_str, t_bl, t_non, t_con, t_tup, t_lst, t_bin, t_neg, t_ix, t_sl, t_isi, t_isis, t_iso, t_fld, t_mcl, t_new, t_blt, t_tlt, t_mth, t_call, t_how, t_lc, x_l0, x_l1, x_l2, x_av1, x_av2, x_ov1, x_ov2, x_at1, x_at2, x_ot1, x_ot2, x_p0, x_p1, x_o0, x_o1, x_seq, x_rng1, x_rng2, x_zip, sizeLine_eq, iL_len, setAll, setTg, wipeD, initS, ↓to_lb, ↓to_evl, ↓to_itl, lb_val, lb_exc, lb_none, itl_t, itl_f, evl_val, evl_none, evl_lb]; try simp only [of_lb, of_evl, of_itl])) ?_
    intro hs cs5 h1 h2 hp
    have s4 : srcRng1 (.int 4) cs5 = some (.val ⟨rngList 0 4, []⟩, cs5) := srcRng1_nat 4 (by decide) cs5
    (simp -implicitDefEqProofs [x_nil, x_cons, x_expr, x_doc, x_pas, x_cont, x_brk, x_ret, x_retN, x_ite, x_set, x_asg, x_sub, x_for, x_raise, x_sfld, x_nev, x_while, x_var, x_int, x_str, x_bl, x_non, x_con, x_tup, x_lst, x_bin, x_neg, x_notv, x_nott, x_andv, x_andt, x_orv, x_ort, x_cmpv, x_cmpt, x_chnv, x_chnt, x_ife, x_ix, x_sl, x_isi, x_isis, x_iso, x_tyiv, x_tyit, x_fld, x_mcl, x_new, x_blt, x_tlt, x_mth, x_call, x_how, x_dl, x_rp, x_lc, t_var, t_int, t_str, t_bl, t_non, t_con, t_tup, t_lst, t_bin, t_neg, t_ix, t_sl, t_isi, t_isis, t_iso, t_fld, t_mcl, t_new, t_blt, t_tlt, t_mth, t_call, t_how, t_lc, x_l0, x_l1, x_l2, x_av1, x_av2, x_ov1, x_ov2, x_at1, x_at2, x_ot1, x_ot2, x_p0, x_p1, x_o0, x_o1, x_seq, x_rng1, x_rng2, x_zip, sizeLine_eq, iL_len, setAll, setTg, wipeD, initS, ↓to_lb, ↓to_evl, ↓to_itl, lb_val, lb_exc, lb_none, itl_t, itl_f, evl_val, evl_none, evl_lb, s4]; try simp only [of_lb, of_evl, of_itl])
    refine ev_rng (lo := 0) 4 (L21a s j cs.length cs (0 + 1 + 3 * goal.length + 1 + 3 * goal.length * H) goal hs) ⟨⟨_, _, _, _, _, _, _, _, _, _, _, _, rfl⟩, hp⟩ ?_ ?_
    · rintro i sl cs6 hi ⟨⟨o6, o7, o8, o9, o10, o11, o12, o13, o14, o15, o16, o17, rfl⟩, hp⟩
      have hH : H ≤ 4 := by omega
      try (simp -implicitDefEqProofs [x_nil, x_cons, x_expr, x_doc, x_pas, x_cont, x_brk, x_ret, x_retN, x_ite, x_set, x_asg, x_sub, x_for, x_raise, x_sfld, x_nev, x_while, x_var, x_int, x_str, x_bl, x_non, x_con, x_tup, x_lst, x_bin, x_neg, x_notv, x_nott, x_andv, x_andt, x_orv, x_ort, x_cmpv, x_cmpt, x_chnv, x_chnt, x_ife, x_ix, x_sl, x_isi, x_isis, x_iso, x_tyiv, x_tyit, x_fld, x_mcl, x_new, x_blt, x_tlt, x_mth, x_call, x_how, x_dl, x_rp, x_lc, t_var, t_int, t_str, t_bl, t_non, t_con, t_tup, t_lst, t_bin, t_neg, t_ix, t_sl, t_isi, t_isis, t_iso, t_fld, t_mcl, t_new, t_blt, t_tlt, t_mth, t_call, t_how, t_lc, x_l0, x_l1, x_l2, x_av1, x_av2, x_ov1, x_ov2, x_at1, x_at2, x_ot1, x_ot2, x_p0, x_p1, x_o0, x_o1, x_seq, x_rng1, x_rng2, x_zip, sizeLine_eq, iL_len, setAll, setTg, wipeD, initS, ↓to_lb, ↓to_evl, ↓to_itl, lb_val, lb_exc, lb_none, itl_t, itl_f, evl_val, evl_none, evl_lb]; try simp only [of_lb, of_evl, of_itl])
      refine Ev.imp (leaf_for_ (n+17) hp (by omega) g0 (by omega) g2 h2 (by omega)) ?_
      rintro _ cs7 ⟨c, more, rfl, ⟨m1, m2, W, w1, w2, hc⟩, hp⟩
      have Wl : W.length ≤ 5 := by omega
      rcases hc with rfl | ⟨k, kk1, kk2, rfl⟩
      · simp only [Pc.enc]
        (simp -implicitDefEqProofs [x_nil, x_cons, x_expr, x_doc, x_pas, x_cont, x_brk, x_ret, x_retN, x_ite, x_set, x_asg, x_sub, x_for, x_raise, x_sfld, x_nev, x_while, x_var, x_int, x_str, x_bl, x_non, x_con, x_tup, x_lst, x_bin, x_neg, x_notv, x_nott, x_andv, x_andt, x_orv, x_ort, x_cmpv, x_cmpt, x_chnv, x_chnt, x_ife, x_ix, x_sl, x_isi, x_isis, x_iso, x_tyiv, x_tyit, x_fld, x_mcl, x_new, x_blt, x_tlt, x_mth, x_call, x_how, x_dl, x_rp, x_lc, t_var, t_int, t_str, t_bl, t_non, t_con, t_tup, t_lst, t_bin, t_neg, t_ix, t_sl, t_isi, t_isis, t_iso, t_fld, t_mcl, t_new, t_blt, t_tlt, t_mth, t_call, t_how, t_lc, x_l0, x_l1, x_l2, x_av1, x_av2, x_ov1, x_ov2, x_at1, x_at2, x_ot1, x_ot2, x_p0, x_p1, x_o0, x_o1, x_seq, x_rng1, x_rng2, x_zip, sizeLine_eq, iL_len, setAll, setTg, wipeD, initS, ↓to_lb, ↓to_evl, ↓to_itl, lb_val, lb_exc, lb_none, itl_t, itl_f, evl_val, evl_none, evl_lb, atI_m1_2]; try simp only [of_lb, of_evl, of_itl])
        refine Ev.imp (take_ (n+18) hp (by omega) (by decide) (by decide)) ?_
        rintro _ cs8 ⟨r3, rfl, c1, c2, hp⟩
        obtain ⟨odd, he, hodd, hdw⟩ : ∃ o : D, ixD (.lst [.bl true, .int (-1), .non, .str "1", .int 0, .tup [.int 1], .int 2]) (.int r3) cs8 = some (.val o, cs8) ∧ kd 1 o = true ∧ dw o ≤ 5 := by
          have h3 : r3 = 0 ∨ r3 = 1 ∨ r3 = 2 ∨ r3 = 3 ∨ r3 = 4 ∨ r3 = 5 ∨ r3 = 6 := by omega
          rcases h3 with rfl | rfl | rfl | rfl | rfl | rfl | rfl <;> exact ⟨_, rfl, by decide +kernel, by decide +kernel⟩
        (simp -implicitDefEqProofs [x_nil, x_cons, x_expr, x_doc, x_pas, x_cont, x_brk, x_ret, x_retN, x_ite, x_set, x_asg, x_sub, x_for, x_raise, x_sfld, x_nev, x_while, x_var, x_int, x_str, x_bl, x_non, x_con, x_tup, x_lst, x_bin, x_neg, x_notv, x_nott, x_andv, x_andt, x_orv, x_ort, x_cmpv, x_cmpt, x_chnv, x_chnt, x_ife, x_ix, x_sl, x_isi, x_isis, x_iso, x_tyiv, x_tyit, x_fld, x_mcl, x_new, x_blt, x_tlt, x_mth, x_call, x_how, x_dl, x_rp, x_lc, t_var, t_int, t_str, t_bl, t_non, t_con, t_tup, t_lst, t_bin, t_neg, t_ix, t_sl, t_isi, t_isis, t_iso, t_fld, t_mcl, t_new, t_blt, t_tlt, t_mth, t_call, t_how, t_lc, x_l0, x_l1, x_l2, x_av1, x_av2, x_ov1, x_ov2, x_at1, x_at2, x_ot1, x_ot2, x_p0, x_p1, x_o0, x_o1, x_seq, x_rng1, x_rng2, x_zip, sizeLine_eq, iL_len, setAll, setTg, wipeD, initS, ↓to_lb, ↓to_evl, ↓to_itl, lb_val, lb_exc, lb_none, itl_t, itl_f, evl_val, evl_none, evl_lb, he]; try simp only [of_lb, of_evl, of_itl])
        refine Ev.imp (take_ (n+18) hp (by omega) (by omega) (by omega)) ?_
        rintro _ cs9 ⟨at_, rfl, d1, d2, hp⟩
        (simp -implicitDefEqProofs [x_nil, x_cons, x_expr, x_doc, x_pas, x_cont, x_brk, x_ret, x_retN, x_ite, x_set, x_asg, x_sub, x_for, x_raise, x_sfld, x_nev, x_while, x_var, x_int, x_str, x_bl, x_non, x_con, x_tup, x_lst, x_bin, x_neg, x_notv, x_nott, x_andv, x_andt, x_orv, x_ort, x_cmpv, x_cmpt, x_chnv, x_chnt, x_ife, x_ix, x_sl, x_isi, x_isis, x_iso, x_tyiv, x_tyit, x_fld, x_mcl, x_new, x_blt, x_tlt, x_mth, x_call, x_how, x_dl, x_rp, x_lc, t_var, t_int, t_str, t_bl, t_non, t_con, t_tup, t_lst, t_bin, t_neg, t_ix, t_sl, t_isi, t_isis, t_iso, t_fld, t_mcl, t_new, t_blt, t_tlt, t_mth, t_call, t_how, t_lc, x_l0, x_l1, x_l2, x_av1, x_av2, x_ov1, x_ov2, x_at1, x_at2, x_ot1, x_ot2, x_p0, x_p1, x_o0, x_o1, x_seq, x_rng1, x_rng2, x_zip, sizeLine_eq, iL_len, setAll, setTg, wipeD, initS, ↓to_lb, ↓to_evl, ↓to_itl, lb_val, lb_exc, lb_none, itl_t, itl_f, evl_val, evl_none, evl_lb]; try simp only [of_lb, of_evl, of_itl])
        obtain ⟨m1', q1, l1, z1⟩ := cut_iL W none (some (-1))
        obtain ⟨m2', q2, l2, z2⟩ := cut_iL W none (some at_)
        obtain ⟨m3', q3, l3, z3⟩ := cut_iL W (some (at_ + 1)) none
        have s1 : cutD [.str "never", .lst (iL W)] none (some (-1)) = [.str "never"] := rfl
        have s2 : cutD [.str "never", .lst (iL W)] none (some 1) = [.str "never"] := rfl
        have s3 : cutD [.str "never", .lst (iL W)] (some 2) none = [] := rfl
        have s4' : cutD [.str "never", .lst (iL W)] (some (-1)) none = [.lst (iL W)] := rfl
        rw [s1, s2, s3, s4', q1, q2, q3]
        refine ev_addT (by simp only [List.length_append, List.length_cons, List.length_nil, iL_len, sizeLine_eq]; omega) ?_
        refine ev_addL (by simp only [List.length_append, List.length_cons, List.length_nil, iL_len, sizeLine_eq]; omega) ?_
        refine ev_addT (by simp only [List.length_append, List.length_cons, List.length_nil, iL_len, sizeLine_eq]; omega) ?_
        refine ev_addT (by simp only [List.length_append, List.length_cons, List.length_nil, iL_len, sizeLine_eq]; omega) ?_
        refine ev_addL (by simp only [List.length_append, List.length_cons, List.length_nil, iL_len, sizeLine_eq]; omega) ?_
        refine ev_addL (by simp only [List.length_append, List.length_cons, List.length_nil, iL_len, sizeLine_eq]; omega) ?_
        refine ev_addT (by simp only [List.length_append, List.length_cons, List.length_nil, iL_len, sizeLine_eq]; omega) ?_
        refine ev_addT (by simp only [List.length_append, List.length_cons, List.length_nil, iL_len, sizeLine_eq]; omega) ?_
        refine ev_addT (by simp only [List.length_append, List.length_cons, List.length_nil, iL_len, sizeLine_eq]; omega) ?_
        refine ev_addL (by simp only [List.length_append, List.length_cons, List.length_nil, iL_len, sizeLine_eq]; omega) ?_
        refine ev_addT (by simp only [List.length_append, List.length_cons, List.length_nil, iL_len, sizeLine_eq]; omega) ?_
        refine ev_addT (by simp only [List.length_append, List.length_cons, List.length_nil, iL_len, sizeLine_eq]; omega) ?_
        refine ev_addT (by simp only [List.length_append, List.length_cons, List.length_nil, iL_len, sizeLine_eq]; omega) ?_
        refine ev_addL (by simp only [List.length_append, List.length_cons, List.length_nil, iL_len, sizeLine_eq]; omega) ?_
        refine ev_src ?_
        refine things_ n hp.all g0 (by omega) g2 h2 (by omega) m1 m2 _ ?_ ?_
        · have wb : ∀ x ∈ W, x.natAbs ≤ 1000 := fun x hx => by have := w2 x hx; omega
          have b1' : ∀ x ∈ m1', x.natAbs ≤ 1000 := fun x hx => wb x (z1 x hx)
          have b2' : ∀ x ∈ m2', x.natAbs ≤ 1000 := fun x hx => wb x (z2 x hx)
          have b3' : ∀ x ∈ m3', x.natAbs ≤ 1000 := fun x hx => wb x (z3 x hx)
          have kz : ∀ d ∈ iL W ++ [D.int 0], kd 1 d = true := fun d hd => by
            rcases List.mem_append.mp hd with hd | hd
            · exact kd_iL (fun x hx => p200 (wb x hx)) d hd
            · rw [List.mem_singleton.mp hd]; exact kI (by decide)
          have ko : ∀ d ∈ (iL m2' ++ [odd]) ++ iL m3', kd 1 d = true := fun d hd => by
            rcases List.mem_append.mp hd with hd | hd
            · rcases List.mem_append.mp hd with hd | hd
              · exact kd_iL (fun x hx => p200 (b2' x hx)) d hd
              · rw [List.mem_singleton.mp hd]; exact hodd
            · exact kd_iL (fun x hx => p200 (b3' x hx)) d hd
          intro d hd
          simp only [List.mem_append, List.mem_cons, List.not_mem_nil, or_false, List.cons_append, List.nil_append] at hd
          rcases hd with rfl | rfl | rfl | rfl | rfl | rfl | rfl | rfl | rfl | rfl | rfl
          · exact ⟨kT2 (kS ok_words.2.1) (kLi (by omega) wb), by simp only [z_sum, z_nev, z_T, z_L, z_I, z_n, z_c, dwA_app, dw_iL]; omega⟩
          · exact ⟨kT2 (kS ok_words.2.1) (kLi (by omega) b1'), by simp only [z_sum, z_nev, z_T, z_L, z_I, z_n, z_c, dwA_app, dw_iL]; omega⟩
          · exact ⟨kT2 (kS ok_words.2.1) (kd_mkL (by simp [iL]; omega) kz), by simp only [z_sum, z_nev, z_T, z_L, z_I, z_n, z_c, dwA_app, dw_iL]; omega⟩
          · exact ⟨kT2 (kS ok_words.2.1) (kTi (by omega) wb), by simp only [z_sum, z_nev, z_T, z_L, z_I, z_n, z_c, dwA_app, dw_iL]; omega⟩
          · exact ⟨kT2 (kS ok_words.2.1) (kd_mkL (by simp [iL]; omega) ko), by simp only [z_sum, z_nev, z_T, z_L, z_I, z_n, z_c, dwA_app, dw_iL]; omega⟩
          · exact ⟨kT2 (kS ok_words.2.1) (kd_mono hodd (by omega)), by simp only [z_sum, z_nev, z_T, z_L, z_I, z_n, z_c, dwA_app, dw_iL]; omega⟩
          · exact ⟨kT3 (kS ok_words.1) (kI (by decide)) (kLi (by omega) wb), by simp only [z_sum, z_nev, z_T, z_L, z_I, z_n, z_c, dwA_app, dw_iL]; omega⟩
          · exact ⟨kT2 (kS ok_words.2.1) (kLi (by omega) wb), by simp only [z_sum, z_nev, z_T, z_L, z_I, z_n, z_c, dwA_app, dw_iL]; omega⟩
          · exact ⟨kT1 (kS ok_words.2.1), by simp only [z_sum, z_nev, z_T, z_L, z_I, z_n, z_c, dwA_app, dw_iL]; omega⟩
          · exact ⟨kT3 (kS ok_words.2.1) (kLi (by omega) wb) (by decide), by simp only [z_sum, z_nev, z_T, z_L, z_I, z_n, z_c, dwA_app, dw_iL]; omega⟩
          · exact ⟨kL2 (kS ok_words.2.1) (kLi (by omega) wb), by simp only [z_sum, z_nev, z_T, z_L, z_I, z_n, z_c, dwA_app, dw_iL]; omega⟩
        · intros
          (simp -implicitDefEqProofs [x_nil, x_cons, x_expr, x_doc, x_pas, x_cont, x_brk, x_ret, x_retN, x_ite, x_set, x_asg, x_sub, x_for, x_raise, x_sfld, x_nev, x_while, x_var, x_int, x_str, x_bl, x_non, x_con, x_tup, x_lst, x_bin, x_neg, x_notv, x_nott, x_andv, x_andt, x_orv, x_ort, x_cmpv, x_cmpt, x_chnv, x_chnt, x_ife, x_ix, x_sl, x_isi, x_isis, x_iso, x_tyiv, x_tyit, x_fld, x_mcl, x_new, x_blt, x_tlt, x_mth, x_call, x_how, x_dl, x_rp, x_lc, t_var, t_int, t_str, t_bl, t_non, t_con, t_tup, t_lst, t_bin, t_neg, t_ix, t_sl, t_isi, t_isis, t_iso, t_fld, t_mcl, t_new, t_blt, t_tlt, t_mth, t_call, t_how, t_lc, x_l0, x_l1, x_l2, x_av1, x_av2, x_ov1, x_ov2, x_at1, x_at2, x_ot1, x_ot2, x_p0, x_p1, x_o0, x_o1, x_seq, x_rng1, x_rng2, x_zip, sizeLine_eq, iL_len, setAll, setTg, wipeD, initS, ↓to_lb, ↓to_evl, ↓to_itl, lb_val, lb_exc, lb_none, itl_t, itl_f, evl_val, evl_none, evl_lb]; try simp only [of_lb, of_evl, of_itl])
          exact turn_nx ⟨⟨_, _, _, _, _, _, _, _, _, _, _, _, rfl⟩, hp.mono (by omega)⟩
      · simp only [Pc.enc]
        (simp -implicitDefEqProofs [x_nil, x_cons, x_expr, x_doc, x_pas, x_cont, x_brk, x_ret, x_retN, x_ite, x_set, x_asg, x_sub, x_for, x_raise, x_sfld, x_nev, x_while, x_var, x_int, x_str, x_bl, x_non, x_con, x_tup, x_lst, x_bin, x_neg, x_notv, x_nott, x_andv, x_andt, x_orv, x_ort, x_cmpv, x_cmpt, x_chnv, x_chnt, x_ife, x_ix, x_sl, x_isi, x_isis, x_iso, x_tyiv, x_tyit, x_fld, x_mcl, x_new, x_blt, x_tlt, x_mth, x_call, x_how, x_dl, x_rp, x_lc, t_var, t_int, t_str, t_bl, t_non, t_con, t_tup, t_lst, t_bin, t_neg, t_ix, t_sl, t_isi, t_isis, t_iso, t_fld, t_mcl, t_new, t_blt, t_tlt, t_mth, t_call, t_how, t_lc, x_l0, x_l1, x_l2, x_av1, x_av2, x_ov1, x_ov2, x_at1, x_at2, x_ot1, x_ot2, x_p0, x_p1, x_o0, x_o1, x_seq, x_rng1, x_rng2, x_zip, sizeLine_eq, iL_len, setAll, setTg, wipeD, initS, ↓to_lb, ↓to_evl, ↓to_itl, lb_val, lb_exc, lb_none, itl_t, itl_f, evl_val, evl_none, evl_lb, atI_m1_3]; try simp only [of_lb, of_evl, of_itl])
        refine Ev.imp (take_ (n+18) hp (by omega) (by decide) (by decide)) ?_
        rintro _ cs8 ⟨r3, rfl, c1, c2, hp⟩
        obtain ⟨odd, he, hodd, hdw⟩ : ∃ o : D, ixD (.lst [.bl true, .int (-1), .non, .str "1", .int 0, .tup [.int 1], .int 2]) (.int r3) cs8 = some (.val o, cs8) ∧ kd 1 o = true ∧ dw o ≤ 5 := by
          have h3 : r3 = 0 ∨ r3 = 1 ∨ r3 = 2 ∨ r3 = 3 ∨ r3 = 4 ∨ r3 = 5 ∨ r3 = 6 := by omega
          rcases h3 with rfl | rfl | rfl | rfl | rfl | rfl | rfl <;> exact ⟨_, rfl, by decide +kernel, by decide +kernel⟩
        (simp -implicitDefEqProofs [x_nil, x_cons, x_expr, x_doc, x_pas, x_cont, x_brk, x_ret, x_retN, x_ite, x_set, x_asg, x_sub, x_for, x_raise, x_sfld, x_nev, x_while, x_var, x_int, x_str, x_bl, x_non, x_con, x_tup, x_lst, x_bin, x_neg, x_notv, x_nott, x_andv, x_andt, x_orv, x_ort, x_cmpv, x_cmpt, x_chnv, x_chnt, x_ife, x_ix, x_sl, x_isi, x_isis, x_iso, x_tyiv, x_tyit, x_fld, x_mcl, x_new, x_blt, x_tlt, x_mth, x_call, x_how, x_dl, x_rp, x_lc, t_var, t_int, t_str, t_bl, t_non, t_con, t_tup, t_lst, t_bin, t_neg, t_ix, t_sl, t_isi, t_isis, t_iso, t_fld, t_mcl, t_new, t_blt, t_tlt, t_mth, t_call, t_how, t_lc, x_l0, x_l1, x_l2, x_av1, x_av2, x_ov1, x_ov2, x_at1, x_at2, x_ot1, x_ot2, x_p0, x_p1, x_o0, x_o1, x_seq, x_rng1, x_rng2, x_zip, sizeLine_eq, iL_len, setAll, setTg, wipeD, initS, ↓to_lb, ↓to_evl, ↓to_itl, lb_val, lb_exc, lb_none, itl_t, itl_f, evl_val, evl_none, evl_lb, he]; try simp only [of_lb, of_evl, of_itl])
        refine Ev.imp (take_ (n+18) hp (by omega) (by omega) (by omega)) ?_
        rintro _ cs9 ⟨at_, rfl, d1, d2, hp⟩
        (simp -implicitDefEqProofs [x_nil, x_cons, x_expr, x_doc, x_pas, x_cont, x_brk, x_ret, x_retN, x_ite, x_set, x_asg, x_sub, x_for, x_raise, x_sfld, x_nev, x_while, x_var, x_int, x_str, x_bl, x_non, x_con, x_tup, x_lst, x_bin, x_neg, x_notv, x_nott, x_andv, x_andt, x_orv, x_ort, x_cmpv, x_cmpt, x_chnv, x_chnt, x_ife, x_ix, x_sl, x_isi, x_isis, x_iso, x_tyiv, x_tyit, x_fld, x_mcl, x_new, x_blt, x_tlt, x_mth, x_call, x_how, x_dl, x_rp, x_lc, t_var, t_int, t_str, t_bl, t_non, t_con, t_tup, t_lst, t_bin, t_neg, t_ix, t_sl, t_isi, t_isis, t_iso, t_fld, t_mcl, t_new, t_blt, t_tlt, t_mth, t_call, t_how, t_lc, x_l0, x_l1, x_l2, x_av1, x_av2, x_ov1, x_ov2, x_at1, x_at2, x_ot1, x_ot2, x_p0, x_p1, x_o0, x_o1, x_seq, x_rng1, x_rng2, x_zip, sizeLine_eq, iL_len, setAll, setTg, wipeD, initS, ↓to_lb, ↓to_evl, ↓to_itl, lb_val, lb_exc, lb_none, itl_t, itl_f, evl_val, evl_none, evl_lb]; try simp only [of_lb, of_evl, of_itl])
        obtain ⟨m1', q1, l1, z1⟩ := cut_iL W none (some (-1))
        obtain ⟨m2', q2, l2, z2⟩ := cut_iL W none (some at_)
        obtain ⟨m3', q3, l3, z3⟩ := cut_iL W (some (at_ + 1)) none
        have s1 : cutD [.str "sum", .int k, .lst (iL W)] none (some (-1)) = [.str "sum", .int k] := rfl
        have s2 : cutD [.str "sum", .int k, .lst (iL W)] none (some 1) = [.str "sum"] := rfl
        have s3 : cutD [.str "sum", .int k, .lst (iL W)] (some 2) none = [.lst (iL W)] := rfl
        have s4' : cutD [.str "sum", .int k, .lst (iL W)] (some (-1)) none = [.lst (iL W)] := rfl
        rw [s1, s2, s3, s4', q1, q2, q3]
        refine ev_addT (by simp only [List.length_append, List.length_cons, List.length_nil, iL_len, sizeLine_eq]; omega) ?_
        refine ev_addL (by simp only [List.length_append, List.length_cons, List.length_nil, iL_len, sizeLine_eq]; omega) ?_
        refine ev_addT (by simp only [List.length_append, List.length_cons, List.length_nil, iL_len, sizeLine_eq]; omega) ?_
        refine ev_addT (by simp only [List.length_append, List.length_cons, List.length_nil, iL_len, sizeLine_eq]; omega) ?_
        refine ev_addL (by simp only [List.length_append, List.length_cons, List.length_nil, iL_len, sizeLine_eq]; omega) ?_
        refine ev_addL (by simp only [List.length_append, List.length_cons, List.length_nil, iL_len, sizeLine_eq]; omega) ?_
        refine ev_addT (by simp only [List.length_append, List.length_cons, List.length_nil, iL_len, sizeLine_eq]; omega) ?_
        refine ev_addT (by simp only [List.length_append, List.length_cons, List.length_nil, iL_len, sizeLine_eq]; omega) ?_
        refine ev_addT (by simp only [List.length_append, List.length_cons, List.length_nil, iL_len, sizeLine_eq]; omega) ?_
        refine ev_addL (by simp only [List.length_append, List.length_cons, List.length_nil, iL_len, sizeLine_eq]; omega) ?_
        refine ev_addT (by simp only [List.length_append, List.length_cons, List.length_nil, iL_len, sizeLine_eq]; omega) ?_
        refine ev_addT (by simp only [List.length_append, List.length_cons, List.length_nil, iL_len, sizeLine_eq]; omega) ?_
        refine ev_addT (by simp only [List.length_append, List.length_cons, List.length_nil, iL_len, sizeLine_eq]; omega) ?_
        refine ev_addL (by simp only [List.length_append, List.length_cons, List.length_nil, iL_len, sizeLine_eq]; omega) ?_
        refine ev_src ?_
        refine things_ n hp.all g0 (by omega) g2 h2 (by omega) m1 m2 _ ?_ ?_
        · have wb : ∀ x ∈ W, x.natAbs ≤ 1000 := fun x hx => by have := w2 x hx; omega
          have b1' : ∀ x ∈ m1', x.natAbs ≤ 1000 := fun x hx => wb x (z1 x hx)
          have b2' : ∀ x ∈ m2', x.natAbs ≤ 1000 := fun x hx => wb x (z2 x hx)
          have b3' : ∀ x ∈ m3', x.natAbs ≤ 1000 := fun x hx => wb x (z3 x hx)
          have kz : ∀ d ∈ iL W ++ [D.int 0], kd 1 d = true := fun d hd => by
            rcases List.mem_append.mp hd with hd | hd
            · exact kd_iL (fun x hx => p200 (wb x hx)) d hd
            · rw [List.mem_singleton.mp hd]; exact kI (by decide)
          have ko : ∀ d ∈ (iL m2' ++ [odd]) ++ iL m3', kd 1 d = true := fun d hd => by
            rcases List.mem_append.mp hd with hd | hd
            · rcases List.mem_append.mp hd with hd | hd
              · exact kd_iL (fun x hx => p200 (b2' x hx)) d hd
              · rw [List.mem_singleton.mp hd]; exact hodd
            · exact kd_iL (fun x hx => p200 (b3' x hx)) d hd
          intro d hd
          simp only [List.mem_append, List.mem_cons, List.not_mem_nil, or_false, List.cons_append, List.nil_append] at hd
          rcases hd with rfl | rfl | rfl | rfl | rfl | rfl | rfl | rfl | rfl | rfl | rfl
          · exact ⟨kT3 (kS ok_words.1) (kI (by omega)) (kLi (by omega) wb), by simp only [z_sum, z_nev, z_T, z_L, z_I, z_n, z_c, dwA_app, dw_iL]; omega⟩
          · exact ⟨kT3 (kS ok_words.1) (kI (by omega)) (kLi (by omega) b1'), by simp only [z_sum, z_nev, z_T, z_L, z_I, z_n, z_c, dwA_app, dw_iL]; omega⟩
          · exact ⟨kT3 (kS ok_words.1) (kI (by omega)) (kd_mkL (by simp [iL]; omega) kz), by simp only [z_sum, z_nev, z_T, z_L, z_I, z_n, z_c, dwA_app, dw_iL]; omega⟩
          · exact ⟨kT3 (kS ok_words.1) (kI (by omega)) (kTi (by omega) wb), by simp only [z_sum, z_nev, z_T, z_L, z_I, z_n, z_c, dwA_app, dw_iL]; omega⟩
          · exact ⟨kT3 (kS ok_words.1) (kI (by omega)) (kd_mkL (by simp [iL]; omega) ko), by simp only [z_sum, z_nev, z_T, z_L, z_I, z_n, z_c, dwA_app, dw_iL]; omega⟩
          · exact ⟨kT3 (kS ok_words.1) (kd_mono hodd (by omega)) (kLi (by omega) wb), by simp only [z_sum, z_nev, z_T, z_L, z_I, z_n, z_c, dwA_app, dw_iL]; omega⟩
          · exact ⟨kT3 (kS ok_words.1) (kI (by decide)) (kLi (by omega) wb), by simp only [z_sum, z_nev, z_T, z_L, z_I, z_n, z_c, dwA_app, dw_iL]; omega⟩
          · exact ⟨kT2 (kS ok_words.2.1) (kLi (by omega) wb), by simp only [z_sum, z_nev, z_T, z_L, z_I, z_n, z_c, dwA_app, dw_iL]; omega⟩
          · exact ⟨kT2 (kS ok_words.1) (kI (by omega)), by simp only [z_sum, z_nev, z_T, z_L, z_I, z_n, z_c, dwA_app, dw_iL]; omega⟩
          · exact ⟨kT4 (kS ok_words.1) (kI (by omega)) (kLi (by omega) wb) (by decide), by simp only [z_sum, z_nev, z_T, z_L, z_I, z_n, z_c, dwA_app, dw_iL]; omega⟩
          · exact ⟨kL3 (kS ok_words.1) (kI (by omega)) (kLi (by omega) wb), by simp only [z_sum, z_nev, z_T, z_L, z_I, z_n, z_c, dwA_app, dw_iL]; omega⟩
        · intros
          (simp -implicitDefEqProofs [x_nil, x_cons, x_expr, x_doc, x_pas, x_cont, x_brk, x_ret, x_retN, x_ite, x_set, x_asg, x_sub, x_for, x_raise, x_sfld, x_nev, x_while, x_var, x_int, x_str, x_bl, x_non, x_con, x_tup, x_lst, x_bin, x_neg, x_notv, x_nott, x_andv, x_andt, x_orv, x_ort, x_cmpv, x_cmpt, x_chnv, x_chnt, x_ife, x_ix, x_sl, x_isi, x_isis, x_iso, x_tyiv, x_tyit, x_fld, x_mcl, x_new, x_blt, x_tlt, x_mth, x_call, x_how, x_dl, x_rp, x_lc, t_var, t_int, t_str, t_bl, t_non, t_con, t_tup, t_lst, t_bin, t_neg, t_ix, t_sl, t_isi, t_isis, t_iso, t_fld, t_mcl, t_new, t_blt, t_tlt, t_mth, t_call, t_how, t_lc, x_l0, x_l1, x_l2, x_av1, x_av2, x_ov1, x_ov2, x_at1, x_at2, x_ot1, x_ot2, x_p0, x_p1, x_o0, x_o1, x_seq, x_rng1, x_rng2, x_zip, sizeLine_eq, iL_len, setAll, setTg, wipeD, initS, ↓to_lb, ↓to_evl, ↓to_itl, lb_val, lb_exc, lb_none, itl_t, itl_f, evl_val, evl_none, evl_lb]; try simp only [of_lb, of_evl, of_itl])
          exact turn_nx ⟨⟨_, _, _, _, _, _, _, _, _, _, _, _, rfl⟩, hp.mono (by omega)⟩
    · rintro sl cs6 ⟨⟨o6, o7, o8, o9, o10, o11, o12, o13, o14, o15, o16, o17, rfl⟩, hp⟩
      (simp -implicitDefEqProofs [x_nil, x_cons, x_expr, x_doc, x_pas, x_cont, x_brk, x_ret, x_retN, x_ite, x_set, x_asg, x_sub, x_for, x_raise, x_sfld, x_nev, x_while, x_var, x_int, x_str, x_bl, x_non, x_con, x_tup, x_lst, x_bin, x_neg, x_notv, x_nott, x_andv, x_andt, x_orv, x_ort, x_cmpv, x_cmpt, x_chnv, x_chnt, x_ife, x_ix, x_sl, x_isi, x_isis, x_iso, x_tyiv, x_tyit, x_fld, x_mcl, x_new, x_blt, x_tlt, x_mth, x_call, x_how, x_dl, x_rp, x_lc, t_var, t_int, t_str, t_bl, t_non, t_con, t_tup, t_lst, t_bin, t_neg, t_ix, t_sl, t_isi, t_isis, t_iso, t_fld, t_mcl, t_new, t_blt, t_tlt, t_mth, t_call, t_how, t_lc, x_l0, x_l1, x_l2, x_av1, x_av2, x_ov1, x_ov2, x_at1, x_at2, x_ot1, x_ot2, x_p0, x_p1, x_o0, x_o1, x_seq, x_rng1, x_rng2, x_zip, sizeLine_eq, iL_len, setAll, setTg, wipeD, initS, ↓to_lb, ↓to_evl, ↓to_itl, lb_val, lb_exc, lb_none, itl_t, itl_f, evl_val, evl_none, evl_lb]; try simp only [of_lb, of_evl, of_itl])
      exact turn_nx ⟨⟨_, _, _, _, _, _, _, _, _, _, _, _, _, _, _, _, _, rfl⟩, hp.all⟩
  · rintro sl cs ⟨⟨o1, o2, o3, o4, o5, o6, o7, o8, o9, o10, o11, o12, o13, o14, o15, o16, o17, rfl⟩, hcl⟩
    have A : SM (n+19) i_shows [.tup [.str "sum", .int 2, .lst [.int 1]], .lst [.tup [.int (-1), .int 2]], .lst [], .tup [.int 0, .int 1]] cs = some (.val (.bl true), cs) := by
      have := shows_ n cs (un := []) (goal := [0, 1]) (hs := [[-1, 2]]) (m := 3) (d := .tup [.str "sum", .int 2, .lst [.int 1]]) hcl (by decide) (by decide) (fun x hx => p300 (by simp at hx; omega)) (fun u hu => nomatch hu) (by decide +kernel) (by omega) (by
        intro h hh
        rw [List.mem_singleton.mp hh]
        exact ⟨rfl, fun x hx => p300 (by simp at hx; omega)⟩) (by decide)
      have e : showsD [] [0, 1] 10 [[-1, 2]] (.tup [.str "sum", .int 2, .lst [.int 1]]) = true := by decide +kernel
      rw [e] at this
      exact this
    have B : SM (n+19) i_shows [.tup [.str "sum", .int 1, .lst [.int 1]], .lst [.tup [.int (-2), .int 1]], .lst [], .tup [.int (-3), .int 1]] cs = some (.val (.bl false), cs) := by
      have := shows_ n cs (un := []) (goal := [-3, 1]) (hs := [[-2, 1]]) (m := 3) (d := .tup [.str "sum", .int 1, .lst [.int 1]]) hcl (by decide) (by decide) (fun x hx => p300 (by simp at hx; omega)) (fun u hu => nomatch hu) (by decide +kernel) (by omega) (by
        intro h hh
        rw [List.mem_singleton.mp hh]
        exact ⟨rfl, fun x hx => p300 (by simp at hx; omega)⟩) (by decide)
      have e : showsD [] [-3, 1] 10 [[-2, 1]] (.tup [.str "sum", .int 1, .lst [.int 1]]) = false := by decide +kernel
      rw [e] at this
      exact this
    (simp -implicitDefEqProofs [x_nil, x_cons, x_expr, x_doc, x_pas, x_cont, x_brk, x_ret, x_retN, x_ite, x_set, x_asg, x_sub, x_for, x_raise, x_sfld, x_nev, x_while, x_var, x_int, x_str, x_bl, x_non, x_con, x_tup, x_lst, x_bin, x_neg, x_notv, x_nott, x_andv, x_andt, x_orv, x_ort, x_cmpv, x_cmpt, x_chnv, x_chnt, x_ife, x_ix, x_sl, x_isi, x_isis, x_iso, x_tyiv, x_tyit, x_fld, x_mcl, x_new, x_blt, x_tlt, x_mth, x_call, x_how, x_dl, x_rp, x_lc, t_var, t_int, t_str, t_bl, t_non, t_con, t_tup, t_lst, t_bin, t_neg, t_ix, t_sl, t_isi, t_isis, t_iso, t_fld, t_mcl, t_new, t_blt, t_tlt, t_mth, t_call, t_how, t_lc, x_l0, x_l1, x_l2, x_av1, x_av2, x_ov1, x_ov2, x_at1, x_at2, x_ot1, x_ot2, x_p0, x_p1, x_o0, x_o1, x_seq, x_rng1, x_rng2, x_zip, sizeLine_eq, iL_len, setAll, setTg, wipeD, initS, ↓to_lb, ↓to_evl, ↓to_itl, lb_val, lb_exc, lb_none, itl_t, itl_f, evl_val, evl_none, evl_lb, A, B]; try simp only [of_lb, of_evl, of_itl])
end
theorem maths (s : List Int) (hs : s.length ≤ 63) : ∃ cs, semOf d_law.ps.length d_law.N.length d_law.gc (rns ⟨semT tab (conOf conT) (ciOf klsT rzT) 19, conOf conT, ciOf klsT rzT⟩ d_law.body) [.frz (s.map D.int)] [] = some (.val (.bl true), cs) := by
  obtain ⟨d, cs, e, rfl⟩ := law_ 0 s
  exact ⟨cs, e⟩
end EV

namespace EV
open PySem PySem.Spec PyProof.Rows L2 ZG
theorem end_mk {l : PySem.W.OpenLaw} {w : World} {K : PySem.W.Frag} {h : Heap} {mg : Str → Option Value} {fa fl f0 f1 f2 f3 f4 f5 f6 f7 f8 f9 f10 f11 f12 f13 f14 f15 f16 f17 f18 f19 f20 f21 f22 f23 f24 CForms CLook : Addr} (X : K.In h) (G : h.Ns mainGlobals mg) (hfa : mg "law" = some (.ref fa))
    {odl anl od0 an0 od1 an1 od2 an2 od3 an3 od4 an4 od5 an5 od6 an6 od7 an7 od8 an8 od9 an9 od10 an10 od11 an11 od12 an12 od13 an13 od14 an14 od15 an15 od16 an16 od17 an17 od18 an18 od19 an19 od20 an20 od21 an21 od22 an22 od23 an23 od24 an24 : Option Addr} {sll sl0 sl1 sl2 sl3 sl4 sl5 sl6 sl7 sl8 sl9 sl10 sl11 sl12 sl13 sl14 sl15 sl16 sl17 sl18 sl19 sl20 sl21 sl22 sl23 sl24 : Array (Option Value)} {ocl kVl dcl pml cdl ctl oc0 kV0 dc0 pm0 cd0 ct0 oc1 kV1 dc1 pm1 cd1 ct1 oc2 kV2 dc2 pm2 cd2 ct2 oc3 kV3 dc3 pm3 cd3 ct3 oc4 kV4 dc4 pm4 cd4 ct4 oc5 kV5 dc5 pm5 cd5 ct5 oc6 kV6 dc6 pm6 cd6 ct6 oc7 kV7 dc7 pm7 cd7 ct7 oc8 kV8 dc8 pm8 cd8 ct8 oc9 kV9 dc9 pm9 cd9 ct9 oc10 kV10 dc10 pm10 cd10 ct10 oc11 kV11 dc11 pm11 cd11 ct11 oc12 kV12 dc12 pm12 cd12 ct12 oc13 kV13 dc13 pm13 cd13 ct13 oc14 kV14 dc14 pm14 cd14 ct14 oc15 kV15 dc15 pm15 cd15 ct15 oc16 kV16 dc16 pm16 cd16 ct16 oc17 kV17 dc17 pm17 cd17 ct17 oc18 kV18 dc18 pm18 cd18 ct18 oc19 kV19 dc19 pm19 cd19 ct19 oc20 kV20 dc20 pm20 cd20 ct20 oc21 kV21 dc21 pm21 cd21 ct21 oc22 kV22 dc22 pm22 cd22 ct22 oc23 kV23 dc23 pm23 cd23 ct23 oc24 kV24 dc24 pm24 cd24 ct24 : Value} {t0 : Tok}
    (qForms : PySem.W.nsIn K mainGlobals "Forms" = some (some (.ref CForms)))
    (qLook : PySem.W.nsIn K mainGlobals "Look" = some (some (.ref CLook)))
    (a0 : PySem.W.nsIn K mainGlobals "is_whole" = some (some (.ref f0)))
    (l0 : K.lookup f0 = some ⟨oc0, od0, .func (PySem.W.fnOf "is_whole" "is_whole" (defArgs (topS 4)) (defBody (topS 4)) (defScope (topS 4)) .none kV0 dc0 pm0 an0 cd0 ct0), sl0⟩) (c0 : PySem.W.codeIn K cd0 "is_whole" = true) (k0 : PySem.W.keepIn K (.ref f0) = true)
    (a1 : PySem.W.nsIn K mainGlobals "are_whole" = some (some (.ref f1)))
    (l1 : K.lookup f1 = some ⟨oc1, od1, .func (PySem.W.fnOf "are_whole" "are_whole" (defArgs (topS 5)) (defBody (topS 5)) (defScope (topS 5)) .none kV1 dc1 pm1 an1 cd1 ct1), sl1⟩) (c1 : PySem.W.codeIn K cd1 "are_whole" = true) (k1 : PySem.W.keepIn K (.ref f1) = true)
    (a2 : PySem.W.nsIn K mainGlobals "is_form" = some (some (.ref f2)))
    (l2 : K.lookup f2 = some ⟨oc2, od2, .func (PySem.W.fnOf "is_form" "is_form" (defArgs (topS 6)) (defBody (topS 6)) (defScope (topS 6)) .none kV2 dc2 pm2 an2 cd2 ct2), sl2⟩) (c2 : PySem.W.codeIn K cd2 "is_form" = true) (k2 : PySem.W.keepIn K (.ref f2) = true)
    (a3 : PySem.W.nsIn K mainGlobals "often" = some (some (.ref f3)))
    (l3 : K.lookup f3 = some ⟨oc3, od3, .func (PySem.W.fnOf "often" "often" (defArgs (topS 8)) (defBody (topS 8)) (defScope (topS 8)) .none kV3 dc3 pm3 an3 cd3 ct3), sl3⟩) (c3 : PySem.W.codeIn K cd3 "often" = true) (k3 : PySem.W.keepIn K (.ref f3) = true)
    (a4 : PySem.W.nsIn K mainGlobals "contrary" = some (some (.ref f4)))
    (l4 : K.lookup f4 = some ⟨oc4, od4, .func (PySem.W.fnOf "contrary" "contrary" (defArgs (topS 9)) (defBody (topS 9)) (defScope (topS 9)) .none kV4 dc4 pm4 an4 cd4 ct4), sl4⟩) (c4 : PySem.W.codeIn K cd4 "contrary" = true) (k4 : PySem.W.keepIn K (.ref f4) = true)
    (a5 : PySem.W.nsIn K mainGlobals "_look_form" = some (some (.ref f5)))
    (l5 : K.lookup f5 = some ⟨oc5, od5, .func (PySem.W.fnOf "_look_form" "_look_form" (defArgs (topS 10)) (defBody (topS 10)) (defScope (topS 10)) .none kV5 dc5 pm5 an5 cd5 ct5), sl5⟩) (c5 : PySem.W.codeIn K cd5 "_look_form" = true) (k5 : PySem.W.keepIn K (.ref f5) = true)
    (a6 : PySem.W.nsIn K mainGlobals "shows" = some (some (.ref f6)))
    (l6 : K.lookup f6 = some ⟨oc6, od6, .func (PySem.W.fnOf "shows" "shows" (defArgs (topS 15)) (defBody (topS 15)) (defScope (topS 15)) .none kV6 dc6 pm6 an6 cd6 ct6), sl6⟩) (c6 : PySem.W.codeIn K cd6 "shows" = true) (k6 : PySem.W.keepIn K (.ref f6) = true)
    (a7 : PySem.W.nsIn K mainGlobals "sides_of" = some (some (.ref f7)))
    (l7 : K.lookup f7 = some ⟨oc7, od7, .func (PySem.W.fnOf "sides_of" "sides_of" (defArgs (topS 16)) (defBody (topS 16)) (defScope (topS 16)) .none kV7 dc7 pm7 an7 cd7 ct7), sl7⟩) (c7 : PySem.W.codeIn K cd7 "sides_of" = true) (k7 : PySem.W.keepIn K (.ref f7) = true)
    (a8 : PySem.W.nsIn K mainGlobals "_is_paper" = some (some (.ref f8)))
    (l8 : K.lookup f8 = some ⟨oc8, od8, .func (PySem.W.fnOf "_is_paper" "_is_paper" (defArgs (topS 17)) (defBody (topS 17)) (defScope (topS 17)) .none kV8 dc8 pm8 an8 cd8 ct8), sl8⟩) (c8 : PySem.W.codeIn K cd8 "_is_paper" = true) (k8 : PySem.W.keepIn K (.ref f8) = true)
    (a9 : PySem.W.nsIn K mainGlobals "_are_weights" = some (some (.ref f9)))
    (l9 : K.lookup f9 = some ⟨oc9, od9, .func (PySem.W.fnOf "_are_weights" "_are_weights" (defArgs (topS 18)) (defBody (topS 18)) (defScope (topS 18)) .none kV9 dc9 pm9 an9 cd9 ct9), sl9⟩) (c9 : PySem.W.codeIn K cd9 "_are_weights" = true) (k9 : PySem.W.keepIn K (.ref f9) = true)
    (a10 : PySem.W.nsIn K mainGlobals "_law_purse" = some (some (.ref f10)))
    (l10 : K.lookup f10 = some ⟨oc10, od10, .func (PySem.W.fnOf "_law_purse" "_law_purse" (defArgs (topS 20)) (defBody (topS 20)) (defScope (topS 20)) .none kV10 dc10 pm10 an10 cd10 ct10), sl10⟩) (c10 : PySem.W.codeIn K cd10 "_law_purse" = true) (k10 : PySem.W.keepIn K (.ref f10) = true)
    (a11 : PySem.W.nsIn K mainGlobals "_law_take" = some (some (.ref f11)))
    (l11 : K.lookup f11 = some ⟨oc11, od11, .func (PySem.W.fnOf "_law_take" "_law_take" (defArgs (topS 21)) (defBody (topS 21)) (defScope (topS 21)) .none kV11 dc11 pm11 an11 cd11 ct11), sl11⟩) (c11 : PySem.W.codeIn K cd11 "_law_take" = true) (k11 : PySem.W.keepIn K (.ref f11) = true)
    (a12 : PySem.W.nsIn K mainGlobals "_law_form" = some (some (.ref f12)))
    (l12 : K.lookup f12 = some ⟨oc12, od12, .func (PySem.W.fnOf "_law_form" "_law_form" (defArgs (topS 22)) (defBody (topS 22)) (defScope (topS 22)) .none kV12 dc12 pm12 an12 cd12 ct12), sl12⟩) (c12 : PySem.W.codeIn K cd12 "_law_form" = true) (k12 : PySem.W.keepIn K (.ref f12) = true)
    (a13 : PySem.W.nsIn K mainGlobals "_law_is_form" = some (some (.ref f13)))
    (l13 : K.lookup f13 = some ⟨oc13, od13, .func (PySem.W.fnOf "_law_is_form" "_law_is_form" (defArgs (topS 25)) (defBody (topS 25)) (defScope (topS 25)) .none kV13 dc13 pm13 an13 cd13 ct13), sl13⟩) (c13 : PySem.W.codeIn K cd13 "_law_is_form" = true) (k13 : PySem.W.keepIn K (.ref f13) = true)
    (a14 : PySem.W.nsIn K mainGlobals "_law_leaf" = some (some (.ref f14)))
    (l14 : K.lookup f14 = some ⟨oc14, od14, .func (PySem.W.fnOf "_law_leaf" "_law_leaf" (defArgs (topS 26)) (defBody (topS 26)) (defScope (topS 26)) .none kV14 dc14 pm14 an14 cd14 ct14), sl14⟩) (c14 : PySem.W.codeIn K cd14 "_law_leaf" = true) (k14 : PySem.W.keepIn K (.ref f14) = true)
    (a15 : PySem.W.nsIn K mainGlobals "_law_is_weights" = some (some (.ref f15)))
    (l15 : K.lookup f15 = some ⟨oc15, od15, .func (PySem.W.fnOf "_law_is_weights" "_law_is_weights" (defArgs (topS 27)) (defBody (topS 27)) (defScope (topS 27)) .none kV15 dc15 pm15 an15 cd15 ct15), sl15⟩) (c15 : PySem.W.codeIn K cd15 "_law_is_weights" = true) (k15 : PySem.W.keepIn K (.ref f15) = true)
    (a16 : PySem.W.nsIn K mainGlobals "_law_shows" = some (some (.ref f16)))
    (l16 : K.lookup f16 = some ⟨oc16, od16, .func (PySem.W.fnOf "_law_shows" "_law_shows" (defArgs (topS 28)) (defBody (topS 28)) (defScope (topS 28)) .none kV16 dc16 pm16 an16 cd16 ct16), sl16⟩) (c16 : PySem.W.codeIn K cd16 "_law_shows" = true) (k16 : PySem.W.keepIn K (.ref f16) = true)
    (a17 : PySem.W.nsIn K mainGlobals "_law_leaf_for" = some (some (.ref f17)))
    (l17 : K.lookup f17 = some ⟨oc17, od17, .func (PySem.W.fnOf "_law_leaf_for" "_law_leaf_for" (defArgs (topS 29)) (defBody (topS 29)) (defScope (topS 29)) .none kV17 dc17 pm17 an17 cd17 ct17), sl17⟩) (c17 : PySem.W.codeIn K cd17 "_law_leaf_for" = true) (k17 : PySem.W.keepIn K (.ref f17) = true)
    (a18 : PySem.W.findIn K (.ref CForms) "left" = some (some (.ref f18))) (i18 : PySem.W.isFn K (.ref f18) = true)
    (l18 : K.lookup f18 = some ⟨oc18, od18, .func (PySem.W.fnOf "left" "Forms.left" (defArgs (clsS (topS 13) 0)) (defBody (clsS (topS 13) 0)) (defScope (clsS (topS 13) 0)) .none kV18 dc18 pm18 an18 cd18 ct18), sl18⟩) (c18 : PySem.W.codeIn K cd18 "Forms.left" = true) (k18 : PySem.W.keepIn K (.ref f18) = true)
    (a19 : PySem.W.findIn K (.ref CForms) "further" = some (some (.ref f19))) (i19 : PySem.W.isFn K (.ref f19) = true)
    (l19 : K.lookup f19 = some ⟨oc19, od19, .func (PySem.W.fnOf "further" "Forms.further" (defArgs (clsS (topS 13) 1)) (defBody (clsS (topS 13) 1)) (defScope (clsS (topS 13) 1)) .none kV19 dc19 pm19 an19 cd19 ct19), sl19⟩) (c19 : PySem.W.codeIn K cd19 "Forms.further" = true) (k19 : PySem.W.keepIn K (.ref f19) = true)
    (a20 : PySem.W.findIn K (.ref CForms) "parted" = some (some (.ref f20))) (i20 : PySem.W.isFn K (.ref f20) = true)
    (l20 : K.lookup f20 = some ⟨oc20, od20, .func (PySem.W.fnOf "parted" "Forms.parted" (defArgs (clsS (topS 13) 2)) (defBody (clsS (topS 13) 2)) (defScope (clsS (topS 13) 2)) .none kV20 dc20 pm20 an20 cd20 ct20), sl20⟩) (c20 : PySem.W.codeIn K cd20 "Forms.parted" = true) (k20 : PySem.W.keepIn K (.ref f20) = true)
    (a21 : PySem.W.findIn K (.ref CLook) "__init__" = some (some (.ref f21))) (i21 : PySem.W.isFn K (.ref f21) = true)
    (l21 : K.lookup f21 = some ⟨oc21, od21, .func (PySem.W.fnOf "__init__" "Look.__init__" (defArgs (clsS (topS 14) 0)) (defBody (clsS (topS 14) 0)) (defScope (clsS (topS 14) 0)) .none kV21 dc21 pm21 an21 cd21 ct21), sl21⟩) (c21 : PySem.W.codeIn K cd21 "Look.__init__" = true) (k21 : PySem.W.keepIn K (.ref f21) = true)
    (a22 : PySem.W.findIn K (.ref CLook) "shows" = some (some (.ref f22))) (i22 : PySem.W.isFn K (.ref f22) = true)
    (l22 : K.lookup f22 = some ⟨oc22, od22, .func (PySem.W.fnOf "shows" "Look.shows" (defArgs (clsS (topS 14) 1)) (defBody (clsS (topS 14) 1)) (defScope (clsS (topS 14) 1)) .none kV22 dc22 pm22 an22 cd22 ct22), sl22⟩) (c22 : PySem.W.codeIn K cd22 "Look.shows" = true) (k22 : PySem.W.keepIn K (.ref f22) = true)
    (a23 : PySem.W.findIn K (.ref CLook) "_sum_shows" = some (some (.ref f23))) (i23 : PySem.W.isFn K (.ref f23) = true)
    (l23 : K.lookup f23 = some ⟨oc23, od23, .func (PySem.W.fnOf "_sum_shows" "Look._sum_shows" (defArgs (clsS (topS 14) 2)) (defBody (clsS (topS 14) 2)) (defScope (clsS (topS 14) 2)) .none kV23 dc23 pm23 an23 cd23 ct23), sl23⟩) (c23 : PySem.W.codeIn K cd23 "Look._sum_shows" = true) (k23 : PySem.W.keepIn K (.ref f23) = true)
    (a24 : PySem.W.findIn K (.ref CLook) "_never_shows" = some (some (.ref f24))) (i24 : PySem.W.isFn K (.ref f24) = true)
    (l24 : K.lookup f24 = some ⟨oc24, od24, .func (PySem.W.fnOf "_never_shows" "Look._never_shows" (defArgs (clsS (topS 14) 3)) (defBody (clsS (topS 14) 3)) (defScope (clsS (topS 14) 3)) .none kV24 dc24 pm24 an24 cd24 ct24), sl24⟩) (c24 : PySem.W.codeIn K cd24 "Look._never_shows" = true) (k24 : PySem.W.keepIn K (.ref f24) = true)
    (z0 : PySem.W.nsIn K mainGlobals "len" = some none)
    (z1 : PySem.W.nsIn K mainGlobals "abs" = some none)
    (z2 : PySem.W.nsIn K mainGlobals "max" = some none)
    (z3 : PySem.W.nsIn K mainGlobals "min" = some none)
    (z4 : PySem.W.nsIn K mainGlobals "sum" = some none)
    (z5 : PySem.W.nsIn K mainGlobals "all" = some none)
    (z6 : PySem.W.nsIn K mainGlobals "any" = some none)
    (z7 : PySem.W.nsIn K mainGlobals "sorted" = some none)
    (z8 : PySem.W.nsIn K mainGlobals "int" = some none)
    (z9 : PySem.W.nsIn K mainGlobals "str" = some none)
    (z10 : PySem.W.nsIn K mainGlobals "list" = some none)
    (z11 : PySem.W.nsIn K mainGlobals "tuple" = some none)
    (z12 : PySem.W.nsIn K mainGlobals "bool" = some none)
    (z13 : PySem.W.nsIn K mainGlobals "dict" = some none)
    (z14 : PySem.W.nsIn K mainGlobals "isinstance" = some none)
    (z15 : PySem.W.nsIn K mainGlobals "range" = some none)
    (z16 : PySem.W.nsIn K mainGlobals "zip" = some none)
    (z17 : PySem.W.nsIn K mainGlobals "enumerate" = some none)
    (z18 : PySem.W.nsIn K mainGlobals "set" = some none)
    (z19 : PySem.W.nsIn K mainGlobals "repr" = some none)
    (z20 : PySem.W.nsIn K mainGlobals "reversed" = some none)
    (z21 : PySem.W.nsIn K mainGlobals "type" = some none)
    (hci : ciB K klsT rzT = true)
    (con0 : PySem.W.nsIn K mainGlobals "MOST_WITHIN" = some (some (.int (10) t0)))
    (aL : PySem.W.nsIn K mainGlobals "law" = some (some (.ref fl))) (lL : K.lookup fl = some ⟨ocl, odl, .func (PySem.W.fnOf "law" "law" (defArgs (topS 30)) (defBody (topS 30)) (defScope (topS 30)) .none kVl dcl pml anl cdl ctl), sll⟩) (cL : PySem.W.codeIn K cdl "law" = true)
    : LawC l w K (L2.CX l.prog w) 63 "script" mg fa h := by
  have F : Facts K mg tab := ⟨fact_mk (d := d_is_whole) X G (fun _ _ _ _ _ _ us hl => match us, hl with | [_], _ => rfl) rfl a0 l0 c0 k0, fact_mk (d := d_are_whole) X G (fun _ _ _ _ _ _ us hl => match us, hl with | [_], _ => rfl) rfl a1 l1 c1 k1, fact_mk (d := d_is_form) X G (fun _ _ _ _ _ _ us hl => match us, hl with | [_], _ => rfl) rfl a2 l2 c2 k2, fact_mk (d := d_often) X G (fun _ _ _ _ _ _ us hl => match us, hl with | [_, _], _ => rfl) rfl a3 l3 c3 k3, fact_mk (d := d_contrary) X G (fun _ _ _ _ _ _ us hl => match us, hl with | [_], _ => rfl) rfl a4 l4 c4 k4, fact_mk (d := d__look_form) X G (fun _ _ _ _ _ _ us hl => match us, hl with | [_], _ => rfl) rfl a5 l5 c5 k5, fact_mk (d := d_shows) X G (fun _ _ _ _ _ _ us hl => match us, hl with | [_, _, _, _], _ => rfl) rfl a6 l6 c6 k6, fact_mk (d := d_sides_of) X G (fun _ _ _ _ _ _ us hl => match us, hl with | [_], _ => rfl) rfl a7 l7 c7 k7, fact_mk (d := d__is_paper) X G (fun _ _ _ _ _ _ us hl => match us, hl with | [_], _ => rfl) rfl a8 l8 c8 k8, fact_mk (d := d__are_weights) X G (fun _ _ _ _ _ _ us hl => match us, hl with | [_], _ => rfl) rfl a9 l9 c9 k9, fact_mk (d := d__law_purse) X G (fun _ _ _ _ _ _ us hl => match us, hl with | [_, _], _ => rfl) rfl a10 l10 c10 k10, fact_mk (d := d__law_take) X G (fun _ _ _ _ _ _ us hl => match us, hl with | [_, _], _ => rfl) rfl a11 l11 c11 k11, fact_mk (d := d__law_form) X G (fun _ _ _ _ _ _ us hl => match us, hl with | [_, _, _], _ => rfl) rfl a12 l12 c12 k12, fact_mk (d := d__law_is_form) X G (fun _ _ _ _ _ _ us hl => match us, hl with | [_], _ => rfl) rfl a13 l13 c13 k13, fact_mk (d := d__law_leaf) X G (fun _ _ _ _ _ _ us hl => match us, hl with | [_, _, _], _ => rfl) rfl a14 l14 c14 k14, fact_mk (d := d__law_is_weights) X G (fun _ _ _ _ _ _ us hl => match us, hl with | [_], _ => rfl) rfl a15 l15 c15 k15, fact_mk (d := d__law_shows) X G (fun _ _ _ _ _ _ us hl => match us, hl with | [_, _, _, _, _], _ => rfl) rfl a16 l16 c16 k16, fact_mk (d := d__law_leaf_for) X G (fun _ _ _ _ _ _ us hl => match us, hl with | [_, _, _], _ => rfl) rfl a17 l17 c17 k17, fact_mkM (d := d_Forms_left) (c := 20) (j := 87) (x := "Forms") (fun _ _ _ _ _ _ us hl => match us, hl with | [_, _, _, _, _], _ => rfl) rfl rfl rfl qForms a18 i18 l18 c18 k18, fact_mkM (d := d_Forms_further) (c := 20) (j := 68) (x := "Forms") (fun _ _ _ _ _ _ us hl => match us, hl with | [_, _], _ => rfl) rfl rfl rfl qForms a19 i19 l19 c19 k19, fact_mkM (d := d_Forms_parted) (c := 20) (j := 109) (x := "Forms") (fun _ _ _ _ _ _ us hl => match us, hl with | [_, _], _ => rfl) rfl rfl rfl qForms a20 i20 l20 c20 k20, fact_mkM (d := d_Look__init__) (c := 21) (j := 1) (x := "Look") (fun _ _ _ _ _ _ us hl => match us, hl with | [_, _, _, _, _], _ => rfl) rfl rfl rfl qLook a21 i21 l21 c21 k21, fact_mkM (d := d_Look_shows) (c := 21) (j := 124) (x := "Look") (fun _ _ _ _ _ _ us hl => match us, hl with | [_, _, _, _], _ => rfl) rfl rfl rfl qLook a22 i22 l22 c22 k22, fact_mkM (d := d_Look__sum_shows) (c := 21) (j := 33) (x := "Look") (fun _ _ _ _ _ _ us hl => match us, hl with | [_, _, _, _], _ => rfl) rfl rfl rfl qLook a23 i23 l23 c23 k23, fact_mkM (d := d_Look__never_shows) (c := 21) (j := 26) (x := "Look") (fun _ _ _ _ _ _ us hl => match us, hl with | [_, _, _], _ => rfl) rfl rfl rfl qLook a24 i24 l24 c24 k24, trivial⟩
  have N : Nones K allNames := ⟨z0, z1, z2, z3, z4, z5, z6, z7, z8, z9, z10, z11, z12, z13, z14, z15, z16, z17, z18, z19, z20, z21, trivial⟩
  have C : ConFacts mg conT := ⟨con_int X G con0, trivial⟩
  have e := hfa.symm.trans (PySem.W.mg_of X G aL)
  cases e
  refine ⟨PySem.W.fnOf "law" "law" (defArgs d_law.st) (defBody d_law.st) (defScope d_law.st) .none kVl dcl pml anl cdl ctl, [], spT K 63, (fun _ z => nomatch z), (fun _ z => nomatch z), (fun _ z => nomatch z), fun t u => .of_eq rfl, fun H b zs hl _ hS => ⟨b, zs, rfl, hS, hl, fun _ => rfl⟩, fun base _ _ _ => ?_⟩
  exact law_okR (tok_mk X G F tab_ok kls_ok N C hci) (n := 19) (m := 63) (d := d_law) ⟨rfl, by decide, by decide⟩ lL cL law_chk rfl rfl maths
end EV
open PySem PySem.W PyProof.Rows
set_option maxHeartbeats 0 in
theorem PySem.Challenge.cw_paperrows_k21_sums_and_nevers_holds : PySem.Challenge.rw_paperrows_k21_sums_and_nevers.Holds := by
  w_on; o_law; k_head; (case hw => w_witness2)
  k_fill
  refine EV.walkC (l := PySem.Challenge.rw_paperrows_k21_sums_and_nevers) (n := 63) (x := "script") (CX := fun w => L2.CX (PySem.Challenge.rw_paperrows_k21_sums_and_nevers).prog w) rfl (by decide) rfl (fun w h Y => PySem.W.kIn_of Y) ?F (fun _ _ _ _ _ h => by obtain ⟨_, _, _, _, _, _, _, _, _, _, _, _, h⟩ := h; exact h)
  case F =>
    intro w mg fa h KX G hmg _
    refine' EV.end_mk KX G hmg ?qForms ?qLook ?a0 ?l0 ?c0 ?k0 ?a1 ?l1 ?c1 ?k1 ?a2 ?l2 ?c2 ?k2 ?a3 ?l3 ?c3 ?k3 ?a4 ?l4 ?c4 ?k4 ?a5 ?l5 ?c5 ?k5 ?a6 ?l6 ?c6 ?k6 ?a7 ?l7 ?c7 ?k7 ?a8 ?l8 ?c8 ?k8 ?a9 ?l9 ?c9 ?k9 ?a10 ?l10 ?c10 ?k10 ?a11 ?l11 ?c11 ?k11 ?a12 ?l12 ?c12 ?k12 ?a13 ?l13 ?c13 ?k13 ?a14 ?l14 ?c14 ?k14 ?a15 ?l15 ?c15 ?k15 ?a16 ?l16 ?c16 ?k16 ?a17 ?l17 ?c17 ?k17 ?a18 ?i18 ?l18 ?c18 ?k18 ?a19 ?i19 ?l19 ?c19 ?k19 ?a20 ?i20 ?l20 ?c20 ?k20 ?a21 ?i21 ?l21 ?c21 ?k21 ?a22 ?i22 ?l22 ?c22 ?k22 ?a23 ?i23 ?l23 ?c23 ?k23 ?a24 ?i24 ?l24 ?c24 ?k24 ?z0 ?z1 ?z2 ?z3 ?z4 ?z5 ?z6 ?z7 ?z8 ?z9 ?z10 ?z11 ?z12 ?z13 ?z14 ?z15 ?z16 ?z17 ?z18 ?z19 ?z20 ?z21 ?hci ?con0 ?aL ?lL ?cL
    (case qForms => k_is)
    (case qLook => k_is)
    (case a0 => k_is)
    (case l0 => k_is)
    (case c0 => k_is)
    (case k0 => k_is)
    (case a1 => k_is)
    (case l1 => k_is)
    (case c1 => k_is)
    (case k1 => k_is)
    (case a2 => k_is)
    (case l2 => k_is)
    (case c2 => k_is)
    (case k2 => k_is)
    (case a3 => k_is)
    (case l3 => k_is)
    (case c3 => k_is)
    (case k3 => k_is)
    (case a4 => k_is)
    (case l4 => k_is)
    (case c4 => k_is)
    (case k4 => k_is)
    (case a5 => k_is)
    (case l5 => k_is)
    (case c5 => k_is)
    (case k5 => k_is)
    (case a6 => k_is)
    (case l6 => k_is)
    (case c6 => k_is)
    (case k6 => k_is)
    (case a7 => k_is)
    (case l7 => k_is)
    (case c7 => k_is)
    (case k7 => k_is)
    (case a8 => k_is)
    (case l8 => k_is)
    (case c8 => k_is)
    (case k8 => k_is)
    (case a9 => k_is)
    (case l9 => k_is)
    (case c9 => k_is)
    (case k9 => k_is)
    (case a10 => k_is)
    (case l10 => k_is)
    (case c10 => k_is)
    (case k10 => k_is)
    (case a11 => k_is)
    (case l11 => k_is)
    (case c11 => k_is)
    (case k11 => k_is)
    (case a12 => k_is)
    (case l12 => k_is)
    (case c12 => k_is)
    (case k12 => k_is)
    (case a13 => k_is)
    (case l13 => k_is)
    (case c13 => k_is)
    (case k13 => k_is)
    (case a14 => k_is)
    (case l14 => k_is)
    (case c14 => k_is)
    (case k14 => k_is)
    (case a15 => k_is)
    (case l15 => k_is)
    (case c15 => k_is)
    (case k15 => k_is)
    (case a16 => k_is)
    (case l16 => k_is)
    (case c16 => k_is)
    (case k16 => k_is)
    (case a17 => k_is)
    (case l17 => k_is)
    (case c17 => k_is)
    (case k17 => k_is)
    (case a18 => k_is)
    (case i18 => first | k_is | kernel_rfl)
    (case l18 => k_is)
    (case c18 => k_is)
    (case k18 => k_is)
    (case a19 => k_is)
    (case i19 => first | k_is | kernel_rfl)
    (case l19 => k_is)
    (case c19 => k_is)
    (case k19 => k_is)
    (case a20 => k_is)
    (case i20 => first | k_is | kernel_rfl)
    (case l20 => k_is)
    (case c20 => k_is)
    (case k20 => k_is)
    (case a21 => k_is)
    (case i21 => first | k_is | kernel_rfl)
    (case l21 => k_is)
    (case c21 => k_is)
    (case k21 => k_is)
    (case a22 => k_is)
    (case i22 => first | k_is | kernel_rfl)
    (case l22 => k_is)
    (case c22 => k_is)
    (case k22 => k_is)
    (case a23 => k_is)
    (case i23 => first | k_is | kernel_rfl)
    (case l23 => k_is)
    (case c23 => k_is)
    (case k23 => k_is)
    (case a24 => k_is)
    (case i24 => first | k_is | kernel_rfl)
    (case l24 => k_is)
    (case c24 => k_is)
    (case k24 => k_is)
    (case z0 => k_is)
    (case z1 => k_is)
    (case z2 => k_is)
    (case z3 => k_is)
    (case z4 => k_is)
    (case z5 => k_is)
    (case z6 => k_is)
    (case z7 => k_is)
    (case z8 => k_is)
    (case z9 => k_is)
    (case z10 => k_is)
    (case z11 => k_is)
    (case z12 => k_is)
    (case z13 => k_is)
    (case z14 => k_is)
    (case z15 => k_is)
    (case z16 => k_is)
    (case z17 => k_is)
    (case z18 => k_is)
    (case z19 => k_is)
    (case z20 => k_is)
    (case z21 => k_is)
    (case hci => kernel_rfl)
    (case con0 => k_is)
    (case aL => k_is)
    (case lL => k_is)
    (case cL => k_is)
