import PyProof.Rows.All
import Wide.All
import OpenK.AllK
import Wide.FinOn
import HandS.ForMost
import HandS.Zip0
import HandS.Zip
import HandS.Walk
import HandS.TupMul
import HandS.IsInst
import HandS.Wide
import HandS.WideMore
import HandS.TupLe
import HandS.TupAny
import HandS.ForExc
import HandS.Codes
import HandS.HotCalls
import HandS.ExcIs
import HandS.Lambda
import HandS.EndOwn
import HandS.CallSlots
import HandS.WordsExc
import KE.KTryMore
import PyProof.StrOps2
import KE.KNestM
import PySem.Challenge.RW_paperrows_k02_forms_put_together
set_option Elab.async false
set_option linter.all false
set_option maxRecDepth 100000
set_option maxHeartbeats 8000000
/-! zip of a list or tuple with a list or tuple -/
namespace ZG
open PySem PySem.Spec PyProof.Rows L2
/-- a tuple (true) or a list (false) stands at l -/
def SeqH : Bool → Heap → Addr → Array Value → Prop
  | true, h, l, xs => h.IsTuple l xs
  | false, h, l, xs => h.IsList l xs
def IterH : Bool → Heap → Addr → Addr → Nat → Prop
  | true, h, it, l, k => h.IsTupleIter it l k
  | false, h, it, l, k => h.IsListIter it l k
def itName : Bool → String
  | true => "tuple_iterator"
  | false => "list_iterator"
def itObj (t : Bool) (l : Addr) : Obj := { cls := .type (itName t), data := .fields #[.ref l, .int 0 0] }
section
variable {prog : Program} {w : World} {A : Around} {E : Value → Shared → Prop} {st : Shared}
theorem SeqH.eb {t : Bool} {h g : Heap} {b l : Addr} {xs : Array Value} (q : SeqH t h l xs) (e : Heap.ExtBut b h g) (n : l ≠ b) : SeqH t g l xs := by
  cases t
  · exact Heap.IsList.extBut q e n
  · exact Heap.IsTuple.extBut q e n
theorem IterH.eb {t : Bool} {h g : Heap} {b it l : Addr} {k : Nat} (q : IterH t h it l k) (e : Heap.ExtBut b h g) (n : it ≠ b) : IterH t g it l k := by
  cases t
  · exact Heap.IsListIter.extBut q e n
  · exact Heap.IsTupleIter.extBut q e n
theorem IterH.to {t : Bool} {h g : Heap} {it l : Addr} {k : Nat} (q : IterH t h it l k) (e : ∀ o, h.get? it = some o → g.get? it = some o) : IterH t g it l k := by
  cases t
  · exact Heap.IsListIter.at q e
  · exact Heap.IsTupleIter.at q e
theorem IterH.lt {t : Bool} {h : Heap} {it l : Addr} {k : Nat} (q : IterH t h it l k) : it < h.objs.size := by
  cases t
  · obtain ⟨_, e, _⟩ := q
    exact Heap.lt_size e
  · obtain ⟨_, e, _⟩ := q
    exact Heap.lt_size e
theorem IterH.plain {t : Bool} {h : Heap} {it l : Addr} {k : Nat} (q : IterH t h it l k) : ∃ o, h.get? it = some o ∧ ∀ v, o.data ≠ .cell v := by
  cases t
  · obtain ⟨o, e, _, d⟩ := q
    exact ⟨o, e, fun v z => by rw [d] at z; cases z⟩
  · obtain ⟨o, e, _, d⟩ := q
    exact ⟨o, e, fun v z => by rw [d] at z; cases z⟩
theorem SeqH.psh {t : Bool} {h : Heap} {l : Addr} {xs : Array Value} (q : SeqH t h l xs) (o : Obj) : SeqH t (h.push o) l xs := by
  cases t
  · exact Heap.IsList.push q o
  · exact Heap.IsTuple.push q o
theorem nextG {t : Bool} {it l : Addr} {i : Nat} {its : Array Value} {x : Value} {Q : Value → Shared → Prop} (q1 : IterH t st.heap it l i)
    (q2 : SeqH t st.heap l its) (q3 : its[i]? = some x) (q4 : ∀ h', IterH t h' it l (i + 1) → Heap.SameBut it st.heap h' → Q x { st with heap := h' }) :
    wpAny (model prog w) A (Builtin.SmallTypes.nextOf (.ref it)) Q E st := by
  cases t
  · exact wpAny_nextOf_list_item q1 q2 q3 q4
  · exact RZ.nextOf_tuple_item q1 q2 q3 q4
theorem stopG {t : Bool} {it l : Addr} {i : Nat} {its : Array Value} {Q : Value → Shared → Prop} (q0 : A.handled = none) (q1 : IterH t st.heap it l i)
    (q2 : SeqH t st.heap l its) (q3 : its[i]? = none) (q4 : ∀ h' e, Heap.ExtBut it st.heap h' → (∃ o, h'.get? e = some o ∧ o.cls = .type "StopIteration") → E (.ref e) { st with heap := h' }) :
    wpAny (model prog w) A (Builtin.SmallTypes.nextOf (.ref it)) Q E st := by
  cases t
  · exact wpAny_nextOf_list_end q0 q1 q2 q3 q4
  · exact RZ.nextOf_tuple_end q0 q1 q2 q3 q4
theorem iterG {t : Bool} {l : Addr} {its : Array Value} {Q : Value → Shared → Prop} (q : SeqH t st.heap l its) (r : Q (.ref st.heap.objs.size) { st with heap := st.heap.push (itObj t l) }) :
    wpAny (model prog w) A (pyIter (.ref l)) Q E st := by
  cases t
  · exact wpAny_pyIter_list q r
  · exact wpAny_pyIter_tuple q r
theorem IterH.fresh (t : Bool) {h : Heap} {it l : Addr} (q : h.get? it = some (itObj t l)) : IterH t h it l 0 := by
  cases t
  · exact ⟨_, q, rfl, rfl⟩
  · exact ⟨_, q, rfl, rfl⟩
end
end ZG

namespace ZG
open PySem PySem.Spec PyProof.Rows L2
section
variable {prog : Program} {w : World} {A : Around} {E : Value → Shared → Prop} {st : Shared}
theorem zipG_item {ta tb : Bool} {zz ti tO ia ib la lb : Addr} {ka kb : Nat} {va vb : Array Value} {x y a b : Value} {Q : Value → Shared → Prop} (D : ZipApart zz ti tO ia ib la lb)
    (gz : IsZip st.heap zz ti tO .none) (gi : IsPair st.heap ti (.ref ia) (.ref ib)) (gO : IsPair st.heap tO a b)
    (ga : IterH ta st.heap ia la ka) (gb : IterH tb st.heap ib lb kb) (sa : SeqH ta st.heap la va) (sb : SeqH tb st.heap lb vb) (ex : va[ka]? = some x) (ey : vb[kb]? = some y)
    (gQ : ∀ h', IsZip h' zz ti tO (rawInt st.heap.objs.size) → IsPair h' tO x y → IterH ta h' ia la (ka + 1) → IterH tb h' ib lb (kb + 1) → IsPair h' st.heap.objs.size x y → h'.objs.size = st.heap.objs.size + 1 →
      (∀ c o, c ≠ zz → c ≠ tO → c ≠ ia → c ≠ ib → st.heap.get? c = some o → h'.get? c = some o) → Q (.ref st.heap.objs.size) { st with heap := h' }) :
    wpAny (model prog w) A (Builtin.«zip.__next__» ⟨[.ref zz], []⟩) (fun fin s' => ∃ v, fin = .done (.ret v) ∧ Q v s') E st := by
  show wpAny _ _ (field (.ref zz) 2 >>= _) _ _ _
  refine wpAny_bind (wpAny_field gz rfl (x := .bool false) rfl ?_)
  show wpAny _ _ (field (.ref zz) 3 >>= _) _ _ _
  refine wpAny_bind (wpAny_field gz rfl (x := .ref ti) rfl ?_)
  refine wpAny_bind (wpAny_seqItems gi rfl ?_)
  show wpAny _ _ (Builtin.SmallTypes.ownedTupleIsFree (.ref zz) >>= _) _ _ _
  refine wpAny_bind ?_
  unfold Builtin.SmallTypes.ownedTupleIsFree
  refine wpAny_bind (wpAny_field gz rfl (x := .none) rfl (wpAny_pure ?_))
  simp only [if_true]
  refine wpAny_bind (wpAny_rule ?_)
  refine wpAny_bind (wpAny_field gz rfl (x := .ref tO) rfl ?_)
  refine wpAny_bind (wpAny_setField_rec gz (by simp) fun j1 z1 m1 => ?_)
  replace z1 : IsZip j1 zz ti tO .ellipsis := z1
  refine wpAny_bind ?_
  simp only [List.forIn_cons, List.forIn_nil, List.zipIdx_cons, List.zipIdx_nil]
  refine wpAny_bind (wpAny_bind (wpAny_onRaise ?_))
  show wpAny _ _ (Builtin.SmallTypes.nextOf (.ref ia) >>= _) _ _ _
  refine wpAny_bind (nextG (ga.eb m1.extBut D.i1z) (sa.eb m1.extBut D.l1z) ex fun j2 i2 m2 => wpAny_pure ?_)
  have o2 : IsPair j2 tO a b := m2.extBut _ _ D.TOi1 (m1.extBut _ _ D.TOz gO)
  refine wpAny_bind (wpAny_seqItems o2 rfl ?_)
  refine wpAny_bind (wpAny_updateSeq_pair o2 fun j3 o3 m3 => ?_)
  replace o3 : IsPair j3 tO x b := o3
  refine wpAny_bind (wpAny_letGo (wpAny_pure ?_))
  refine wpAny_bind (wpAny_bind (wpAny_onRaise ?_))
  show wpAny _ _ (Builtin.SmallTypes.nextOf (.ref ib) >>= _) _ _ _
  refine wpAny_bind (nextG (((gb.eb m1.extBut D.i2z).eb m2.extBut D.i12.symm).eb m3.extBut D.TOi2.symm)
    (((sb.eb m1.extBut D.l2z).eb m2.extBut D.l2i1).eb m3.extBut D.l2TO) ey fun j4 i4 m4 => wpAny_pure ?_)
  have o4 : IsPair j4 tO x b := m4.extBut _ _ D.TOi2 o3
  refine wpAny_bind (wpAny_seqItems o4 rfl ?_)
  refine wpAny_bind (wpAny_updateSeq_pair o4 fun j5 o5 m5 => ?_)
  replace o5 : IsPair j5 tO x y := o5
  refine wpAny_bind (wpAny_letGo (wpAny_pure (wpAny_pure ?_)))
  refine wpAny_bind (wpAny_seqItems o5 rfl ?_)
  refine wpAny_bind (wpAny_newTuple ?_)
  have es : j5.objs.size = st.heap.objs.size := by rw [m5.1, m4.1, m3.1, m2.1, m1.1]
  have z5 : IsZip j5 zz ti tO .ellipsis := m5.extBut _ _ D.TOz.symm (m4.extBut _ _ D.i2z.symm (m3.extBut _ _ D.TOz.symm (m2.extBut _ _ D.i1z.symm z1)))
  have k5 : ∀ c o, c ≠ zz → c ≠ tO → c ≠ ia → c ≠ ib → st.heap.get? c = some o → j5.get? c = some o := fun c o c1 c2 c3 c4 e =>
    m5.extBut _ _ c2 (m4.extBut _ _ c4 (m3.extBut _ _ c2 (m2.extBut _ _ c3 (m1.extBut _ _ c1 e))))
  have a5 : IterH ta j5 ia la (ka + 1) := ((i2.eb m3.extBut D.TOi1.symm).eb m4.extBut D.i12).eb m5.extBut D.TOi1.symm
  have b5 : IterH tb j5 ib lb (kb + 1) := i4.eb m5.extBut D.TOi2.symm
  have lz : zz < j5.objs.size := Heap.lt_size z5
  show wpAny _ _ (Builtin.SmallTypes.ownedTupleHandOut (.ref zz) (.ref j5.objs.size) >>= _) _ _ _
  refine wpAny_bind ?_
  unfold Builtin.SmallTypes.ownedTupleHandOut
  have z6 : IsZip (j5.push { cls := .type "tuple", data := .seq #[x, y] }) zz ti tO .ellipsis := Heap.get?_push_of_some _ z5
  refine wpAny_bind (wpAny_setField_rec z6 (by simp) fun j7 z7 m7 => ?_)
  replace z7 : IsZip j7 zz ti tO (rawInt j5.objs.size) := z7
  refine wpAny_setField_rec z7 (by simp) fun j8 z8 m8 => ?_
  replace z8 : IsZip j8 zz ti tO (rawInt j5.objs.size) := z8
  have up : ∀ c o, c ≠ zz → j5.get? c = some o → j8.get? c = some o := fun c o c1 e => m8.extBut _ _ c1 (m7.extBut _ _ c1 (Heap.get?_push_of_some _ e))
  have t8 : IsPair j8 j5.objs.size x y := m8.extBut _ _ (Nat.ne_of_gt lz) (m7.extBut _ _ (Nat.ne_of_gt lz) (Heap.get?_push_size _ rfl))
  have s8 : j8.objs.size = j5.objs.size + 1 := by rw [m8.1, m7.1, Heap.size_push]
  rw [es] at z8 t8 s8
  refine wpAny_pure ⟨_, rfl, ?_⟩
  show Q (.ref j5.objs.size) _
  rw [es]
  exact gQ j8 z8 (up _ _ D.TOz o5) (a5.to fun o e => up _ o D.i1z e) (b5.to fun o e => up _ o D.i2z e) t8 s8 fun c o c1 c2 c3 c4 e => up c o c1 (k5 c o c1 c2 c3 c4 e)
theorem zipG_end {ta tb : Bool} {zz ti tO ia ib la lb : Addr} {ka kb : Nat} {va vb : Array Value} {a b : Value} {Q : Fin → Shared → Prop} (g0 : A.handled = none) (D : ZipApart zz ti tO ia ib la lb)
    (gz : IsZip st.heap zz ti tO .none) (gi : IsPair st.heap ti (.ref ia) (.ref ib)) (gO : IsPair st.heap tO a b)
    (ga : IterH ta st.heap ia la ka) (gb : IterH tb st.heap ib lb kb) (sa : SeqH ta st.heap la va) (sb : SeqH tb st.heap lb vb) (he : va[ka]? = none ∨ vb[kb]? = none)
    (gE : ∀ h' e, (∀ c o, c ≠ zz → c ≠ tO → c ≠ ia → c ≠ ib → st.heap.get? c = some o → h'.get? c = some o) → (∃ o, h'.get? e = some o ∧ o.cls = .type "StopIteration") → E (.ref e) { st with heap := h' }) :
    wpAny (model prog w) A (Builtin.«zip.__next__» ⟨[.ref zz], []⟩) Q E st := by
  show wpAny _ _ (field (.ref zz) 2 >>= _) _ _ _
  refine wpAny_bind (wpAny_field gz rfl (x := .bool false) rfl ?_)
  show wpAny _ _ (field (.ref zz) 3 >>= _) _ _ _
  refine wpAny_bind (wpAny_field gz rfl (x := .ref ti) rfl ?_)
  refine wpAny_bind (wpAny_seqItems gi rfl ?_)
  show wpAny _ _ (Builtin.SmallTypes.ownedTupleIsFree (.ref zz) >>= _) _ _ _
  refine wpAny_bind ?_
  unfold Builtin.SmallTypes.ownedTupleIsFree
  refine wpAny_bind (wpAny_field gz rfl (x := .none) rfl (wpAny_pure ?_))
  simp only [if_true]
  refine wpAny_bind (wpAny_rule ?_)
  refine wpAny_bind (wpAny_field gz rfl (x := .ref tO) rfl ?_)
  refine wpAny_bind (wpAny_setField_rec gz (by simp) fun j1 z1 m1 => ?_)
  replace z1 : IsZip j1 zz ti tO .ellipsis := z1
  refine wpAny_bind ?_
  simp only [List.forIn_cons, List.forIn_nil, List.zipIdx_cons, List.zipIdx_nil]
  refine wpAny_bind (wpAny_bind (wpAny_onRaise ?_))
  show wpAny _ _ (Builtin.SmallTypes.nextOf (.ref ia) >>= _) _ _ _
  cases ex : va[ka]? with
  | none =>
    refine wpAny_bind (stopG g0 (ga.eb m1.extBut D.i1z) (sa.eb m1.extBut D.l1z) ex fun j2 e m2 ge => ?_)
    obtain ⟨oe, goe, gce⟩ := ge
    have z2 : IsZip j2 zz ti tO .ellipsis := m2 _ _ D.i1z.symm z1
    have nez : e ≠ zz := fun x => by subst x; rw [z2] at goe; cases goe; simp at gce
    refine wpAny_setField_rec z2 (by simp) fun j3 _ m3 => gE j3 e (fun c o c1 _ c3 _ x => m3.extBut _ _ c1 (m2 _ _ c3 (m1.extBut _ _ c1 x))) ⟨oe, m3.extBut _ _ nez goe, gce⟩
  | some x =>
    have ey : vb[kb]? = none := by
      rcases he with h | h
      · rw [ex] at h
        cases h
      · exact h
    refine wpAny_bind (nextG (ga.eb m1.extBut D.i1z) (sa.eb m1.extBut D.l1z) ex fun j2 i2 m2 => wpAny_pure ?_)
    have o2 : IsPair j2 tO a b := m2.extBut _ _ D.TOi1 (m1.extBut _ _ D.TOz gO)
    refine wpAny_bind (wpAny_seqItems o2 rfl ?_)
    refine wpAny_bind (wpAny_updateSeq_pair o2 fun j3 o3 m3 => ?_)
    refine wpAny_bind (wpAny_letGo (wpAny_pure ?_))
    refine wpAny_bind (wpAny_bind (wpAny_onRaise ?_))
    show wpAny _ _ (Builtin.SmallTypes.nextOf (.ref ib) >>= _) _ _ _
    refine wpAny_bind (stopG g0 (((gb.eb m1.extBut D.i2z).eb m2.extBut D.i12.symm).eb m3.extBut D.TOi2.symm)
      (((sb.eb m1.extBut D.l2z).eb m2.extBut D.l2i1).eb m3.extBut D.l2TO) ey fun j4 e m4 ge => ?_)
    obtain ⟨oe, goe, gce⟩ := ge
    have z4 : IsZip j4 zz ti tO .ellipsis := m4 _ _ D.i2z.symm (m3.extBut _ _ D.TOz.symm (m2.extBut _ _ D.i1z.symm z1))
    have nez : e ≠ zz := fun x => by subst x; rw [z4] at goe; cases goe; simp at gce
    refine wpAny_setField_rec z4 (by simp) fun j5 _ m5 => gE j5 e (fun c o c1 c2 c3 c4 x => m5.extBut _ _ c1 (m4 _ _ c4 (m3.extBut _ _ c2 (m2.extBut _ _ c3 (m1.extBut _ _ c1 x))))) ⟨oe, m5.extBut _ _ nez goe, gce⟩
theorem pyNextG_item {ta tb : Bool} {zz ti tO ia ib la lb : Addr} {ka kb : Nat} {va vb : Array Value} {x y a b : Value} {Q : Option Value → Shared → Prop} (D : ZipApart zz ti tO ia ib la lb)
    (gz : IsZip st.heap zz ti tO .none) (gi : IsPair st.heap ti (.ref ia) (.ref ib)) (gO : IsPair st.heap tO a b)
    (ga : IterH ta st.heap ia la ka) (gb : IterH tb st.heap ib lb kb) (sa : SeqH ta st.heap la va) (sb : SeqH tb st.heap lb vb) (ex : va[ka]? = some x) (ey : vb[kb]? = some y)
    (gQ : ∀ h', IsZip h' zz ti tO (rawInt st.heap.objs.size) → IsPair h' tO x y → IterH ta h' ia la (ka + 1) → IterH tb h' ib lb (kb + 1) → IsPair h' st.heap.objs.size x y → h'.objs.size = st.heap.objs.size + 1 →
      (∀ c o, c ≠ zz → c ≠ tO → c ≠ ia → c ≠ ib → st.heap.get? c = some o → h'.get? c = some o) → Q (some (.ref st.heap.objs.size)) { st with heap := h' }) :
    wpAny (model prog w) A (pyNext (.ref zz)) Q E st := by
  have tz : st.TypeIs (.ref zz) "zip" := ⟨_, gz, rfl⟩
  unfold pyNext
  exact wpAny_bind (wpAny_attempt (wpAny_callSpecial?_slot (name := Str.ofString "__next__") tz F.slot_zip_next
    (wpAny_call_entry F.slot_zip_next tz F.entry_zip_next
      (zipG_item D gz gi gO ga gb sa sb ex ey fun h' a1 a2 a3 a4 a5 a6 a7 => wpAny_pure (gQ h' a1 a2 a3 a4 a5 a6 a7)) (F.args_zip_next_1 _))))
theorem pyNextG_end {ta tb : Bool} {zz ti tO ia ib la lb : Addr} {ka kb : Nat} {va vb : Array Value} {a b : Value} {Q : Option Value → Shared → Prop} (g0 : A.handled = none) (D : ZipApart zz ti tO ia ib la lb)
    (gz : IsZip st.heap zz ti tO .none) (gi : IsPair st.heap ti (.ref ia) (.ref ib)) (gO : IsPair st.heap tO a b)
    (ga : IterH ta st.heap ia la ka) (gb : IterH tb st.heap ib lb kb) (sa : SeqH ta st.heap la va) (sb : SeqH tb st.heap lb vb) (he : va[ka]? = none ∨ vb[kb]? = none)
    (gQ : ∀ h', (∀ c o, c ≠ zz → c ≠ tO → c ≠ ia → c ≠ ib → st.heap.get? c = some o → h'.get? c = some o) → Q none { st with heap := h' }) : wpAny (model prog w) A (pyNext (.ref zz)) Q E st := by
  have tz : st.TypeIs (.ref zz) "zip" := ⟨_, gz, rfl⟩
  unfold pyNext
  refine wpAny_bind (wpAny_attempt (wpAny_callSpecial?_slot (name := Str.ofString "__next__") tz F.slot_zip_next
    (wpAny_call_entry F.slot_zip_next tz F.entry_zip_next (zipG_end g0 D gz gi gO ga gb sa sb he fun h' e gk ge => ?_) (F.args_zip_next_1 _))))
  obtain ⟨o, go, gc⟩ := ge
  refine wpAny_bind (wpAny_isInstance (T := "StopIteration") (b := true) ⟨o, go, gc⟩ isSubtype_stop ?_)
  exact wpAny_pure (gQ _ gk)
end
abbrev gz1 (ta : Bool) (h : Heap) (la : Addr) : Heap := h.push (itObj ta la)
abbrev gz2 (ta tb : Bool) (h : Heap) (la lb : Addr) : Heap := (gz1 ta h la).push (itObj tb lb)
abbrev gz3 (ta tb : Bool) (h : Heap) (la lb : Addr) : Heap := (gz2 ta tb h la lb).push { cls := .type "tuple", data := .seq #[.ref h.objs.size, .ref (gz1 ta h la).objs.size] }
abbrev gz4 (ta tb : Bool) (h : Heap) (la lb : Addr) : Heap := (gz3 ta tb h la lb).push { cls := .type "tuple", data := .seq #[.none, .none] }
abbrev gz5 (ta tb : Bool) (h : Heap) (la lb : Addr) : Heap := (gz4 ta tb h la lb).push { cls := .type "zip", data := .fields #[.none, .bool false, .bool false, .ref (gz2 ta tb h la lb).objs.size, .ref (gz3 ta tb h la lb).objs.size] }
theorem meetsG (ta tb : Bool) (la lb : Addr) (va vb : Array Value) :
    Meets (Builtin.«zip.__new__» ⟨[.type "zip", .ref la, .ref lb], []⟩) (fun _ R s => SeqH ta s.heap la va ∧ SeqH tb s.heap lb vb ∧
      R (.ok (.ret (.ref (gz4 ta tb s.heap la lb).objs.size))) { s with heap := gz5 ta tb s.heap la lb }) :=
  .of_wp fun prog w A R s h => by
    obtain ⟨hp, g, d, tk, os⟩ := s
    obtain ⟨sa, sb, h⟩ := h
    have hsub := sub_zip
    have ha : SeqH ta (Shared.heap ⟨hp, g, d, tk, os⟩) la va := sa
    have hb : SeqH tb (Shared.heap ⟨hp.push (itObj ta la), g, d, tk, os⟩) lb vb := sb.psh _
    wp_walk using iterG ha, iterG hb
    exact ⟨_, rfl, h⟩
section
variable {prog : Program} {w : World} {A : Around} {E : Value → Shared → Prop} {st : Shared}
theorem callG {ta tb : Bool} {la lb : Addr} {va vb : Array Value} {Q : Value → Shared → Prop} (sa : SeqH ta st.heap la va) (sb : SeqH tb st.heap lb vb)
    (h : ∀ h', IsZip h' (st.heap.objs.size + 4) (st.heap.objs.size + 2) (st.heap.objs.size + 3) .none → IsPair h' (st.heap.objs.size + 2) (.ref st.heap.objs.size) (.ref (st.heap.objs.size + 1)) →
      IsPair h' (st.heap.objs.size + 3) .none .none → IterH ta h' st.heap.objs.size la 0 → IterH tb h' (st.heap.objs.size + 1) lb 0 → h'.objs.size = st.heap.objs.size + 5 →
      (∀ c o, st.heap.get? c = some o → h'.get? c = some o) → Q (.ref (st.heap.objs.size + 4)) { st with heap := h' }) :
    wpAny (model prog w) A (call (.type "zip") [.ref la, .ref lb]) Q E st := by
  refine callType_new F.called_zip (by decide) (F.typeCall_zip_2 _ _) (F.newCall_zip_2 _ _) (fun obj => F.args_object_init_3 obj _ _) F.entry_zip_new
    (meetsG ta tb la lb va vb) ⟨sa, sb, ?_⟩
  have z1 : (gz1 ta st.heap la).objs.size = st.heap.objs.size + 1 := Heap.size_push ..
  have z2 : (gz2 ta tb st.heap la lb).objs.size = st.heap.objs.size + 2 := by rw [Heap.size_push, z1]
  have z3 : (gz3 ta tb st.heap la lb).objs.size = st.heap.objs.size + 3 := by rw [Heap.size_push, z2]
  have z4 : (gz4 ta tb st.heap la lb).objs.size = st.heap.objs.size + 4 := by rw [Heap.size_push, z3]
  have z5 : (gz5 ta tb st.heap la lb).objs.size = st.heap.objs.size + 5 := by rw [Heap.size_push, z4]
  have g5 : (gz5 ta tb st.heap la lb).get? (gz4 ta tb st.heap la lb).objs.size = some _ := Heap.get?_push_size _ rfl
  have g4 : (gz5 ta tb st.heap la lb).get? (gz3 ta tb st.heap la lb).objs.size = some _ := Heap.get?_push_of_some _ (Heap.get?_push_size _ rfl)
  have g3 : (gz5 ta tb st.heap la lb).get? (gz2 ta tb st.heap la lb).objs.size = some _ := Heap.get?_push_of_some _ (Heap.get?_push_of_some _ (Heap.get?_push_size _ rfl))
  have g2 : (gz5 ta tb st.heap la lb).get? (gz1 ta st.heap la).objs.size = some _ := Heap.get?_push_of_some _ (Heap.get?_push_of_some _ (Heap.get?_push_of_some _ (Heap.get?_push_size _ (by rfl))))
  have g1 : (gz5 ta tb st.heap la lb).get? st.heap.objs.size = some _ := Heap.get?_push_of_some _ (Heap.get?_push_of_some _ (Heap.get?_push_of_some _ (Heap.get?_push_of_some _ (Heap.get?_push_size _ (by rfl)))))
  show _ ∧ _
  rw [z2, z3, z4] at g5
  rw [z1, z2] at g3
  rw [z3] at g4
  rw [z1] at g2
  rw [z4]
  exact ⟨⟨_, g5, rfl⟩, h _ g5 g3 g4 (IterH.fresh ta g1) (IterH.fresh tb g2) z5 fun c o x =>
    Heap.get?_push_of_some _ (Heap.get?_push_of_some _ (Heap.get?_push_of_some _ (Heap.get?_push_of_some _ (Heap.get?_push_of_some _ x))))⟩
end
/-! ### at the layer's level -/
def SqG : Bool → PySem.W.Frag → Hp → Addr → List V → Prop
  | true, K, H, a, xs => SqT K H a xs
  | false, K, H, a, xs => SqL K H a xs
theorem SqG.inv {X : Cx} {pins : List (Addr × Obj)} {σ : L2.St} {H : Hp} {s : Shared} {t : Bool} {a : Addr} {xs : List V} (q : SqG t X.K H a xs) (I : Inv X pins σ H s) : ∃ its : List Value, Vals xs its ∧ SeqH t s.heap a its.toArray := by
  cases t
  · obtain ⟨its, rv, p, _⟩ := I.list q
    exact ⟨its, rv, p.isList⟩
  · obtain ⟨its, rv, p, _⟩ := I.tuple q
    exact ⟨its, rv, p⟩
theorem SqG.inj {X : Cx} {pins : List (Addr × Obj)} {σ : L2.St} {H : Hp} {s : Shared} {t : Bool} {a : Addr} {xs ys : List V} (q : SqG t X.K H a xs) (q' : SqG t X.K H a ys) (I : Inv X pins σ H s) : xs = ys := by
  cases t
  · exact I.list_inj q q'
  · exact I.tuple_inj q q'
theorem SeqH.lt {t : Bool} {h : Heap} {l : Addr} {xs : Array Value} (q : SeqH t h l xs) : l < h.objs.size := by
  cases t
  · obtain ⟨_, e⟩ := q
    first | exact Heap.lt_size e.1 | exact Heap.lt_size e.choose_spec.1
  · obtain ⟨_, e, _⟩ := q
    exact Heap.lt_size e
/-- what stands at a and at b, of the kinds ta and tb, in new pairs -/
def ItG (K : PySem.W.Frag) (ta tb : Bool) (a b : Addr) : It :=
  ⟨fun i H => ∃ (xs ys : List V) (x y : V), SqG ta K H a xs ∧ SqG tb K H b ys ∧ xs[i]? = some x ∧ ys[i]? = some y,
    fun i H v H' => ∃ T x y, v = .ref T ∧ H T = none ∧ H' = upd H T (.tup [x, y]) ∧ (∀ xs, SqG ta K H a xs → xs[i]? = some x) ∧ ∀ ys, SqG tb K H b ys → ys[i]? = some y,
    fun i H => ∃ xs ys : List V, SqG ta K H a xs ∧ SqG tb K H b ys ∧ (xs.length ≤ i ∨ ys.length ≤ i)⟩
theorem turnG {P : Program} {w : World} {K : PySem.W.Frag} {elts : List Expr} {kk : Nat} {tpos : Pos} {ta tb : Bool} {a b zz ti tO ia ib : Addr} (D : ZipApart zz ti tO ia ib a b) :
    Turn P w K (.Tuple elts kk tpos) (ItG K ta tb a b) [zz, ti, tO, ia, ib] zz (fun i h => IsZip h zz ti tO .none ∧ IsPair h ti (.ref ia) (.ref ib) ∧ (∃ x y, IsPair h tO x y) ∧ IterH ta h ia a i ∧ IterH tb h ib b i) where
  mem := by simp
  obj := fun i h st c hc => by
    obtain ⟨gz, gi, ⟨x, y, gO⟩, ga, gb⟩ := st
    have e' : c = zz ∨ c = ti ∨ c = tO ∨ c = ia ∨ c = ib := by simpa using hc
    rcases e' with q | q | q | q | q
    · subst q; exact ⟨_, gz, fun v q => nomatch q⟩
    · subst q; exact ⟨_, gi, fun v q => nomatch q⟩
    · subst q; exact ⟨_, gO, fun v q => nomatch q⟩
    · subst q; exact ga.plain
    · subst q; exact gb.plain
  keep := fun i h h' st k => by
    obtain ⟨gz, gi, ⟨x, y, gO⟩, ga, gb⟩ := st
    exact ⟨k zz (by simp) _ gz, k ti (by simp) _ gi, ⟨x, y, k tO (by simp) _ gO⟩, ga.to fun o q => k ia (by simp) o q, gb.to fun o q => k ib (by simp) o q⟩
  item := by
    intro X hP hw hK hc i pins s σ H E I hf st hg
    subst hP hw hK
    obtain ⟨gz, gi, ⟨x0, y0, gO⟩, ga, gb⟩ := st
    obtain ⟨xs, ys, x, y, qx, qy, ex, ey⟩ := hg
    obtain ⟨its, rv, p⟩ := qx.inv I
    obtain ⟨its2, rv2, p2⟩ := qy.inv I
    obtain ⟨u, hu, ru⟩ := rv.get ex
    obtain ⟨u2, hu2, ru2⟩ := rv2.get ey
    have lz : zz < s.heap.objs.size := Heap.lt_size gz
    refine pyNextG_item D gz gi gO ga gb p p2 (x := u) (y := u2) (by simpa using hu) (by simpa using hu2) fun h' z' o' a' b' hT hsz hk => ?_
    refine ⟨_, rfl, wpAny_letOwnedTupleGo_zip (s := { s with heap := h' }) z' fun h'' z'' sb => ?_⟩
    have hT2 : h''.get? s.heap.objs.size = some { cls := .type "tuple", data := .seq #[u, u2] } := (sb.2 _ (Nat.ne_of_gt lz)).trans hT
    have new : ObjOk X.prog X.w (upd H s.heap.objs.size (.tup [x, y])) h'' s.heap.objs.size (.tup [x, y]) :=
      ⟨(by decide : 2 ≤ sizeLine), [u, u2], .cons ru (.cons ru2 .nil), ⟨_, hT2, rfl, _, rfl⟩⟩
    have I1 : Inv X pins σ (upd H s.heap.objs.size (.tup [x, y])) { s with heap := h'' } :=
      I.turnedNew (t' := s.toks) (ch := [zz, ti, tO, ia, ib]) (fun c o hb q => (sb.2 c (fun q' => hb (by simp [q']))).trans (hk c o (fun q' => hb (by simp [q'])) (fun q' => hb (by simp [q'])) (fun q' => hb (by simp [q'])) (fun q' => hb (by simp [q'])) q)) hf (Nat.le_refl _) new
    refine ⟨.ref s.heap.objs.size, _, I1, rfl, ⟨_, x, y, rfl, I.hok.fresh (Nat.le_refl _), rfl, fun l hl => by rw [SqG.inj hl qx I]; exact ex, fun l hl => by rw [SqG.inj hl qy I]; exact ey⟩, ⟨z'', ?_, ⟨u, u2, ?_⟩, ?_, ?_⟩, fun c hcm => ?_⟩
    · exact (sb.2 _ D.TIz).trans (hk _ _ D.TIz D.TITO D.TIi1 D.TIi2 gi)
    · exact (sb.2 _ D.TOz).trans o'
    · exact a'.to fun o q => (sb.2 _ D.i1z).trans q
    · exact b'.to fun o q => (sb.2 _ D.i2z).trans q
    · have lc : c < s.heap.objs.size := by
        have e' : c = zz ∨ c = ti ∨ c = tO ∨ c = ia ∨ c = ib := by simpa using hcm
        rcases e' with q | q | q | q | q
        · subst q; exact lz
        · subst q; exact Heap.lt_size gi
        · subst q; exact Heap.lt_size gO
        · subst q; exact ga.lt
        · subst q; exact gb.lt
      rw [upd_ne (Nat.ne_of_lt lc)]
      exact (hf c hcm).1
  done := by
    intro X hP hw hK hc i pins s σ H E I hf st hg
    subst hP hw hK
    obtain ⟨gz, gi, ⟨x0, y0, gO⟩, ga, gb⟩ := st
    obtain ⟨xs, ys, qx, qy, hend⟩ := hg
    obtain ⟨its, rv, p⟩ := qx.inv I
    obtain ⟨its2, rv2, p2⟩ := qy.inv I
    have l1 := rv.length
    have l2 := rv2.length
    have he : its.toArray[i]? = none ∨ its2.toArray[i]? = none := by
      rcases hend with q | q
      · left; simp; omega
      · right; simp; omega
    exact pyNextG_end (I.ok.hd hc) D gz gi gO ga gb p p2 he fun h' hk => ⟨rfl, I.turnedL (t' := s.toks) (ch := [zz, ti, tO, ia, ib]) (fun c o hb q =>
      hk c o (fun q' => hb (by simp [q'])) (fun q' => hb (by simp [q'])) (fun q' => hb (by simp [q'])) (fun q' => hb (by simp [q'])) q) hf⟩
  self := fun A i s Q E st h => wpAny_pyIter_zip st.1 h
def iZipG (K : PySem.W.Frag) (ta : TA) : TI := fun σ H R => ta σ H fun vs H1 => ∃ t1 t2 a b xs ys, vs = [.ref a, .ref b] ∧ SqG t1 K H1 a xs ∧ SqG t2 K H1 b ys ∧ R (ItG K t1 t2 a b) H1
theorem pi_zipG {X : Cx} {e e2 : Expr} {ta : TA} {p pos tpos : Pos} {elts : List Expr} {kk : Nat} (hg : Gl X "zip") (hm : X.mg "zip" = none) (ha : PA X [e, e2] ta)
    (hs : starEach [e, e2] X.env = (false, eval e X.env) :: starEach [e2] X.env := by rfl) (hpl : (backTo pos (starEach [e2] X.env)).any (fun z => z.1) = false := by rfl) :
    PI X (.Tuple elts kk tpos) (.Call (.Name "zip" p) [e, e2] [] pos) (iZipG X.K ta) := by
  refine ⟨fun pins s σ H R I h => ?_⟩
  refine Call_ (ld_blt I hg hm PyProof.Rows.boot_zip (PyProof.Rows.callWith_type1 (thn (ha.run pos pins s σ H _ I h) fun us s1 ⟨vs, H1, I1, r1, q1⟩ => ?_) hs hpl))
  obtain ⟨t1, t2, a, b, xs, ys, ez, qx, qy, q⟩ := q1
  subst ez
  cases r1 with
  | cons r rr =>
    cases rr with
    | cons r' rr =>
      cases rr
      cases r
      cases r'
      obtain ⟨its, rv, p1⟩ := qx.inv I1
      obtain ⟨its2, rv2, p2⟩ := qy.inv I1
      refine callG p1 p2 fun h' gz gi gO ga gb hsz hk => wpAny_pyIter_zip gz ?_
      have I2 : Inv X pins σ H1 { s1 with heap := h' } := I1.kept (t' := s1.toks) hk
      refine ⟨s1.heap.objs.size + 4, [s1.heap.objs.size + 4, s1.heap.objs.size + 2, s1.heap.objs.size + 3, s1.heap.objs.size, s1.heap.objs.size + 1], _, _, H1, rfl, I2, turnG (PySem.W.ktu_apart s1.heap.objs.size a b p1.lt p2.lt), ⟨gz, gi, ⟨_, _, gO⟩, ga, gb⟩, fun c hcm => ?_, q⟩
      have e' : c = s1.heap.objs.size + 4 ∨ c = s1.heap.objs.size + 2 ∨ c = s1.heap.objs.size + 3 ∨ c = s1.heap.objs.size ∨ c = s1.heap.objs.size + 1 := by simpa using hcm
      have le : s1.heap.objs.size ≤ c := by
        rcases e' with q | q | q | q | q <;> rw [q] <;> first | exact Nat.le_add_right _ _ | exact Nat.le_refl _
      exact I1.fpOk le (I1.hok.fresh le)
theorem walkG {K : PySem.W.Frag} {ta tb : Bool} {a b : Addr} {xs ys : List V} {n : Nat} (hn : n = min xs.length ys.length) : Walk (ItG K ta tb a b) n (fun H => SqG ta K H a xs ∧ SqG tb K H b ys) (YPair (fun i => xs[i]?) (fun i => ys[i]?)) := by
  subst hn
  refine ⟨fun i H hi q => ?_, fun H q => ⟨xs, ys, q.1, q.2, by omega⟩, fun i H v H' hi q y => ?_⟩
  · have g1 : i < xs.length := by omega
    have g2 : i < ys.length := by omega
    exact ⟨xs, ys, xs[i], ys[i], q.1, q.2, by simp [g1], by simp [g2]⟩
  · obtain ⟨T, x, z, e1, e2, e3, e4, e5⟩ := y
    exact ⟨T, x, z, e1, e2, e3, e4 xs q.1, e5 ys q.2⟩
end ZG

namespace ZG
open PySem PySem.Spec PyProof.Rows L2
theorem mul_one (l : Addr) (its : Array Value) (n : Nat) (dd : Option Addr) (sl : Array (Option Value)) (u : Tok) :
    Meets (Builtin.«tuple.__mul__» ⟨[.ref l, .int 1 u], []⟩) (fun _ R s => s.heap.get? l = some { cls := .type "tuple", dict := dd, data := .seq its n, slots := sl } ∧
      R (.ok (.ret (Value.ref l))) s) :=
  .of_wp fun prog w A R s h => by
    obtain ⟨hp, g, d, tk, os⟩ := s
    obtain ⟨hl, h⟩ := h
    have f1 := AutoSeq1.idx_int
    wp_walk using wpAny_loadPart' hl
    exact ⟨_, rfl, h⟩
theorem mul_none (l : Addr) (its : Array Value) (n : Nat) (dd : Option Addr) (sl : Array (Option Value)) (x : Int) (u : Tok) (c0 : (decide (x < -(2 ^ 63)) || decide (x ≥ 2 ^ 63)) = false) (c1 : (its.isEmpty || x == 1) = false) (c2 : (decide (x ≤ 0) || its.isEmpty) = true) :
    Meets (Builtin.«tuple.__mul__» ⟨[.ref l, .int x u], []⟩) (fun _ R s => s.heap.get? l = some { cls := .type "tuple", dict := dd, data := .seq its n, slots := sl } ∧
      R (.ok (.ret (Value.ref s.heap.objs.size))) { s with heap := s.heap.push { cls := Value.type "tuple", data := Data.seq #[] }, toks := s.toks }) :=
  .of_wp fun prog w A R s h => by
    obtain ⟨hp, g, d, tk, os⟩ := s
    obtain ⟨hl, h⟩ := h
    have f1 := AutoSeq1.idx_int
    wp_walk using wpAny_loadPart' hl
    repeat (first
      | (refine wpAny_ite_false (decide_eq_false (by rw [c0]; exact Bool.noConfusion)) ?_; wp_walk using wpAny_loadPart' hl)
      | (refine wpAny_ite_false (decide_eq_false (by rw [c1]; exact Bool.noConfusion)) ?_; wp_walk using wpAny_loadPart' hl)
      | (refine wpAny_ite_true (decide_eq_true c2) ?_; wp_walk using wpAny_loadPart' hl))
    exact ⟨_, rfl, h⟩
def rRepA (K : PySem.W.Frag) : R2 := fun x y H Q => ∃ l k xs, x = .ref l ∧ y = .int k ∧ SqT K H l xs ∧ xs ≠ [] ∧ -1000 ≤ k ∧ k ≤ 1000 ∧ xs.length ≤ 1000 ∧ (k = 1 → Q (.ref l) H) ∧ (k ≠ 1 → ∀ p, H p = none → Q (.ref p) (upd H p (.tup (List.replicate k.toNat xs).flatten)))
section
variable {X : Cx}
theorem op_repA : OpR X (binaryOp .Mult) (rRepA X.K) := by
  intro pins s σ H x y v u Q I rx ry h
  obtain ⟨l, k, xs, rfl, rfl, hT, hne, h0, h2, hz, q1, q2⟩ := h
  by_cases hk : 2 ≤ k
  · exact op_repT pins s σ H _ _ v u Q I rx ry ⟨l, k, xs, rfl, rfl, hT, hne, hk, h2, hz, q2 (by omega)⟩
  cases rx
  obtain ⟨t, rfl⟩ := ry
  obtain ⟨its, r, ⟨⟨cls, dd, data, sl⟩, ho, hc, n, hd⟩, hs⟩ := I.tuple hT
  simp only at hc hd
  subst hc hd
  have le : its.length = xs.length := r.length.symm
  have ne : its ≠ [] := fun e => hne (List.eq_nil_of_length_eq_zero (by rw [← le, e]; rfl))
  have ie : its.toArray.isEmpty = false := by
    cases its with
    | nil => exact absurd rfl ne
    | cons a b => rfl
  by_cases e1 : k = 1
  · subst e1
    exact wpAny_binaryOp_repeat_ref (T := "tuple") (U := "int") (by decide) ⟨_, ho, rfl⟩ (fun s' => typeIs_int s' 1 t) noFill_tuple_mul F.fills_int_mul F.slot_int_rmul repeat_tuple F.slot_int_index.lookup
      (call_meets F.slot_int_rmul (typeIs_int s 1 t) F.entry_int_rmul (F.args_int_rmul_2 _ _) (int_rmul_tuple 1 t l its.toArray n dd sl)
        ⟨ho, rfl, ⟨_, ho, rfl⟩, call_meets F.slot_tuple_mul ⟨_, ho, rfl⟩ F.entry_tuple_mul (F.args_tuple_mul_2 _ _) (mul_one l its.toArray n dd sl t) ⟨ho, ⟨.ref l, H, I, rfl, q1 rfl⟩⟩⟩)
  · have c0 : (decide (k < -(2 ^ 63)) || decide (k ≥ 2 ^ 63)) = false := by
      rw [decide_eq_false (by omega), decide_eq_false (by omega)]
      rfl
    have c1 : (its.toArray.isEmpty || k == 1) = false := by
      rw [ie, Bool.false_or]
      exact beq_eq_false_iff_ne.mpr e1
    have c2 : (decide (k ≤ 0) || its.toArray.isEmpty) = true := by
      rw [decide_eq_true (by omega)]
      rfl
    refine wpAny_binaryOp_repeat_ref (T := "tuple") (U := "int") (by decide) ⟨_, ho, rfl⟩ (fun s' => typeIs_int s' k t) noFill_tuple_mul F.fills_int_mul F.slot_int_rmul repeat_tuple F.slot_int_index.lookup
      (call_meets F.slot_int_rmul (typeIs_int s k t) F.entry_int_rmul (F.args_int_rmul_2 _ _) (int_rmul_tuple k t l its.toArray n dd sl)
        ⟨ho, rfl, ⟨_, ho, rfl⟩, call_meets F.slot_tuple_mul ⟨_, ho, rfl⟩ F.entry_tuple_mul (F.args_tuple_mul_2 _ _) (mul_none l its.toArray n dd sl k t c0 c1 c2) ⟨ho, ?_⟩⟩)
    have ek : (List.replicate k.toNat xs).flatten = [] := by
      rw [show k.toNat = 0 by omega]
      rfl
    have q3 := q2 e1
    rw [ek] at q3
    refine ⟨.ref s.heap.objs.size, _, I.laid (t' := s.toks) (o := .tup []) (fun b ob q => Heap.get?_push_of_some _ q) (Nat.le_refl _) ?_, rfl, q3 _ (I.hok.fresh (Nat.le_refl _))⟩
    exact ⟨(by decide : 0 ≤ sizeLine), [], .nil, IsTup.new _ _⟩
end
end ZG

/-! defs that are called while an exception is handled, and raise nothing; the exception asked for its class -/
namespace HU
open PySem PySem.Spec PyProof.Rows L2
/-- what such a def promises of the exception p that is handled -/
structure FnU (P : Program) (w : World) (K : PySem.W.Frag) (mg : Str → Option Value) (base : Heap) (k : Nat) (f : Addr) (fd : FuncData) (ps : List Str) (sp : Addr × Obj → Sp) : Prop where
  len : ∀ p vs H Q E, sp p vs H Q E → vs.length = ps.length
  run : ∀ (p : Addr × Obj) (A : Around) (outer : List Env) (s : Shared) (H : Hp) (args : Args) (us : List Value) (vs : List V) (Q : VK) (E : XK), L2H.RoomH k A → L2H.PinOk outer H s p → Env0 P w K mg base A outer s H → BindsTo s fd args (ps.zip us) → Vals vs us → sp p vs H Q E →
    codeAny (model P w) A (.call (.ref f) args) (CR CX0 outer P w H s Q E) s
theorem fn_ofU {P : Program} {w : World} {K : PySem.W.Frag} {mg : Str → Option Value} {base : Heap} {k : Nat} {f : Addr} {name qual : Str} {params : Arguments} {body : List Stmt} {scope : Scope} {dV kV doc pm cdv ct oc : Value} {an od : Option Addr}
    {osl : Array (Option Value)} {N ps : List Str} {sp : Addr × Obj → Sp} (lk : K.lookup f = some ⟨oc, od, .func (PySem.W.fnOf name qual params body scope dV kV doc pm an cdv ct), osl⟩) (cdk : PySem.W.codeIn K cdv qual = true) (S : FnScope N ps scope)
    (len : ∀ p vs H Q E, sp p vs H Q E → vs.length = ps.length)
    (hb : ∀ (p : Addr × Obj) (A : Around) (outer : List Env) (s : Shared) (H : Hp) (vs : List V) (Q : VK) (E : XK), L2H.RoomH k (A.deeper (envOfC qual scope s.heap.objs.size f cdv)) → sp p vs H Q E →
      ∃ t, PSs (L2H.cxH CX0 P w K mg base N qual scope f cdv A outer s H E p) body t ∧ t { nx := fun _ H' => Q .non H', rt := Q } (L2.start N vs) H) :
    FnU P w K mg base (k + 1) f (PySem.W.fnOf name qual params body scope dV kV doc pm an cdv ct) ps sp := by
  refine ⟨len, fun p A outer s H args us vs Q E hr pin e0 bd r hs => ?_⟩
  have el := len _ _ _ _ _ hs
  have KX : K.In s.heap := e0.mod.kin.keeps fun b o e => (e0.bs b o e).1
  have lim : s.heap.NoLimit := e0.mod.nolimit.keeps fun b o e => (e0.bs b o e).1
  have kinds : ∀ y ∈ ps.zip us, scope.names.lookup y.1 = some .local ∨ (scope.names.lookup y.1 = some .cell ∧ ((cellsFrom (s.heap.objs.size + 1) scope.names []).lookup y.1).isSome = true) := fun ⟨n, v⟩ hy => by
    rcases S.par n (List.of_mem_zip hy).1 with q | q
    · exact .inl q
    · exact .inr ⟨q, PySem.W.cellsFrom_some _ _ _ (.inl q)⟩
  refine codeAny_call_function hr.depth (KX _ _ lk) rfl S.co S.gen rfl (PySem.W.codeRec_of KX cdk) (bd _ _ _ _ ?_)
  refine wpAny_newFunctionEnv_cells S.kind kinds fun env he s1 x => ?_
  subst he
  refine ⟨lim.keeps x.toInCall.keep, codeAny_func ?_⟩
  obtain ⟨t, ht, hq⟩ := hb p A outer s H vs Q E (hr.deeper _) hs
  have I : Inv (L2H.cxH CX0 P w K mg base N qual scope f cdv A outer s H E p) [] (L2.start N vs) H s1 := L2H.inv_startH S pin e0 el r x
  refine wpAny_mono (ht.run [] s1 (L2.start N vs) H _ I hq) (fun fl s' h => ?_) fun e s' h => h
  have fin : ∀ {σ' : L2.St} {H' : Hp} {v : V} {u : Value}, Inv (L2H.cxH CX0 P w K mg base N qual scope f cdv A outer s H E p) [] σ' H' s' → L2.RelV v u → Q v H' → CE outer P w H s Q u s' :=
    fun {σ' H' v u} J rv q => ⟨v, H', J.os, J.bare, J.base, J.hok, rv, q⟩
  cases fl with
  | ret u =>
    obtain ⟨v, σ', H', J, rv, q⟩ := h
    exact fin J rv q
  | next =>
    obtain ⟨σ', H', J, q⟩ := h
    exact fin (v := V.non) (u := Value.none) J rfl q
  | brk =>
    obtain ⟨_, _, _, q⟩ := h
    exact q.elim
  | cont =>
    obtain ⟨_, _, _, q⟩ := h
    exact q.elim
theorem okU {P : Program} {w : World} {K : PySem.W.Frag} {mg : Str → Option Value} {base : Heap} {x qual : Str} {st : Stmt} {f : Addr} {fd : FuncData} {N ps : List Str} {k : Nat} {sp : Addr × Obj → Sp} (F : Fun K x qual st f fd) (S : FnScope N ps (defScope st)) (len : ∀ p vs H Q E, sp p vs H Q E → vs.length = ps.length)
    (hb : ∀ (cdv : Value) (p : Addr × Obj) (A : Around) (outer : List Env) (s : Shared) (H : Hp) (vs : List V) (Q : VK) (E : XK), L2H.RoomH k (A.deeper (envOfC qual (defScope st) s.heap.objs.size f cdv)) → sp p vs H Q E →
      ∃ t, PSs (L2H.cxH CX0 P w K mg base N qual (defScope st) f cdv A outer s H E p) (defBody st) t ∧ t { nx := fun _ H' => Q .non H', rt := Q } (L2.start N vs) H) : FnU P w K mg base (k + 1) f fd ps sp := by
  obtain ⟨oc, od, kV, doc, pm, an, cdv, ct, osl, rfl, lk, hcd⟩ := F.ex
  exact fn_ofU lk hcd S len fun p A outer s H vs Q E hr h => hb cdv p A outer s H vs Q E hr h
section
variable {X : Cx} {k : Nat} {f : Addr} {fd : FuncData} {ps : List Str} {sp : Addr × Obj → Sp} {p : Addr × Obj} {x : Str} {q pos : Pos} {e : Expr} {es : List Expr} {t : TA}
theorem run_fnU {pins : List (Addr × Obj)} {σ : L2.St} {H : Hp} {s : Shared} {Q : VK} {us : List Value} {vs : List V} (F : FnU X.prog X.w X.K X.mg X.base k f fd ps sp) (hr : L2H.RoomH k X.A) (hp : p ∈ X.pn) (hb : L2.Binds X.K fd ps [])
    (I : Inv X pins σ H s) (r : Vals vs us) (h : sp p vs H Q E0) : wpAny (model X.prog X.w) X.A (call (.ref f) us) (EP X pins σ Q) X.xe s := by
  have hl : us.length = ps.length := by rw [← r.length]; exact F.len _ _ _ _ _ h
  have b := hb s us I.kIn (by rw [List.append_nil]; exact hl)
  rw [List.append_nil] at b
  have P1 := I.pin p (List.mem_append_left _ hp)
  have pin : L2H.PinOk X.stack H s p := ⟨P1.1, P1.2.1, fun hm => (List.mem_cons.mp (I.stkSub p.1 hm)).elim P1.2.2.1 P1.2.2.2.1, P1.2.2.2.2⟩
  refine wpAny_call (codeAny_mono (F.run p X.A X.stack s H ⟨us, []⟩ us vs Q E0 hr pin I.env0 b r h) fun r s' hq => ?_)
  cases r with
  | error e => exact (show False from hq).elim
  | ok fl =>
    cases fl with
    | ret u => exact I.after hq
    | next => exact False.elim hq
    | brk => exact False.elim hq
    | cont => exact False.elim hq
theorem pe_callU (F : FnU X.prog X.w X.K X.mg X.base k f fd ps sp) (hr : L2H.RoomH k X.A) (hp : p ∈ X.pn) (hg : Gl X x) (hm : X.mg x = some (.ref f)) (hk : PySem.W.keepIn X.K (.ref f) = true) (hb : L2.Binds X.K fd ps [])
    (ha : PA X (e :: es) t) (hdb : (x == ("__debug__" : Str)) = false := by decide) (he : starEach (e :: es) X.env = (false, eval e X.env) :: starEach es X.env := by rfl) (hpl : (backTo pos (starEach es X.env)).any (fun z => z.1) = false := by rfl) :
    PE X (.Call (.Name x q) (e :: es) [] pos) (fun σ H Q => t σ H fun vs H1 => sp p vs H1 Q E0) := by
  refine ⟨fun pins s σ H Q I h => ?_⟩
  refine wpAny_Call_Name_kw (ld_glob I hg hm ?_ hdb)
  refine PySem.W.callWith_K (h₀ := X.base) I.ok.mod.kin hk (thn (ha.run pos pins s σ H _ I h) fun us s1 ⟨vs, H1, I1, r, z⟩ => ⟨I1.kIn, ?_⟩) he hpl
  exact run_fnU F hr hp hb I1 r z
/-- isinstance(e, c), e a pinned exception of the class at D -/
theorem call_isU {D : Addr} (hp : p ∈ X.pn) (C : ExcC X.K D) (hz : Zc (.ref D) none p.2) (hf : ∃ vs, p.2.data = .fields vs) : CallR X (.builtin "isinstance") (rIsE X.K D p.1) := by
  intro pins s σ H xs us Q I r h
  obtain ⟨c, cv, b, rfl, hcv, e, q⟩ := h
  cases r with
  | cons rx rr =>
    cases rr with
    | cons rt rr =>
      cases rr
      cases rx
      have ec := hcv _ rt
      subst ec
      have gp := (I.pin p (List.mem_append_left _ hp)).1
      obtain ⟨vs, hv⟩ := hf
      obtain ⟨pa, oc, od, oda, osl⟩ := p
      obtain ⟨h1, h2⟩ := hz
      dsimp only at h1 h2 hv gp
      subst h1 h2 hv
      have J : PySem.W.InstAt s.heap pa _ D none := ⟨gp, rfl, rfl, trivial⟩
      exact PySem.W.kia_one (PySem.W.handS_kitx_exc C.hg C.hk C.hs C.hd C.ha C.hn C.ht C.hm) I.kIn J e (fun z => nomatch z) fun tk => ⟨.bl b, H, I.kept (t' := tk) fun _ _ z => z, rfl, q⟩
theorem count_vals {y : V} : ∀ {ys : List V} {its : List Value}, Vals ys its → ys.all flatV = true → its.countP (eqU y) = ys.countP (fun z => eqV z y)
  | _, _, .nil, _ => rfl
  | z :: ys, u :: its, .cons r t, f => by
    rw [List.all_cons, Bool.and_eq_true] at f
    rw [List.countP_cons, List.countP_cons, count_vals t f.2, eqU_of r f.1]
def rCntF (K : PySem.W.Frag) : V → List V → Hp → VK → Prop := fun x xs H Q => ∃ (a : Addr) (ys : List V) (y : V), x = .ref a ∧ xs = [y] ∧ SqL K H a ys ∧ flatV y = true ∧ ys.all flatV = true ∧ Q (.int (ys.countP (fun z => eqV z y) : Nat)) H
theorem mt_countF : MtR X "list.count" (rCntF X.K) := by
  intro pins s σ H x xs v us Q I rx rxs h
  obtain ⟨a, ys, y, rfl, rfl, hs, fy, fys, q⟩ := h
  cases rx
  cases rxs with
  | cons ry rt =>
    rename_i uy ut
    cases rt
    obtain ⟨its, rv, ⟨⟨cls, dd, data, sl⟩, n, ho, hc, hdn, hd⟩, hlen⟩ := I.list hs
    simp only at hc hd
    subst hc hd
    refine call_meets PySem.F.slot_list_count ⟨_, ho, rfl⟩ PySem.F.entry_list_count (PySem.F.args_list_count_2 _ _)
      (SeqAt.list_countAt a its.toArray n dd sl uy (eqU y)) ⟨ho, fun u' hu' => mem_eqAt ry fy rv fys u' (by simpa using hu'), ?_⟩
    have ec : its.toArray.toList.countP (eqU y) = ys.countP (fun z => eqV z y) := count_vals rv fys
    rw [ec]
    exact ⟨.int (ys.countP (fun z => eqV z y) : Nat), H, I.tok _, ⟨_, rfl⟩, q⟩
end
end HU

namespace HU
open PySem PySem.Spec PyProof.Rows L2
/-! an except clause with five classes, and one behind it, both by a name -/
section
variable {M : Model} {K : PySem.W.Frag}
open PySem.W in
theorem exm5 {c1 c2 c3 c4 c5 cls : Value} {tp e : Addr} {b : Bool} {h : Heap} (X : K.In h) (LT : Looks M h (typeOf (.ref e)) cls) (hp : h.get? tp = some { cls := .type "tuple", data := .seq [c1, c2, c3, c4, c5].toArray }) (hx : exmAny K cls [c1, c2, c3, c4, c5] = some b) :
    Looks M h (excMatches (.ref e) (.ref tp)) b := by
  intro A Q E st k₀ q
  obtain ⟨hh, g, d, tk, os⟩ := st
  have k : ∀ b o, h.get? b = some o → hh.get? b = some o := k₀
  have IT : Looks M h (isInstance (.ref tp) (.type "tuple")) true := ((Looks.ld hp).andThen .now).andThen (Looks.of_pure isSubtype_tuple_tuple)
  obtain ⟨b1, d1, x1, y1, z1⟩ := exmAny_cons hx
  obtain ⟨b2, d2, x2, y2, z2⟩ := exmAny_cons y1
  obtain ⟨b3, d3, x3, y3, z3⟩ := exmAny_cons y2
  obtain ⟨b4, d4, x4, y4, z4⟩ := exmAny_cons y3
  obtain ⟨b5, d5, x5, y5, z5⟩ := exmAny_cons y4
  have l5 : some false = some d5 := y5
  cases l5
  obtain ⟨e1, T1⟩ := exm_cls (M := M) X x1
  obtain ⟨e2, T2⟩ := exm_cls (M := M) X x2
  obtain ⟨e3, T3⟩ := exm_cls (M := M) X x3
  obtain ⟨e4, T4⟩ := exm_cls (M := M) X x4
  obtain ⟨e5, T5⟩ := exm_cls (M := M) X x5
  have e1 := e1.keeps k
  have e2 := e2.keeps k
  have e3 := e3.keeps k
  have e4 := e4.keeps k
  have e5 := e5.keeps k
  have T1 := T1.keeps k
  have T2 := T2.keeps k
  have T3 := T3.keeps k
  have T4 := T4.keeps k
  have T5 := T5.keeps k
  have LT := LT.keeps k
  have IT := IT.keeps k
  have hp2 := k _ _ hp
  subst z1 z2 z3 z4 z5
  unfold excMatches
  refine wpAny_bind (IT.at ?_)
  dsimp only
  rw [if_pos rfl]
  first
    | refine wpAny_bind (wpAny_seqItems hp2 rfl ?_)
    | refine wpAny_bind (wpAny_bind (wpAny_seqItems hp2 rfl (wpAny_pure ?_)))
  dsimp only [Option.getD_some, Option.getD]
  cases b1 <;> cases b2 <;> cases b3 <;> cases b4 <;> cases b5 <;> ((repeat (first | simp only [List.forIn_cons, List.forIn_nil, Bool.not_true, Bool.false_eq_true, if_false, if_true] | lk)); exact q)
end
theorem fly_keeps {B h g : Heap} {l : List Env} {a : Addr} {Z : Obj → Prop} (x : HandSPX.FlyingZ B l a Z h) (k : ∀ b o, h.get? b = some o → g.get? b = some o) : HandSPX.FlyingZ B l a Z g := by
  obtain ⟨f1, f2, f3, oe, ws, T, oT, ts, he, hc, hd, h1, hn, hne, hT, hdT, h3⟩ := x
  exact ⟨fun b o q => k b o (f1 b o q), f2, f3.of_keeps fun b o q _ => ⟨o, k b o q, rfl⟩, oe, ws, T, oT, ts, k _ _ he, hc, hd, h1, hn, hne, k _ _ hT, hdT, h3⟩
/-- what a suite behind 'as n' (slot i) is asked -/
def wSu (i : Nat) (ts : Addr → Value → Option Addr → TS) (D : Ends) (cls : Value) (d : Option Addr) (σ : L2.St) (H : Hp) : Prop :=
  ∀ a, H a = none → ts a cls d { nx := fun σ' H' => D.nx (σ'.set i none) H', rt := D.rt, bk := fun σ' H' => D.bk (σ'.set i none) H', ct := fun σ' H' => D.ct (σ'.set i none) H' } (σ.set i (some (.ref a))) H
def wHow (K : PySem.W.Frag) (cs : List Value) (c : Value) (i : Nat) (t1 t2 : Addr → Value → Option Addr → TS) (D : Ends) : WX := fun cls d σ H =>
  ∃ b, PySem.W.exmAny K cls cs = some b ∧ (b = true → wSu i t1 D cls d σ H) ∧ (b = false → PySem.W.exmOne K cls c = some true ∧ wSu i t2 D cls d σ H)
section
variable {X : Cx} {x1 x2 x3 x4 x5 x n : Str} {c1 c2 c3 c4 c5 c : Value} {i kk : Nat} {body u1 u2 : List Stmt} {w1 w2 : Stmt} {n1 n2 n3 n4 n5 tp np pos pos1 pos2 : Pos} {tb : WX → TS} {t1 t2 : Addr → Value → Option Addr → TS}
theorem ps_try_how (hs : X.stack = X.env :: X.outer) (hf : X.env.frame = some X.env.locals) (hN : X.N.Nodup) (hi : X.N[i]? = some n) (hln : X.env.kindOf n = some .local)
    (k1 : Names X x1 c1) (k2 : Names X x2 c2) (k3 : Names X x3 c3) (k4 : Names X x4 c4) (k5 : Names X x5 c5) (kc : Names X x c)
    (hb : ∀ (W : WX) (pn : List (Addr × Obj)) (xe : Value → Shared → Prop), Takes (X.tr pn xe) W → PassesOwn (model X.prog X.w) X.A X.env xe → PSs (X.tr pn xe) body (tb W))
    (h1 : ∀ (a : Addr) (oe : Obj) (cls : Value) (d : Option Addr) (pn : List (Addr × Obj)), Zc cls d oe → (∃ vs, oe.data = .fields vs) → PSs (X.suite a ((a, oe) :: pn)) (w1 :: u1) (t1 a cls d))
    (h2 : ∀ (a : Addr) (oe : Obj) (cls : Value) (d : Option Addr) (pn : List (Addr × Obj)), Zc cls d oe → (∃ vs, oe.data = .fields vs) → PSs (X.suite a ((a, oe) :: pn)) (w2 :: u2) (t2 a cls d)) :
    PS X (.Try body [.ExceptHandler (some (.Tuple [.Name x1 n1, .Name x2 n2, .Name x3 n3, .Name x4 n4, .Name x5 n5] kk tp)) (some n) (w1 :: u1) pos1, .ExceptHandler (some (.Name x np)) (some n) (w2 :: u2) pos2] [] [] pos)
      (fun D σ H => tb (wHow X.K [c1, c2, c3, c4, c5] c i t1 t2 D) D σ H) := by
  refine ⟨fun pins s σ H D I h => ?_⟩
  have ok := I.ok
  have fr : X.A.frames = some (X.env :: X.outer) := by rw [ok.frames, hs]
  have loc : Loc X.env.scope n := .inl hln
  refine wpAny_Try_except ?_
  refine wpAny_mono ((hb (wHow X.K [c1, c2, c3, c4, c5] c i t1 t2 D) (X.pn ++ pins) (fun e s₁ => wpAny (model X.prog X.w) X.A (noteFrame e X.env) (fun _ s₂ => wpAny (model X.prog X.w) X.A (setFlight e none) (fun _ s₃ =>
    wpAny (model X.prog X.w) X.A (handleBy e X.env [.ExceptHandler (some (.Tuple [.Name x1 n1, .Name x2 n2, .Name x3 n3, .Name x4 n4, .Name x5 n5] kk tp)) (some n) (w1 :: u1) pos1, .ExceptHandler (some (.Name x np)) (some n) (w2 :: u2) pos2]) (SP X pins D) X.xe s₃) X.xe s₂) X.xe s₁) (fun u s' xx => ?_) PassesOwn.looking).run [] s σ H D (I.toTry _) h) (fun f s1 hsp => ?_) (fun e s1 he => he)
  · obtain ⟨a, B, sI, pins', σ', H', cls, d, rfl, J', nb, up, sky, na, os, ag, b, eb, yes, no⟩ := xx
    have J : Inv X pins σ' H' sI := J'.ofTry ok
    have sky2 : Sky B (X.env :: X.outer) a (Zc cls d) X.env.locals s'.heap := by rw [← hs]; exact sky
    show wpAny (model X.prog X.w) X.A (noteFrame (.ref a) X.env) _ _ _
    refine Sky.land Zc.steady fr hf sky2 fun g3 fl3 up3 => ?_
    have J3 : Inv X pins σ' H' { s' with heap := g3 } := J.landed nb fl3.1 (up.trans up3) os ag
    obtain ⟨oe3, vs3, he3, hz3, hd3⟩ := fl3.there
    have notFr : ∀ {h : Heap} {o : Obj} {vs : Array Value}, h.FunFrames B (X.env :: X.outer) → h.get? a = some o → o.data = .fields vs → a ∉ frs (X.env :: X.outer) := fun {h o vs} ff e dd hm => by
      obtain ⟨_, o', e', hnf⟩ := ff.mem hm
      rw [e] at e'
      cases e'
      exact hnf _ dd
    have nfr := notFr fl3.2.2.1 he3 hd3
    have nL : a ≠ X.env.locals := fun z => nfr (List.mem_filterMap.mpr ⟨X.env, List.mem_cons_self, by rw [hf, z]⟩)
    have nF : a ∉ X.fs := fun hm => by
      obtain ⟨e, he, q⟩ := List.mem_filterMap.mp hm
      exact nfr (List.mem_filterMap.mpr ⟨e, List.mem_cons_of_mem _ he, q⟩)
    have S3 := J3.suite he3 hd3 na nL nF
    -- a class's name is looked up
    have nm : ∀ {y : Str} {cv : Value} {yp : Pos} {Q : Value → Shared → Prop} {E : Value → Shared → Prop}, Names X y cv → Q cv { s' with heap := g3 } → wpAny (model X.prog X.w) (X.A.mark (some (.ref a))) (eval (.Name y yp) X.env) Q E { s' with heap := g3 } := fun {y cv yp Q E} hy q => by
      obtain ⟨hg, hdbg, hm | ⟨hm, hv, hnn⟩⟩ := hy
      · exact ld_glob (X := X.suite a ((a, oe3) :: (X.pn ++ pins))) S3 hg hm q hdbg
      · exact ld_blt (X := X.suite a ((a, oe3) :: (X.pn ++ pins))) S3 hg hm hv q hnn hdbg
    -- a suite is done
    have goS : ∀ {g : Heap} {ts : Addr → Value → Option Addr → TS} {ws : Stmt} {us : List Stmt} {ps : Pos}, HandSPX.FlyingZ B (X.env :: X.outer) a (Zc cls d) g → sI.heap.UpToSlots g →
        (∀ (a : Addr) (oe : Obj) (cls : Value) (d : Option Addr) (pn : List (Addr × Obj)), Zc cls d oe → (∃ vs, oe.data = .fields vs) → PSs (X.suite a ((a, oe) :: pn)) (ws :: us) (ts a cls d)) → wSu i ts D cls d σ' H' →
        codeAny (model X.prog X.w) (X.A.mark (some (.ref a))) (.handlers (.ref a) [.ExceptHandler none (some n) (ws :: us) ps] X.env) (fun r s₂ => match r with
          | .ok f => wpAny (model X.prog X.w) X.A (do bindName X.env n .none; unbindBehindTheSuite X.env n ps) (fun _ s₃ => SP X pins D f s₃) X.xe s₂
          | .error x => cameBackBy (model X.prog X.w) X.A X.env X.xe x s₂) { s' with heap := g } := by
      intro g ts ws us ps fl up' hsu hw
      refine codeAny_handlers_suite_as ?_
      refine HandSPX.lands_againZ fl fun g4 fl4 up4 => ?_
      have J4 : Inv X pins σ' H' { s' with heap := g4 } := J.landed nb fl4.1 (up'.trans up4) os ag
      obtain ⟨oe4, vs4, he4, hz4, hd4⟩ := fl4.there
      have S4 := J4.suite he4 hd4 na nL nF
      refine store_ok (X := X.suite a ((a, oe4) :: (X.pn ++ pins))) (v := .ref a) S4 hN hi loc rfl (fun s5 S5 => ?_) (.inr hln)
      refine wpAny_mono ((hsu a oe4 cls d (X.pn ++ pins) hz4 ⟨_, hd4⟩).run [] s5 _ H' _ S5 (hw a na)) (fun f s6 hsp => ?_) (fun _ _ z => False.elim z)
      have done : ∀ {σ6 : L2.St} {H6 : Hp} {Q : Shared → Prop}, Inv (X.suite a ((a, oe4) :: (X.pn ++ pins))) [] σ6 H6 s6 → (∀ s7, Inv X pins (σ6.set i none) H6 s7 → Q s7) →
          wpAny (model X.prog X.w) X.A (do bindName X.env n .none; unbindBehindTheSuite X.env n ps) (fun _ s7 => Q s7) X.xe s6 := fun {σ6 H6 Q} S6 hq => gone_ok (S6.unsuite ok) hN hi hln hq
      cases f with
      | next =>
        obtain ⟨σ6, H6, S6, q6⟩ := hsp
        exact done S6 fun s7 J7 => ⟨_, _, J7, q6⟩
      | brk =>
        obtain ⟨σ6, H6, S6, q6⟩ := hsp
        exact done S6 fun s7 J7 => ⟨_, _, J7, q6⟩
      | cont =>
        obtain ⟨σ6, H6, S6, q6⟩ := hsp
        exact done S6 fun s7 J7 => ⟨_, _, J7, q6⟩
      | ret u =>
        obtain ⟨v6, σ6, H6, S6, r6, q6⟩ := hsp
        exact done S6 fun s7 J7 => ⟨_, _, _, J7, r6, q6⟩
    have LT : PySem.W.Looks (model X.prog X.w) g3 (typeOf (.ref a)) cls := fun A Q E s k q => wpAny_typeOf_ref (k _ _ he3) (by rw [hz3.1]; exact q)
    refine wpAny_handleBy_cons (codeAny_handlers_test ?_) (by intro q; cases q)
    refine wpAny_Tuple ?_
    refine wpAny_items_cons (nm k1 ?_)
    refine wpAny_items_cons (nm k2 ?_)
    refine wpAny_items_cons (nm k3 ?_)
    refine wpAny_items_cons (nm k4 ?_)
    refine wpAny_items_cons (nm k5 ?_)
    refine wpAny_items_nil ⟨by size_fits, ?_⟩
    have kp : ∀ q o, g3.get? q = some o → (g3.push { cls := .type "tuple", data := .seq [c1, c2, c3, c4, c5].toArray }).get? q = some o := fun _ _ z => Heap.get?_push_of_some _ z
    refine (exm5 (J3.kIn.keeps kp) (LT.keeps kp) (Heap.get?_push_size g3 rfl) eb).here ?_
    have fl4 := fly_keeps fl3 kp
    have up4 := (up.trans up3).trans (Heap.UpToSlots.of_keeps kp)
    cases b with
    | true => exact goS fl4 up4 h1 (yes rfl)
    | false =>
      obtain ⟨ec, w2'⟩ := no rfl
      show wpAny _ X.A (handleBy (.ref a) X.env [.ExceptHandler (some (.Name x np)) (some n) (w2 :: u2) pos2]) _ _ _
      have J4 : Inv X pins σ' H' { s' with heap := g3.push { cls := .type "tuple", data := .seq [c1, c2, c3, c4, c5].toArray } } := J.landed nb fl4.1 up4 os ag
      obtain ⟨oe4, vs4, he4, hz4, hd4⟩ := fl4.there
      have S4 := J4.suite he4 hd4 na nL nF
      refine wpAny_handleBy_cons (codeAny_handlers_test ?_) (by intro q; cases q)
      have LM := PySem.W.exm_one (M := model X.prog X.w) (J4.kIn) (LT.keeps kp) ec
      have t2' : ∀ {Q : Value → Shared → Prop} {E : Value → Shared → Prop}, Q c { s' with heap := g3.push { cls := .type "tuple", data := .seq [c1, c2, c3, c4, c5].toArray } } → wpAny (model X.prog X.w) (X.A.mark (some (.ref a))) (eval (.Name x np) X.env) Q E { s' with heap := g3.push { cls := .type "tuple", data := .seq [c1, c2, c3, c4, c5].toArray } } := fun {Q E} q => by
        obtain ⟨hg, hdbg, hm | ⟨hm, hv, hnn⟩⟩ := kc
        · exact ld_glob (X := X.suite a ((a, oe4) :: (X.pn ++ pins))) S4 hg hm q hdbg
        · exact ld_blt (X := X.suite a ((a, oe4) :: (X.pn ++ pins))) S4 hg hm hv q hnn hdbg
      refine t2' (LM.here ?_)
      exact goS fl4 up4 h2 w2'
  · cases f with
    | next =>
      obtain ⟨σ', H', J', q⟩ := hsp
      exact wpAny_execs_nil ⟨σ', H', J'.ofTry ok, q⟩
    | brk =>
      obtain ⟨σ', H', J', q⟩ := hsp
      exact ⟨σ', H', J'.ofTry ok, q⟩
    | cont =>
      obtain ⟨σ', H', J', q⟩ := hsp
      exact ⟨σ', H', J'.ofTry ok, q⟩
    | ret u =>
      obtain ⟨v, σ', H', J', r, q⟩ := hsp
      exact ⟨v, σ', H', J'.ofTry ok, r, q⟩
end
end HU

namespace HU
open PySem PySem.Spec PyProof.Rows L2
def repS (z : Str) (k : Int) : Str := if k < 1 then Str.empty else if (k == 1 || z.length == 0) = true then z else ⟨(List.replicate k.toNat z.cps).foldl (fun a b => a ++ b) #[]⟩
theorem ten_text : ∀ k : _root_.Fin 31, PySem.intText? (("1" : Str) ++ repS "0" (k.val : Int)) = some ((10 : Int) ^ k.val) ∧ (("1" : Str) ++ repS "0" (k.val : Int)).length ≤ 640 ∧ (repS "0" (k.val : Int)).length ≤ sizeLine ∧ ("1" : Str).length + (repS "0" (k.val : Int)).length ≤ sizeLine ∧ ((10 : Int) ^ k.val).natAbs < 2 ^ 110 := by decide +kernel
section
variable {X : Cx}
theorem op_mul_str : OpR X (binaryOp .Mult) (fun x y H Q => ∃ z k, x = .str z ∧ y = .int k ∧ 0 ≤ k ∧ k ≤ 1000 ∧ z.length ≤ 1000 ∧ (repS z k).length ≤ sizeLine ∧ Q (.str (repS z k)) H) := by
  intro pins s σ H x y v u Q I rx ry h
  obtain ⟨z, k, rfl, rfl, k0, k1, hz, hzl, q⟩ := h
  obtain ⟨t, rfl⟩ := rx
  obtain ⟨t', rfl⟩ := ry
  refine PySem.P.mul_str ?_ (fun h1 _ => ?_) (fun h1 _ => ?_) ?_
  · rw [decide_eq_false (by omega), decide_eq_false (by omega)]
    rfl
  · have h2 : (1000 : Int) ≤ (2 ^ 63 - 1) / k := by
      refine (Int.le_ediv_iff_mul_le (by omega)).mpr ?_
      omega
    omega
  · have h3 : z.length * k.toNat ≤ 1000 * 1000 := Nat.mul_le_mul hz (by omega)
    unfold Builtin.Str.tooLong
    rw [sizeLine_eq]
    exact decide_eq_false (by omega)
  · unfold repS at q hzl
    by_cases h1 : k < 1
    · rw [if_pos h1] at q hzl ⊢
      exact ⟨by decide, .str Str.empty, H, I.tok _, ⟨_, rfl⟩, q⟩
    · rw [if_neg h1] at q hzl ⊢
      by_cases h2 : (k == 1 || z.length == 0) = true
      · rw [if_pos h2] at q hzl ⊢
        exact ⟨.str z, H, I.tok _, ⟨_, rfl⟩, q⟩
      · rw [if_neg h2] at q hzl ⊢
        exact ⟨hzl, .str _, H, I.tok _, ⟨_, rfl⟩, q⟩
end
end HU

namespace PF
open PySem PySem.Spec PyProof.Rows L2 ZG
def topS (i : Nat) : Stmt := PySem.Challenge.pw_paperrows_k02_forms_put_together.main.body.getD i (.Pass ⟨0, 0, 0, 0⟩)
abbrev sWhole : Stmt := topS 16
abbrev sSeqn : Stmt := topS 17
abbrev sIsForm : Stmt := topS 18
theorem scWhole : FnScope ["thing"] ["thing"] (defScope sWhole) := ⟨rfl, rfl, rfl, by decide +kernel, rfl, by decide +kernel, by decide +kernel⟩
theorem scSeqn : FnScope ["thing"] ["thing"] (defScope sSeqn) := ⟨rfl, rfl, rfl, by decide +kernel, rfl, by decide +kernel, by decide +kernel⟩
theorem scIsForm : FnScope ["thing", "number"] ["thing"] (defScope sIsForm) := ⟨rfl, rfl, rfl, by decide +kernel, rfl, by decide +kernel, by decide +kernel⟩
/-- the built-ins' names are not taken -/
structure Txt (mg : Str → Option Value) : Prop where
  isi : mg "isinstance" = none
  int : mg "int" = none
  bool : mg "bool" = none
  tuple : mg "tuple" = none
  list : mg "list" = none
  len : mg "len" = none
  all : mg "all" = none
  zip : mg "zip" = none
  range : mg "range" = none
  sum : mg "sum" = none
  abs : mg "abs" = none
  max : mg "max" = none
  min : mg "min" = none
theorem same_new {H : Hp} {p : Addr} {o : HO} (h : H p = none) : Same H (upd H p o) := fun b x e => by
  rw [upd_ne (ne_of_none e h)]
  exact e
theorem Same.tup {K : PySem.W.Frag} {H H' : Hp} {a : Addr} {xs : List V} (e : Same H H') (h : SqT K H a xs) : SqT K H' a xs := by
  rcases h with (h | ⟨o, h⟩) | h
  · exact .inl (.inl (e _ _ h))
  · exact .inl (.inr ⟨o, e _ _ h⟩)
  · exact .inr h
theorem ty_tup {K : PySem.W.Frag} {H : Hp} {a : Addr} {xs : List V} (h : SqT K H a xs) : TyX K H (.ref a) (.type "tuple") := by
  rcases h with (h | ⟨o, h⟩) | ⟨o, its, n, hk, hc, _⟩
  · exact .base (.tup h)
  · exact .fTuple h
  · exact .kTuple hk hc
theorem ty_lst {K : PySem.W.Frag} {H : Hp} {a : Addr} {xs : List V} (h : SqL K H a xs) : TyX K H (.ref a) (.type "list") := by
  rcases h with (h | ⟨o, h⟩) | ⟨o, its, n, hk, hc, _⟩
  · exact .base (.lst h)
  · exact .base (.frz h)
  · exact .kList hk hc
section
variable {P : Program} {w : World} {K : PySem.W.Frag} {mg : Str → Option Value} {base : Heap}
/-- the kinds of things that are asked about -/
def kinds : List String := ["int", "bool", "NoneType", "str", "tuple", "list", "dict"]
def isInt (n : String) : Bool := n == "int"
def spWhole (K : PySem.W.Frag) : Sp := fun vs H Q _ => ∃ (x : V) (n : String), vs = [x] ∧ TyX K H x (.type n) ∧ n ∈ kinds ∧ Q (.bl (isInt n)) H
theorem ok_whole {f : Addr} {fd : FuncData} (F : Fun K "is_whole" "is_whole" sWhole f fd) (T : Txt mg) : FnOk P w K mg base CX0 1 f fd ["thing"] (spWhole K) := by
  refine F.ok scWhole (fun vs H Q E h => ?_) (fun cdv A outer s H vs Q E hr h => ?_)
  · obtain ⟨x, n, rfl, _⟩ := h
    rfl
  · obtain ⟨x, n, rfl, ty, hn, q⟩ := h
    refine ⟨_, pss_one (ps_ret (pe_and (pe_callB call_isi (by rfl) T.isi (by decide +kernel) (pa_cons (pv 0) (pa_cons (pe_bltn (v := .ty "int") (by rfl) T.int (by decide +kernel) rfl) pa_nil)))
      (pe_one (pe_not (pe_callB call_isi (by rfl) T.isi (by decide +kernel) (pa_cons (pv 0) (pa_cons (pe_bltn (v := .ty "bool") (by rfl) T.bool (by decide +kernel) rfl) pa_nil))))))), ?_⟩
    simp only [kinds, List.mem_cons, List.mem_nil_iff, or_false] at hn
    rcases hn with rfl | rfl | rfl | rfl | rfl | rfl | rfl
    · exact ⟨_, rfl, _, _, _, _, true, rfl, .ty "int", ty, kit_ty (by decide +kernel), true, rfl, iteT ⟨_, rfl, _, _, _, _, false, rfl, .ty "bool", ty, kit_ty (by decide +kernel), false, rfl, q⟩⟩
    · exact ⟨_, rfl, _, _, _, _, true, rfl, .ty "int", ty, kit_ty (by decide +kernel), true, rfl, iteT ⟨_, rfl, _, _, _, _, true, rfl, .ty "bool", ty, kit_ty (by decide +kernel), true, rfl, q⟩⟩
    all_goals exact ⟨_, rfl, _, _, _, _, false, rfl, .ty "int", ty, kit_ty (by decide +kernel), false, rfl, iteF q⟩
def isSeq (n : String) : Bool := n == "list" || n == "tuple"
def spSeqn (K : PySem.W.Frag) : Sp := fun vs H Q _ => ∃ (x : V) (n : String), vs = [x] ∧ TyX K H x (.type n) ∧ n ∈ kinds ∧ ∀ H', Same H H' → Q (.bl (isSeq n)) H'
theorem TyX.same {H H' : Hp} (e : Same H H') {x : V} {t : Value} (h : TyX K H x t) : TyX K H' x t := by
  cases h with
  | base b =>
    refine .base ?_
    cases b with
    | non => exact .non
    | bl y => exact .bl y
    | int i => exact .int i
    | str y => exact .str y
    | flt y => exact .flt y
    | lst q => exact .lst (e _ _ q)
    | frz q => exact .frz (e _ _ q)
    | tup q => exact .tup (e _ _ q)
    | dK q => exact .dK (e _ _ q)
    | dT q => exact .dT (e _ _ q)
    | ins q a b c d f => exact .ins (e _ _ q) a b c d f
  | byt b => exact .byt b
  | set q => exact .set (e _ _ q)
  | kList q c => exact .kList q c
  | kTuple q c => exact .kTuple q c
  | kDict q c => exact .kDict q c
  | fTuple q => exact .fTuple (e _ _ q)
  | fDict q => exact .fDict (e _ _ q)
theorem ok_seqn {f : Addr} {fd : FuncData} (F : Fun K "is_sequence" "is_sequence" sSeqn f fd) (T : Txt mg) : FnOk P w K mg base CX0 1 f fd ["thing"] (spSeqn K) := by
  refine F.ok scSeqn (fun vs H Q E h => ?_) (fun cdv A outer s H vs Q E hr h => ?_)
  · obtain ⟨x, n, rfl, _⟩ := h
    rfl
  · obtain ⟨x, n, rfl, ty, hn, q⟩ := h
    refine ⟨_, pss_one (ps_ret (pe_callB call_isiT (by rfl) T.isi (by decide +kernel) (pa_cons (pv 0) (pa_cons (pe_tup (pa_cons (pe_bltn (v := .ty "list") (by rfl) T.list (by decide +kernel) rfl) (pa_cons (pe_bltn (v := .ty "tuple") (by rfl) T.tuple (by decide +kernel) rfl) pa_nil))) pa_nil)))), ?_⟩
    refine ⟨_, rfl, (by decide : 2 ≤ sizeLine), fun p hp => ?_⟩
    have s1 := same_new (o := .tup [.ty "list", .ty "tuple"]) hp
    have ty' := TyX.same s1 ty
    have pr : Paired ClsV [.ty "list", .ty "tuple"] [.type "list", .type "tuple"] := .cons (.ty _) (.cons (.ty _) .nil)
    refine ⟨x, p, _, _, _, isSeq n, rfl, upd_same, pr, ty', ?_, q _ s1⟩
    simp only [kinds, List.mem_cons, List.mem_nil_iff, or_false] at hn
    rcases hn with rfl | rfl | rfl | rfl | rfl | rfl | rfl
    all_goals first
      | exact kitAny_cons (b := true) (kit_ty (by decide +kernel)) (fun z => nomatch z) (fun _ => rfl)
      | exact kitAny_cons (b := false) (kit_ty (by decide +kernel)) (fun _ => kitAny_cons (b := true) (kit_ty (by decide +kernel)) (fun z => nomatch z) (fun _ => rfl)) (fun z => nomatch z)
      | exact kitAny_cons (b := false) (kit_ty (by decide +kernel)) (fun _ => kitAny_cons (b := false) (kit_ty (by decide +kernel)) (fun _ => kitAny_nil) (fun z => nomatch z)) (fun z => nomatch z)
/-- what stands in a row, by its kinds -/
def Tys (K : PySem.W.Frag) (H : Hp) (xs : List V) (ns : List String) : Prop := xs.length = ns.length ∧ ∀ (i : Nat) (x : V) (n : String), xs[i]? = some x → ns[i]? = some n → TyX K H x (.type n) ∧ n ∈ kinds
theorem Tys.same {H H' : Hp} {xs : List V} {ns : List String} (e : Same H H') (h : Tys K H xs ns) : Tys K H' xs ns := ⟨h.1, fun i x n a b => ⟨TyX.same e (h.2 i x n a b).1, (h.2 i x n a b).2⟩⟩
/-- a thing that may be asked whether it is a form, and the answer -/
def Formy (K : PySem.W.Frag) (H : Hp) (x : V) (b : Bool) : Prop :=
  (∃ a xs ns, x = .ref a ∧ SqT K H a xs ∧ xs.length ≤ 1000 ∧ Tys K H xs ns ∧ b = (!xs.isEmpty && ns.all isInt)) ∨ (∃ n, TyX K H x (.type n) ∧ n ∈ kinds ∧ n ≠ "tuple" ∧ b = false)
def spIsForm (K : PySem.W.Frag) : Sp := fun vs H Q _ => ∃ (x : V) (b : Bool), vs = [x] ∧ Formy K H x b ∧ ∀ H', Same H H' → Q (.bl b) H'
theorem kit_tup {K : PySem.W.Frag} {n : String} (hn : n ∈ kinds) : PySem.W.kitOne K (.type n) (.type "tuple") = some (n == "tuple") := by
  simp only [kinds, List.mem_cons, List.mem_nil_iff, or_false] at hn
  rcases hn with rfl | rfl | rfl | rfl | rfl | rfl | rfl <;> exact kit_ty (by decide +kernel)
theorem ok_isForm {f f1 : Addr} {fd fd1 : FuncData} (F : Fun K "is_form" "is_form" sIsForm f fd) (F1 : Fun K "is_whole" "is_whole" sWhole f1 fd1) (b1 : Binds K fd1 ["thing"] []) (m1 : mg "is_whole" = some (.ref f1)) (T : Txt mg) :
    FnOk P w K mg base CX0 2 f fd ["thing"] (spIsForm K) := by
  have G1 : FnOk P w K mg base CX0 1 f1 fd1 ["thing"] (spWhole K) := ok_whole F1 T
  refine F.ok scIsForm (fun vs H Q E h => ?_) (fun cdv A outer s H vs Q E hr h => ?_)
  · obtain ⟨x, b, rfl, _⟩ := h
    rfl
  · obtain ⟨x, b, rfl, hf, q⟩ := h
    refine ⟨_, pss_one (ps_ret (pe_and (pe_callB call_isi (by rfl) T.isi (by decide +kernel) (pa_cons (pv 0) (pa_cons (pe_bltn (v := .ty "tuple") (by rfl) T.tuple (by decide +kernel) rfl) pa_nil)))
      (pe_and (pe_cmpR op_gt (pe_callB call_len_seq (by rfl) T.len PySem.boot_len (pa_cons (pv 0) pa_nil)) pe_int (nomark _))
      (pe_one (pe_callB (cr_all rfl) (by rfl) T.all (by decide +kernel) (pa_cons (pe_lc (own := [("number", 1)]) (g := gName 1) (tt := tYes) rfl scIsForm.nd (pi_tup (pv 0)) (blkOk_by (N := ["thing", "number"]) (sc := defScope sIsForm) (by decide +kernel))
        (fun _ _ _ _ _ => pg_name (i := 1) scIsForm.nd rfl (Or.inl rfl)) (fun _ _ _ _ _ => pts_nil)
        (fun _ _ _ _ _ => pe_call G1 hr (by rfl) m1 F1.kp b1 .nil pass0 (pa_cons (pv 1) pa_nil))) pa_nil)))))), ?_⟩
    rcases hf with ⟨a, xs, ns, rfl, hT, hl, ts, rfl⟩ | ⟨n, ty, hn, ne, rfl⟩
    · refine ⟨_, rfl, _, _, _, _, true, rfl, .ty "tuple", ty_tup hT, kit_tup (by decide), true, rfl, iteT ?_⟩
      refine ⟨_, rfl, a, xs, rfl, .inr hT, _, _, rfl, rfl, _, rfl, ?_⟩
      cases xs with
      | nil => exact iteF (q H (Same.refl H))
      | cons x0 r =>
        refine ite2 (fun _ => ?_) (fun z => absurd (decide_eq_true (by rw [List.length_cons]; omega)) z)
        refine ⟨_, rfl, a, rfl, ⟨_, hT⟩, fun D hD => ?_⟩
        refine lc_it (walk_tup (xs := x0 :: r)) (fun i H' => Same H H' ∧ H' D = some (.lst (((ns.map isInt).take i).map V.bl))) ⟨same_new hD, upd_same⟩ (fun i H' _ p => Same.tup p.1 hT) ?_ ?_
        · rintro i x H1 H2 hi ⟨s1, e1⟩ ⟨rfl, hx⟩
          have hi2 : i < ns.length := by rw [← ts.1]; exact hi
          have hn := List.getElem?_eq_getElem hi2
          have t := ts.2 i x _ hx hn
          refine ⟨rfl, ?_⟩
          refine ⟨x, rfl, x, _, rfl, TyX.same s1 t.1, t.2, _, e1, ?_, fun b o e => ?_, ?_⟩
          · rw [List.length_map, List.length_take]
            exact Nat.lt_of_le_of_lt (Nat.le_trans (Nat.min_le_left _ _) (by omega)) (small1000 hl)
          · rw [upd_ne (ne_of_none e hD)]
            exact s1 b o e
          · rw [upd_same, List.take_add_one, List.getElem?_map, hn, List.map_append]
            rfl
        · rintro H1 ⟨s1, e1⟩
          rw [show (x0 :: r).length = (ns.map isInt).length by rw [ts.1, List.length_map], List.take_length] at e1
          refine ⟨D, ns.map isInt, rfl, SqL.of e1, ?_⟩
          have := q H1 s1
          rw [List.all_map]
          exact this
    · refine ⟨_, rfl, _, _, _, _, (n == "tuple"), rfl, .ty "tuple", ty, kit_tup hn, _, rfl, ?_⟩
      rw [show (n == "tuple") = false from beq_eq_false_iff_ne.mpr ne]
      exact iteF (q H (Same.refl H))
end
end PF

namespace PF
open PySem PySem.Spec PyProof.Rows L2 ZG
/-! a walk over what may be a list or a tuple -/
def ItS : Bool → PySem.W.Frag → Addr → It
  | true, K, a => Itt K a
  | false, K, a => Itl K a
def iSeqV (K : PySem.W.Frag) (i : Nat) : TI := fun σ H R => ∃ t a xs, σ[i]? = some (some (.ref a)) ∧ SqG t K H a xs ∧ R (ItS t K a) H
theorem pi_seqV {X : Cx} {tg e : Expr} {i : Nat} (h : PE X e (tVar i)) : PI X tg e (iSeqV X.K i) := by
  refine ⟨fun pins s σ H R I q => ?_⟩
  obtain ⟨t, a, xs, e, g, r⟩ := q
  cases t
  · exact (pi_list h).run pins s σ H R I ⟨_, e, a, rfl, ⟨xs, g⟩, r⟩
  · exact (pi_tup h).run pins s σ H R I ⟨_, e, a, rfl, ⟨xs, g⟩, r⟩
theorem walkS {K : PySem.W.Frag} {t : Bool} {a : Addr} {xs : List V} : Walk (ItS t K a) xs.length (fun H => SqG t K H a xs) (YAt xs) := by
  cases t
  · exact walk_list
  · exact walk_tup
theorem Same.sq {K : PySem.W.Frag} {H H' : Hp} {t : Bool} {a : Addr} {xs : List V} (e : Same H H') (h : SqG t K H a xs) : SqG t K H' a xs := by
  cases t
  · exact Same.seq e h
  · exact Same.tup e h
theorem SqG.lt {K : PySem.W.Frag} {H : Hp} {t : Bool} {a : Addr} {xs : List V} (h : SqG t K H a xs) : SqL K H a xs ∨ SqT K H a xs := by
  cases t
  · exact .inl h
  · exact .inr h
theorem SqG.ty {K : PySem.W.Frag} {H : Hp} {t : Bool} {a : Addr} {xs : List V} (h : SqG t K H a xs) : ∃ n, TyX K H (.ref a) (.type n) ∧ n ∈ kinds ∧ isSeq n = true := by
  cases t
  · exact ⟨"list", ty_lst h, by decide, rfl⟩
  · exact ⟨"tuple", ty_tup h, by decide, rfl⟩
/-! forms -/
def FAt (K : PySem.W.Frag) (H : Hp) (a : Addr) (f : List Int) : Prop := SqT K H a (f.map V.int)
theorem Same.f {K : PySem.W.Frag} {H H' : Hp} {a : Addr} {f : List Int} (e : Same H H') (h : FAt K H a f) : FAt K H' a f := Same.tup e h
theorem FAt.new {K : PySem.W.Frag} {H : Hp} {a : Addr} {f : List Int} (h : H a = some (.tup (f.map V.int))) : FAt K H a f := .inl (.inl h)
theorem ints_tys {K : PySem.W.Frag} {H : Hp} (f : List Int) : Tys K H (f.map V.int) (f.map fun _ => "int") := by
  refine ⟨by simp, fun i x n hx hn => ?_⟩
  rw [List.getElem?_map] at hx hn
  cases e : f[i]? with
  | none =>
    rw [e] at hx
    cases hx
  | some v =>
    rw [e] at hx hn
    cases hx
    cases hn
    exact ⟨.base (.int v), (by decide : "int" ∈ kinds)⟩
theorem ints_all (f : List Int) : (f.map fun _ => "int").all isInt = true := by
  rw [List.all_map]
  exact List.all_eq_true.mpr fun _ _ => rfl
theorem FAt.formy {K : PySem.W.Frag} {H : Hp} {a : Addr} {f : List Int} (h : FAt K H a f) (hl : f.length ≤ 1000) (h0 : f ≠ []) : Formy K H (.ref a) true := by
  refine .inl ⟨a, f.map V.int, f.map fun _ => "int", rfl, h, by rw [List.length_map]; exact hl, ints_tys f, ?_⟩
  rw [ints_all]
  cases f with
  | nil => exact absurd rfl h0
  | cons x r => rfl
abbrev sLook : Stmt := topS 25
theorem scLook : FnScope ["form"] ["form"] (defScope sLook) := ⟨rfl, rfl, rfl, by decide +kernel, rfl, by decide +kernel, by decide +kernel⟩
end PF

namespace PF
open PySem PySem.Spec PyProof.Rows L2 ZG HU
abbrev sKind : Stmt := topS 33
abbrev sHow : Stmt := topS 34
theorem scKind : FnScope ["e", "some", "kinds"] ["e"] (defScope sKind) := ⟨rfl, rfl, rfl, by decide +kernel, rfl, by decide +kernel, by decide +kernel⟩
theorem scHow : FnScope ["deed", "e"] ["deed"] (defScope sHow) := ⟨rfl, rfl, rfl, by decide +kernel, rfl, by decide +kernel, by decide +kernel⟩
/-- the classes by name, and which of them an error of the class at D is of -/
structure KF (K : PySem.W.Frag) (mg : Str → Option Value) (D cW : Addr) (c : Fin 13 → Addr) : Prop where
  qV : PySem.W.kitOne K (.ref D) (.type "ValueError") = some true
  mV : mg "ValueError" = none
  ex : ExcC K D
  mW : mg "Wrong" = some (.ref cW)
  eW : PySem.W.exmOne K (.ref D) (.ref cW) = some true
  m0 : mg "NoArea" = some (.ref (c 0))
  q0 : PySem.W.kitOne K (.ref D) (.ref (c 0)) = some false
  m1 : mg "NoClaims" = some (.ref (c 1))
  q1 : PySem.W.kitOne K (.ref D) (.ref (c 1)) = some false
  m2 : mg "NoDeeds" = some (.ref (c 2))
  q2 : PySem.W.kitOne K (.ref D) (.ref (c 2)) = some false
  m3 : mg "NoForm" = some (.ref (c 3))
  q3 : PySem.W.kitOne K (.ref D) (.ref (c 3)) = some true
  m4 : mg "NoNames" = some (.ref (c 4))
  q4 : PySem.W.kitOne K (.ref D) (.ref (c 4)) = some false
  m5 : mg "NoNumber" = some (.ref (c 5))
  q5 : PySem.W.kitOne K (.ref D) (.ref (c 5)) = some false
  m6 : mg "NoPapers" = some (.ref (c 6))
  q6 : PySem.W.kitOne K (.ref D) (.ref (c 6)) = some false
  m7 : mg "NoPass" = some (.ref (c 7))
  q7 : PySem.W.kitOne K (.ref D) (.ref (c 7)) = some false
  m8 : mg "NoRows" = some (.ref (c 8))
  q8 : PySem.W.kitOne K (.ref D) (.ref (c 8)) = some false
  m9 : mg "NoRule" = some (.ref (c 9))
  q9 : PySem.W.kitOne K (.ref D) (.ref (c 9)) = some false
  m10 : mg "NoSaying" = some (.ref (c 10))
  q10 : PySem.W.kitOne K (.ref D) (.ref (c 10)) = some false
  m11 : mg "NoStart" = some (.ref (c 11))
  q11 : PySem.W.kitOne K (.ref D) (.ref (c 11)) = some false
  m12 : mg "NoText" = some (.ref (c 12))
  q12 : PySem.W.kitOne K (.ref D) (.ref (c 12)) = some false
theorem cat_rd {H : Hp} {l b : Addr} {xs zs : List V} {Q : VK} (hl : H l = some (.lst xs)) (hb : H b = some (.lst zs)) (hz : xs.length + zs.length ≤ sizeLine) (q : ∀ H' p, Same H H' → H' p = some (.lst (xs ++ zs)) → Q (.ref p) H') : rCat (.ref l) (.ref b) H Q :=
  ⟨l, b, xs, zs, rfl, rfl, hl, hb, hz, fun p np => q _ p (same_new np) upd_same⟩
def spKind (D : Addr) (word : Str) : Addr × Obj → Sp := fun p vs H Q _ => vs = [.ref p.1] ∧ Zc (.ref D) none p.2 ∧ (∃ us, p.2.data = .fields us) ∧ ∀ H', Same H H' → Q (.str word) H'
section
variable {P : Program} {w : World} {K : PySem.W.Frag} {mg : Str → Option Value} {base : Heap}
theorem ok_kind {f D cW : Addr} {fd : FuncData} {c : Fin 13 → Addr} (F : Fun K "_law_kind" "_law_kind" sKind f fd) (T : Txt mg) (A : KF K mg D cW c) : FnU P w K mg base 1 f fd ["e"] (spKind D "!NoForm") := by
  refine okU F scKind (fun p vs H Q E h => ?_) (fun cdv p Ar outer s H vs Q E hr h => ?_)
  · obtain ⟨rfl, _⟩ := h
    rfl
  · obtain ⟨rfl, hz, hf, q⟩ := h
    refine ⟨_, pss_cons (ps_set (i := 1) scKind.nd rfl (.inl rfl) (pe_lst (pa_cons (pe_callB (call_isU (p := p) (List.mem_cons_self ..) A.ex hz hf) (by rfl) T.isi (by decide +kernel) (pa_cons (pv 0) (pa_cons (pe_glob (v := .ref (c 0)) rfl A.m0 rfl) pa_nil))) (pa_cons (pe_callB (call_isU (p := p) (List.mem_cons_self ..) A.ex hz hf) (by rfl) T.isi (by decide +kernel) (pa_cons (pv 0) (pa_cons (pe_glob (v := .ref (c 1)) rfl A.m1 rfl) pa_nil))) (pa_cons (pe_callB (call_isU (p := p) (List.mem_cons_self ..) A.ex hz hf) (by rfl) T.isi (by decide +kernel) (pa_cons (pv 0) (pa_cons (pe_glob (v := .ref (c 2)) rfl A.m2 rfl) pa_nil))) (pa_cons (pe_callB (call_isU (p := p) (List.mem_cons_self ..) A.ex hz hf) (by rfl) T.isi (by decide +kernel) (pa_cons (pv 0) (pa_cons (pe_glob (v := .ref (c 3)) rfl A.m3 rfl) pa_nil))) pa_nil))))))
      (pss_cons (ps_set (i := 1) scKind.nd rfl (.inl rfl) (pe_op op_cat (pv 1) (pe_lst (pa_cons (pe_callB (call_isU (p := p) (List.mem_cons_self ..) A.ex hz hf) (by rfl) T.isi (by decide +kernel) (pa_cons (pv 0) (pa_cons (pe_glob (v := .ref (c 4)) rfl A.m4 rfl) pa_nil))) (pa_cons (pe_callB (call_isU (p := p) (List.mem_cons_self ..) A.ex hz hf) (by rfl) T.isi (by decide +kernel) (pa_cons (pv 0) (pa_cons (pe_glob (v := .ref (c 5)) rfl A.m5 rfl) pa_nil))) (pa_cons (pe_callB (call_isU (p := p) (List.mem_cons_self ..) A.ex hz hf) (by rfl) T.isi (by decide +kernel) (pa_cons (pv 0) (pa_cons (pe_glob (v := .ref (c 6)) rfl A.m6 rfl) pa_nil))) (pa_cons (pe_callB (call_isU (p := p) (List.mem_cons_self ..) A.ex hz hf) (by rfl) T.isi (by decide +kernel) (pa_cons (pv 0) (pa_cons (pe_glob (v := .ref (c 7)) rfl A.m7 rfl) pa_nil))) pa_nil)))))))
      (pss_cons (ps_set (i := 1) scKind.nd rfl (.inl rfl) (pe_op op_cat (pv 1) (pe_lst (pa_cons (pe_callB (call_isU (p := p) (List.mem_cons_self ..) A.ex hz hf) (by rfl) T.isi (by decide +kernel) (pa_cons (pv 0) (pa_cons (pe_glob (v := .ref (c 8)) rfl A.m8 rfl) pa_nil))) (pa_cons (pe_callB (call_isU (p := p) (List.mem_cons_self ..) A.ex hz hf) (by rfl) T.isi (by decide +kernel) (pa_cons (pv 0) (pa_cons (pe_glob (v := .ref (c 9)) rfl A.m9 rfl) pa_nil))) (pa_cons (pe_callB (call_isU (p := p) (List.mem_cons_self ..) A.ex hz hf) (by rfl) T.isi (by decide +kernel) (pa_cons (pv 0) (pa_cons (pe_glob (v := .ref (c 10)) rfl A.m10 rfl) pa_nil))) (pa_cons (pe_callB (call_isU (p := p) (List.mem_cons_self ..) A.ex hz hf) (by rfl) T.isi (by decide +kernel) (pa_cons (pv 0) (pa_cons (pe_glob (v := .ref (c 11)) rfl A.m11 rfl) pa_nil))) pa_nil)))))))
      (pss_cons (ps_set (i := 1) scKind.nd rfl (.inl rfl) (pe_op op_cat (pv 1) (pe_lst (pa_cons (pe_callB (call_isU (p := p) (List.mem_cons_self ..) A.ex hz hf) (by rfl) T.isi (by decide +kernel) (pa_cons (pv 0) (pa_cons (pe_glob (v := .ref (c 12)) rfl A.m12 rfl) pa_nil))) pa_nil))))
      (pss_cons (ps_set (i := 2) scKind.nd rfl (.inl rfl) (pe_lst (pa_cons pe_str (pa_cons pe_str (pa_cons pe_str (pa_cons pe_str (pa_cons pe_str (pa_cons pe_str (pa_cons pe_str (pa_cons pe_str (pa_cons pe_str (pa_cons pe_str pa_nil))))))))))))
      (pss_cons (ps_set (i := 2) scKind.nd rfl (.inl rfl) (pe_op op_cat (pv 2) (pe_lst (pa_cons pe_str (pa_cons pe_str (pa_cons pe_str pa_nil))))))
      (pss_cons (ps_if (PW.pt (pw_or (pt_cmpR op_ne (pe_bm PySem.F.plainAttrs_list PySem.F.slot_list_count PySem.F.type_list_count mt_countF (pv 1) (pa_cons pe_bl pa_nil)) pe_int (nomark _)) (pw_or1 (pt_not (pt_val (pe_callB (call_isU (p := p) (List.mem_cons_self ..) A.ex hz hf) (by rfl) T.isi (by decide +kernel) (pa_cons (pv 0) (pa_cons (pe_bltn (v := .ty "ValueError") (by rfl) A.mV (by decide +kernel) rfl) pa_nil)))))))) (pss_one ps_never) pss_nil)
      (pss_one (ps_ret (pe_op op_add_str pe_str (pe_ix ix_list (pv 2) (pe_bm PySem.F.plainAttrs_list PySem.F.slot_list_index PySem.F.type_list_index mt_index (pv 1) (pa_cons pe_bl pa_nil)) (fun _ _ => rfl))))))))))), ?_⟩
    refine ⟨_, rfl, _, _, false, rfl, (fun _ z => z), A.q0, _, rfl, _, _, false, rfl, (fun _ z => z), A.q1, _, rfl, _, _, false, rfl, (fun _ z => z), A.q2, _, rfl, _, _, true, rfl, (fun _ z => z), A.q3, (by decide : 4 ≤ sizeLine), fun l1 n1 => ?_⟩
    have s1 : Same H (upd H l1 (.lst [.bl false, .bl false, .bl false, .bl true])) := same_new n1
    have e1 : (upd H l1 (.lst [.bl false, .bl false, .bl false, .bl true])) l1 = some (.lst [.bl false, .bl false, .bl false, .bl true]) := upd_same
    revert s1 e1
    generalize upd H l1 (.lst [.bl false, .bl false, .bl false, .bl true]) = H1
    intro s1 e1
    refine ⟨_, rfl, _, rfl, _, _, false, rfl, (fun _ z => z), A.q4, _, rfl, _, _, false, rfl, (fun _ z => z), A.q5, _, rfl, _, _, false, rfl, (fun _ z => z), A.q6, _, rfl, _, _, false, rfl, (fun _ z => z), A.q7, (by decide : 4 ≤ sizeLine), fun a1 na1 => ?_⟩
    have t1 := same_new (o := .lst [.bl false, .bl false, .bl false, .bl false]) na1
    have f1 : (upd H1 a1 (.lst [.bl false, .bl false, .bl false, .bl false])) a1 = some (.lst [.bl false, .bl false, .bl false, .bl false]) := upd_same
    revert t1 f1
    generalize upd H1 a1 (.lst [.bl false, .bl false, .bl false, .bl false]) = G1
    intro t1 f1
    refine cat_rd (t1 _ _ e1) f1 (by decide) fun H2 l2 s2' e2 => ?_
    have s2 := s1.trans (t1.trans s2')
    refine ⟨_, rfl, _, rfl, _, _, false, rfl, (fun _ z => z), A.q8, _, rfl, _, _, false, rfl, (fun _ z => z), A.q9, _, rfl, _, _, false, rfl, (fun _ z => z), A.q10, _, rfl, _, _, false, rfl, (fun _ z => z), A.q11, (by decide : 4 ≤ sizeLine), fun a2 na2 => ?_⟩
    have t2 := same_new (o := .lst [.bl false, .bl false, .bl false, .bl false]) na2
    have f2 : (upd H2 a2 (.lst [.bl false, .bl false, .bl false, .bl false])) a2 = some (.lst [.bl false, .bl false, .bl false, .bl false]) := upd_same
    revert t2 f2
    generalize upd H2 a2 (.lst [.bl false, .bl false, .bl false, .bl false]) = G2
    intro t2 f2
    refine cat_rd (t2 _ _ e2) f2 (by decide) fun H3 l3 s3' e3 => ?_
    have s3 := s2.trans (t2.trans s3')
    refine ⟨_, rfl, _, rfl, _, _, false, rfl, (fun _ z => z), A.q12, (by decide : 1 ≤ sizeLine), fun a3 na3 => ?_⟩
    have t3 := same_new (o := .lst [.bl false]) na3
    have f3 : (upd H3 a3 (.lst [.bl false])) a3 = some (.lst [.bl false]) := upd_same
    revert t3 f3
    generalize upd H3 a3 (.lst [.bl false]) = G3
    intro t3 f3
    refine cat_rd (t3 _ _ e3) f3 (by decide) fun H4 l4 s4' e4 => ?_
    have s4 := s3.trans (t3.trans s4')
    refine ⟨(by decide : 10 ≤ sizeLine), fun b1 nb1 => ?_⟩
    have t5 := same_new (o := .lst [.str "NoArea", .str "NoClaims", .str "NoDeeds", .str "NoForm", .str "NoNames", .str "NoNumber", .str "NoPapers", .str "NoPass", .str "NoRows", .str "NoRule"]) nb1
    have f5 : (upd H4 b1 (.lst [.str "NoArea", .str "NoClaims", .str "NoDeeds", .str "NoForm", .str "NoNames", .str "NoNumber", .str "NoPapers", .str "NoPass", .str "NoRows", .str "NoRule"])) b1 = some (.lst [.str "NoArea", .str "NoClaims", .str "NoDeeds", .str "NoForm", .str "NoNames", .str "NoNumber", .str "NoPapers", .str "NoPass", .str "NoRows", .str "NoRule"]) := upd_same
    revert t5 f5
    generalize upd H4 b1 (.lst [.str "NoArea", .str "NoClaims", .str "NoDeeds", .str "NoForm", .str "NoNames", .str "NoNumber", .str "NoPapers", .str "NoPass", .str "NoRows", .str "NoRule"]) = G5
    intro t5 f5
    refine ⟨_, rfl, (by decide : 3 ≤ sizeLine), fun b2 nb2 => ?_⟩
    have t6 := same_new (o := .lst [.str "NoSaying", .str "NoStart", .str "NoText"]) nb2
    have f6 : (upd G5 b2 (.lst [.str "NoSaying", .str "NoStart", .str "NoText"])) b2 = some (.lst [.str "NoSaying", .str "NoStart", .str "NoText"]) := upd_same
    revert t6 f6
    generalize upd G5 b2 (.lst [.str "NoSaying", .str "NoStart", .str "NoText"]) = G6
    intro t6 f6
    refine cat_rd (t6 _ _ f5) f6 (by decide) fun H7 b3 s7' e7 => ?_
    have s7 := s4.trans (t5.trans (t6.trans s7'))
    have e4' := s7' _ _ (t6 _ _ (t5 _ _ e4))
    refine ⟨_, rfl, .inl ⟨rfl, _, SqL.of e4'⟩, l4, _, .bl true, rfl, rfl, SqL.of e4', rfl, by decide, rfl, _, rfl, ?_⟩
    refine iteNS rfl ?_
    refine ⟨_, rfl, _, _, true, rfl, (fun _ z => z), A.qV, true, rfl, iteF ?_⟩
    refine ⟨_, rfl, _, rfl, .inl ⟨rfl, _, SqL.of e4'⟩, l4, _, .bl true, 3, .bl true, rfl, rfl, SqL.of e4', rfl, by decide, rfl, rfl, fun m z' hm hz' => ?_, ?_⟩
    · match m, hm, hz' with
      | 0, _, hz' => cases hz'; rfl
      | 1, _, hz' => cases hz'; rfl
      | 2, _, hz' => cases hz'; rfl
    refine ⟨b3, _, 3, .str "NoForm", rfl, rfl, SqL.of e7, atI_nat (j := 3) rfl, _, _, rfl, rfl, by decide, ?_⟩
    exact q H7 s7
end
end PF

namespace PF
open PySem PySem.Spec PyProof.Rows L2 ZG HU
/-- what _law_how makes of what it is handed -/
def THow (D : Addr) : (XK → Hp → VK → Prop) → Hp → VK → Prop := fun tl H Q =>
  tl (fun cls d H' => cls = .ref D ∧ d = none ∧ ∀ H2 l, Same H' H2 → H' l = none → H2 l = some (.lst [.str "!NoForm"]) → Q (.ref l) H2) H (fun v H' => 2 ≤ sizeLine ∧ ∀ l, H' l = none → Q (.ref l) (upd H' l (.lst [.str "told", v])))
theorem how_gives {X : Cx} {g D cW fK : Addr} {cdg : Value} {q : Str} {dK : FuncData} {c : Fin 13 → Addr} {k : Nat} (A : KF X.K X.mg D cW c) (T : Txt X.mg) (GK : FnU X.prog X.w X.K X.mg X.base 1 fK dK ["e"] (spKind D "!NoForm")) (kK : PySem.W.keepIn X.K (.ref fK) = true) (bK : L2.Binds X.K dK ["e"] []) (mK : X.mg "_law_kind" = some (.ref fK))
    (eA : PySem.W.exmAny X.K (.ref D) [.ref (c 0), .ref (c 1), .ref (c 2), .ref (c 7), .ref (c 8)] = some false) (hr : Room (k + 4) X.A) :
    LamX.GivesTo X ["deed", "e"] "_law_how" (defScope sHow) g cdg (defBody sHow) "deed" q (THow D) := by
  intro f c' s H Q tl act hc h
  have hrd : Room (k + 3) (X.A.deeper (envOfC "_law_how" (defScope sHow) s.heap.objs.size g cdg)) := hr.deeper _
  refine ⟨_, pss_one (ps_try_how (X := (cxOf C8.CX0 X.prog X.w X.K X.mg X.base ["deed", "e"] "_law_how" (defScope sHow) g cdg X.A X.stack s H C8.E0).nox) (i := 1)
      (tb := fun W D' σ H => ∃ Ech : XK, (∀ cls d σ' H', Ech cls d H' → W cls d σ' H') ∧ σ[0]? = some (some (.ref f)) ∧ H c' = some (LamX.CodeO c' q) ∧ tl Ech H (fun v H1 => 2 ≤ sizeLine ∧ ∀ l, H1 l = none → D'.rt (.ref l) (upd H1 l (.lst [.str "told", v]))))
      (t1 := fun _ _ _ => tNever) (t2 := fun a cls d D' σ H => cls = .ref D ∧ d = none ∧ (∃ σ0 : L2.St, σ = σ0.set 1 (some (.ref a))) ∧ ∀ H' l, Same H H' → H l = none → H' l = some (.lst [.str "!NoForm"]) → D'.rt (.ref l) H')
      rfl rfl scHow.nd rfl rfl ⟨by rfl, by decide, .inl A.m0⟩ ⟨by rfl, by decide, .inl A.m1⟩ ⟨by rfl, by decide, .inl A.m2⟩ ⟨by rfl, by decide, .inl A.m7⟩ ⟨by rfl, by decide, .inl A.m8⟩ ⟨by rfl, by decide, .inl A.mW⟩
      (fun W pn xe tk _ => ?_) (fun _ _ _ _ _ _ _ => pss_never) (fun a oe cls d pn hz hf => ?_)), ?_⟩
  · refine ⟨fun pins s' σ H' D' I h' => ?_⟩
    obtain ⟨Ech, hW, h1, h2, h3⟩ := h'
    exact PSs.run (pss_one (ps_ret (pe_lst (pa_cons pe_str (pa_cons (act W pn xe Ech _ _ tk hW) pa_nil))))) pins s' σ H' D' I ⟨h1, h2, h3⟩
  · refine ⟨fun pins s' σ H' D' I h' => ?_⟩
    obtain ⟨e1, e2, ⟨σ0, e3'⟩, h3⟩ := h'
    subst e1 e2
    have e3 : σ[1]? = some (some (V.ref a)) := by
      have hl : σ.length = 2 := I.len
      rw [e3'] at hl ⊢
      rw [List.length_set] at hl
      rw [List.getElem?_set_self (by omega)]
    have rm : L2H.RoomH 1 _ := ⟨(hrd.mono (show 1 ≤ k + 3 by omega)).dp, (hrd.mono (show 1 ≤ k + 3 by omega)).un⟩
    refine PSs.run (pss_one (ps_ret (pe_lst (pa_cons (pe_callU (X := (cxOf C8.CX0 X.prog X.w X.K X.mg X.base ["deed", "e"] "_law_how" (defScope sHow) g cdg X.A X.stack s H C8.E0).nox.suite a ((a, oe) :: pn)) (p := (a, oe)) GK ⟨rm.dp, rm.un⟩ (List.mem_cons_self ..) (by rfl) mK kK bK (pa_cons (pv 1) pa_nil)) pa_nil)))) pins s' σ H' D' I ⟨_, e3, rfl, hz, hf, fun H2 s2 => ⟨(by decide : 1 ≤ sizeLine), fun l hl => ?_⟩⟩
    exact h3 _ l (s2.trans (same_new hl)) (s2.free hl) upd_same
  · refine ⟨fun cls d H' => cls = .ref D ∧ d = none ∧ ∀ H2 l, Same H' H2 → H' l = none → H2 l = some (.lst [.str "!NoForm"]) → Q (.ref l) H2, fun cls d σ' H' hh => ?_, rfl, hc, ?_⟩
    · obtain ⟨rfl, rfl, hh⟩ := hh
      refine ⟨false, eA, fun z => (nomatch z), fun _ => ⟨A.eW, fun a na => ⟨rfl, rfl, ⟨_, rfl⟩, hh⟩⟩⟩
    · exact h
end PF

namespace PF
open PySem PySem.Spec PyProof.Rows L2 ZG HU
/-- the class at D may be raised -/
structure EF (K : PySem.W.Frag) (mg : Str → Option Value) (D : Addr) : Prop where
  g : mg "NoForm" = some (.ref D)
  x : PySem.W.excIn K D [.type "ValueError", .type "Exception", .type "BaseException", .type "object"] "ValueError.__new__" = true
  k : PySem.W.keepIn K (.ref D) = true
  b : PySem.W.subIn K (.ref D) (.type "BaseException") = some true
  t : PySem.W.typeIn K (.ref D) = some (.type "type")
section
variable {P : Program} {w : World} {K : PySem.W.Frag} {mg : Str → Option Value} {base : Heap}
def spLookX (K : PySem.W.Frag) (D : Addr) : Sp := fun vs H Q E => ∃ (x : V) (b : Bool), vs = [x] ∧ Formy K H x b ∧ (b = true → ∀ H', Same H H' → Q .non H') ∧ (b = false → ∀ H', Same H H' → E (.ref D) none H')
theorem ok_lookX {f f1 D : Addr} {fd fd1 : FuncData} (F : Fun K "_look_form" "_look_form" sLook f fd) (G1 : FnOk P w K mg base CX0 2 f1 fd1 ["thing"] (spIsForm K)) (k1 : PySem.W.keepIn K (.ref f1) = true) (b1 : Binds K fd1 ["thing"] []) (m1 : mg "is_form" = some (.ref f1)) (A : EF K mg D) :
    FnOk P w K mg base (L2.CX P w) 3 f fd ["form"] (spLookX K D) := by
  refine F.okX scLook (fun vs H Q E h => ?_) (fun cdv Ar outer s H vs Q E hr h => ?_)
  · obtain ⟨x, b, rfl, _⟩ := h
    rfl
  · obtain ⟨x, b, rfl, hf, q1, q2⟩ := h
    refine ⟨_, pss_one (ps_if (pt_not (pt_val (pe_call G1 hr (by rfl) m1 k1 b1 .nil pass0 (pa_cons (pv 0) pa_nil)))) (pss_one (ps_raise rfl (takes_of rfl rfl rfl rfl) (pmk_own PySem.F.excBase_ValueError A.x A.g A.k (raises_own A.b A.t) rfl))) pss_nil), ?_⟩
    refine ⟨x, rfl, x, b, rfl, hf, fun H' s1 => ⟨b, rfl, ?_⟩⟩
    cases b with
    | true => exact iteF (q1 rfl H' s1)
    | false => exact iteT (q2 rfl H' s1)
/-- things that may be asked whether they are worths: a row, or something else -/
def Wsy (K : PySem.W.Frag) (H : Hp) (y : V) (o : Option (List String)) : Prop :=
  (∃ t b ys ns, y = .ref b ∧ SqG t K H b ys ∧ ys.length ≤ 1000 ∧ Tys K H ys ns ∧ o = some ns) ∨ (∃ n, TyX K H y (.type n) ∧ n ∈ kinds ∧ isSeq n = false ∧ o = none)
def dotW : List Int → List Int → Int
  | n :: ns, v :: vs => n * v + dotW ns vs
  | _, _ => 0
def worthF : List Int → List Int → Int
  | x :: ns, vs => x + dotW ns vs
  | [], _ => 0
/-- a form of the length n + 1 and what is no right row of worths for it -/
def BadW (K : PySem.W.Frag) (H : Hp) (x y : V) : Prop := Formy K H x false ∨
  ∃ a xs, x = .ref a ∧ SqT K H a xs ∧ Formy K H x true ∧ ((∃ n, TyX K H y (.type n) ∧ n ∈ kinds ∧ isSeq n = false) ∨
    (∃ t b ys ns, y = .ref b ∧ SqG t K H b ys ∧ ys.length ≤ 1000 ∧ Tys K H ys ns ∧ (ns.all isInt = false ∨ ys.length + 1 ≠ xs.length)))
def spWorth (K : PySem.W.Frag) (D : Addr) : Sp := fun vs H Q E => ∃ x y : V, vs = [x, y] ∧
  ((∃ t a b f ws, x = .ref a ∧ y = .ref b ∧ FAt K H a f ∧ SqG t K H b (ws.map V.int) ∧ f.length = ws.length + 1 ∧ f.length ≤ 1000 ∧ (∀ v ∈ ws, v.natAbs ≤ 1000000) ∧ ∀ H', Same H H' → Q (.int (worthF f ws)) H') ∨
   (BadW K H x y ∧ ∀ H', Same H H' → E (.ref D) none H'))
abbrev sWorth : Stmt := topS 20
abbrev sHolds : Stmt := topS 21
theorem scWorth : FnScope ["form", "worths", "number", "its_worth"] ["form", "worths"] (defScope sWorth) := ⟨rfl, rfl, rfl, by decide +kernel, rfl, by decide +kernel, by decide +kernel⟩
theorem scHolds : FnScope ["form", "worths"] ["form", "worths"] (defScope sHolds) := ⟨rfl, rfl, rfl, by decide +kernel, rfl, by decide +kernel, by decide +kernel⟩
theorem iteNF {c A B : Prop} [Decidable c] (hc : ¬ c) (h : A) : if (!decide c) = true then A else B := by
  rw [decide_eq_false hc]
  exact iteT h
theorem cut_one (xs : List V) : cutV xs (some 1) none = xs.drop 1 := by
  unfold cutV
  rw [show HT.sIx xs.length 0 (some 1) = min 1 xs.length from HT.sIx_nat xs.length 0 1, HT.sIx_none]
  cases xs with
  | nil => rfl
  | cons x r =>
    rw [show min 1 (x :: r).length = 1 by rw [List.length_cons]; omega]
    show List.take ((x :: r).length - 1) r = r
    exact List.take_of_length_le (by rw [List.length_cons]; omega)
theorem not_whole {x : V} {r : List V} : ¬ (HT.sIx (x :: r).length 0 (some 1) = 0 ∧ HT.sIx (x :: r).length (x :: r).length none = (x :: r).length) := fun z => by
  have e := z.1
  rw [show HT.sIx (x :: r).length 0 (some 1) = min 1 (x :: r).length from HT.sIx_nat _ 0 1, List.length_cons] at e
  omega
theorem int_at {f : List Int} {i : Nat} {x : V} (h : (f.map V.int)[i]? = some x) : ∃ n, x = .int n ∧ f[i]? = some n := by
  rw [List.getElem?_map] at h
  cases e : f[i]? with
  | none =>
    rw [e] at h
    cases h
  | some v =>
    rw [e] at h
    exact ⟨v, (Option.some.inj h).symm, rfl⟩
theorem dotW_snoc : ∀ (ns vs : List Int) (i : Nat) (n v : Int), ns[i]? = some n → vs[i]? = some v → (List.zipWith (fun a b => a * b) ns vs)[i]? = some (n * v)
  | ns, vs, i, n, v, h1, h2 => by
    rw [List.getElem?_zipWith, h1, h2]
theorem dotW_sum : ∀ (ns vs : List Int), (List.zipWith (fun a b => a * b) ns vs).sum = dotW ns vs
  | [], vs => by cases vs <;> rfl
  | n :: ns, [] => rfl
  | n :: ns, v :: vs => by
    show (n * v :: List.zipWith (fun a b => a * b) ns vs).sum = n * v + dotW ns vs
    rw [List.sum_cons, dotW_sum ns vs]
theorem ok_worth {f fL fS fW D : Addr} {fd dL dS dW : FuncData} (F : Fun K "worth" "worth" sWorth f fd)
    (GL : FnOk P w K mg base (L2.CX P w) 3 fL dL ["form"] (spLookX K D)) (kL : PySem.W.keepIn K (.ref fL) = true) (bL : Binds K dL ["form"] []) (mL : mg "_look_form" = some (.ref fL))
    (GS : FnOk P w K mg base CX0 1 fS dS ["thing"] (spSeqn K)) (kS : PySem.W.keepIn K (.ref fS) = true) (bS : Binds K dS ["thing"] []) (mS : mg "is_sequence" = some (.ref fS))
    (GW : FnOk P w K mg base CX0 1 fW dW ["thing"] (spWhole K)) (kW : PySem.W.keepIn K (.ref fW) = true) (bW : Binds K dW ["thing"] []) (mW : mg "is_whole" = some (.ref fW)) (T : Txt mg) (A : EF K mg D) :
    FnOk P w K mg base (L2.CX P w) 4 f fd ["form", "worths"] (spWorth K D) := by
  refine F.okX scWorth (fun vs H Q E h => ?_) (fun cdv Ar outer s H vs Q E hr h => ?_)
  · obtain ⟨x, y, rfl, _⟩ := h
    rfl
  · obtain ⟨x, y, rfl, h⟩ := h
    have hr1 : Room 1 _ := hr.mono (by decide)
    refine ⟨_, pss_cons (ps_expr (pe_call GL hr (by rfl) mL kL bL .nil (passes_call (takes_of rfl rfl rfl rfl) fun _ _ _ _ h => h) (pa_cons (pv 0) pa_nil)))
      (pss_cons (ps_if (PW.pt (pw_or (pt_not (pt_val (pe_call GS hr1 (by rfl) mS kS bS .nil pass0 (pa_cons (pv 1) pa_nil))))
          (pw_or1 (pt_not (pt_val (pe_callB (cr_all rfl) (by rfl) T.all (by decide +kernel) (pa_cons (pe_lc (own := [("number", 2)]) (g := gName 2) (tt := tYes) rfl scWorth.nd (pi_seqV (pv 1)) (blkOk_by (N := ["form", "worths", "number", "its_worth"]) (sc := defScope sWorth) (by decide +kernel))
            (fun _ _ _ _ _ => pg_name (i := 2) scWorth.nd rfl (Or.inl rfl)) (fun _ _ _ _ _ => pts_nil) (fun _ _ _ _ _ => pe_call GW hr1 (by rfl) mW kW bW .nil pass0 (pa_cons (pv 2) pa_nil))) pa_nil)))))))
          (pss_one (ps_raise rfl (takes_of rfl rfl rfl rfl) (pmk_own PySem.F.excBase_ValueError A.x A.g A.k (raises_own A.b A.t) rfl))) pss_nil)
      (pss_cons (ps_if (pt_cmpR op_ne (pe_callB call_len_seq (by rfl) T.len PySem.boot_len (pa_cons (pv 1) pa_nil)) (pe_op op_sub (pe_callB call_len_seq (by rfl) T.len PySem.boot_len (pa_cons (pv 0) pa_nil)) pe_int) (nomark _))
          (pss_one (ps_raise rfl (takes_of rfl rfl rfl rfl) (pmk_own PySem.F.excBase_ValueError A.x A.g A.k (raises_own A.b A.t) rfl))) pss_nil)
      (pss_one (ps_ret (pe_op op_add (pe_ix ix_tup (pv 0) pe_int (fun _ _ => rfl)) (pe_callB (cr_sum rfl) (by rfl) T.sum (by decide +kernel) (pa_cons (pe_lc (own := [("number", 2), ("its_worth", 3)]) (g := gTup _ 2 (gCons (gName 2) (gCons (gName 3) gNil))) (tt := tYes) rfl scWorth.nd
        (pi_zipG (by rfl) T.zip (pa_cons (pe_slice sl_tupA (pv 0) (po_some pe_int) po_none) (pa_cons (pv 1) pa_nil))) (blkOk_by (N := ["form", "worths", "number", "its_worth"]) (sc := defScope sWorth) (by decide +kernel))
        (fun _ _ _ _ _ => pg_tup rfl (pgs_cons (pg_name (i := 2) scWorth.nd rfl (Or.inl rfl)) (pgs_cons (pg_name (i := 3) scWorth.nd rfl (Or.inl rfl)) pgs_nil))) (fun _ _ _ _ _ => pts_nil) (fun _ _ _ _ _ => pe_op op_mul (pv 2) (pv 3))) pa_nil))))))), ?_⟩
    have three : (Formy K H x false ∧ ∀ H', Same H H' → E (.ref D) none H') ∨ ((Formy K H x true ∧ ∃ n, TyX K H y (.type n) ∧ n ∈ kinds ∧ isSeq n = false) ∧ ∀ H', Same H H' → E (.ref D) none H') ∨
        (∃ a xs t b ys ns, x = .ref a ∧ SqT K H a xs ∧ Formy K H x true ∧ y = .ref b ∧ SqG t K H b ys ∧ ys.length ≤ 1000 ∧ Tys K H ys ns ∧
          (((ns.all isInt = false ∨ ys.length + 1 ≠ xs.length) ∧ ∀ H', Same H H' → E (.ref D) none H') ∨ (∃ f ws, xs = f.map V.int ∧ ys = ws.map V.int ∧ ns.all isInt = true ∧ f.length = ws.length + 1 ∧ f.length ≤ 1000 ∧ (∀ v ∈ ws, v.natAbs ≤ 1000000) ∧ ∀ H', Same H H' → Q (.int (worthF f ws)) H'))) := by
      rcases h with ⟨t, a, b, f, ws, rfl, rfl, ha, hb, hl, h9, hw, q⟩ | ⟨bad, q⟩
      · exact .inr (.inr ⟨a, f.map V.int, t, b, ws.map V.int, ws.map fun _ => "int", rfl, ha, ha.formy h9 (fun z => by rw [z] at hl; simp at hl), rfl, hb, by rw [List.length_map]; omega, ints_tys ws, .inr ⟨f, ws, rfl, rfl, ints_all ws, hl, h9, hw, q⟩⟩)
      · rcases bad with bad | ⟨a, xs, rfl, hT, hf, bad | ⟨t, b, ys, ns, rfl, hb, h9, ht, bad⟩⟩
        · exact .inl ⟨bad, q⟩
        · exact .inr (.inl ⟨⟨hf, bad⟩, q⟩)
        · exact .inr (.inr ⟨a, xs, t, b, ys, ns, rfl, hT, hf, rfl, hb, h9, ht, .inl ⟨bad, q⟩⟩)
    rcases three with ⟨hf, q⟩ | ⟨⟨hf, n, ty, hn, hs⟩, q⟩ | ⟨a, xs, t, b, ys, ns, rfl, hT, hf, rfl, hb, h9, ht, q⟩
    · exact ⟨_, rfl, x, false, rfl, hf, (fun z => nomatch z), fun _ H' s1 => q H' s1⟩
    · refine ⟨_, rfl, x, true, rfl, hf, (fun _ H1 s1 => ?_), fun z => nomatch z⟩
      refine ⟨_, rfl, y, n, rfl, TyX.same s1 ty, hn, fun H2 s2 => ⟨_, rfl, ?_⟩⟩
      rw [hs]
      exact iteT (q H2 (s1.trans s2))
    · refine ⟨_, rfl, _, true, rfl, hf, (fun _ H1 s1 => ?_), fun z => nomatch z⟩
      obtain ⟨n, ty, hn, hq⟩ := SqG.ty (Same.sq s1 hb)
      refine ⟨_, rfl, _, n, rfl, ty, hn, fun H2 s2 => ⟨_, rfl, ?_⟩⟩
      rw [hq]
      refine iteF ?_
      have s12 := s1.trans s2
      refine ⟨t, b, ys, rfl, Same.sq s12 hb, fun L hL => ?_⟩
      refine lc_it walkS (fun i H' => Same H2 H' ∧ H' L = some (.lst (((ns.map isInt).take i).map V.bl))) ⟨same_new hL, upd_same⟩ (fun i H' _ p => Same.sq (s12.trans p.1) hb) ?_ ?_
      · rintro i v H3 H4 hi ⟨s3, e3⟩ ⟨rfl, hx⟩
        have hi2 : i < ns.length := by rw [← ht.1]; exact hi
        have hni := List.getElem?_eq_getElem hi2
        have tv := ht.2 i v _ hx hni
        refine ⟨rfl, ?_⟩
        refine ⟨v, rfl, v, _, rfl, TyX.same (s12.trans s3) tv.1, tv.2, _, e3, ?_, fun c o e => ?_, ?_⟩
        · rw [List.length_map, List.length_take]
          exact Nat.lt_of_le_of_lt (Nat.le_trans (Nat.min_le_left _ _) (by omega)) (small1000 h9)
        · rw [upd_ne (ne_of_none e hL)]
          exact s3 c o e
        · rw [upd_same, List.take_add_one, List.getElem?_map, hni, List.map_append]
          rfl
      rintro H3 ⟨s3, e3⟩
      rw [show ys.length = (ns.map isInt).length by rw [ht.1, List.length_map], List.take_length] at e3
      have s13 := s12.trans s3
      refine ⟨L, ns.map isInt, rfl, SqL.of e3, _, rfl, ?_⟩
      rw [List.all_map]
      show if (!(ns.all isInt)) = true then _ else _
      rcases q with ⟨bad, q⟩ | ⟨f, ws, rfl, rfl, hall, hl, hl9, hw, q⟩
      · cases hal : ns.all isInt with
        | false => exact iteT (q H3 s13)
        | true =>
          refine iteF ?_
          refine ⟨_, rfl, b, ys, rfl, SqG.lt (Same.sq s13 hb), _, rfl, a, xs, rfl, .inr (Same.tup s13 hT), _, _, rfl, rfl, rfl, _, rfl, ?_⟩
          have ne : ys.length + 1 ≠ xs.length := by
            rcases bad with z | z
            · rw [hal] at z
              cases z
            · exact z
          refine iteNF (fun z => ?_) (q H3 s13)
          have := V.int.inj z
          omega
      · rw [hall]
        refine iteF ?_
        refine ⟨_, rfl, b, _, rfl, SqG.lt (Same.sq s13 hb), _, rfl, a, _, rfl, .inr (Same.tup s13 hT), _, _, rfl, rfl, rfl, _, rfl, ?_⟩
        rw [List.length_map, List.length_map, hl]
        refine iteNS (congrArg V.int (by omega)) ?_
        obtain ⟨x0, nsF, rfl⟩ : ∃ x0 nsF, f = x0 :: nsF := by
          cases f with
          | nil => simp at hl
          | cons x r => exact ⟨x, r, rfl⟩
        have hlen : nsF.length = ws.length := by simpa using hl
        have hA := Same.tup s13 hT
        refine ⟨_, rfl, a, _, 0, .int x0, rfl, rfl, hA, atI_nat (j := 0) rfl, ?_⟩
        refine ⟨_, rfl, 1, rfl, a, _, rfl, hA, fun z => absurd z not_whole, fun _ u hu => ?_⟩
        have s4 := s13.trans (same_new (o := .tup (cutV ((x0 :: nsF).map V.int) (some 1) none)) hu)
        have hU : SqG true K (upd H3 u (.tup (cutV ((x0 :: nsF).map V.int) (some 1) none))) u (nsF.map V.int) := .inl (.inl (upd_same.trans (by rw [cut_one]; rfl)))
        have hB := Same.sq s4 hb
        refine ⟨_, rfl, true, t, u, b, _, _, rfl, hU, hB, fun M hM => ?_⟩
        generalize upd H3 u (.tup (cutV ((x0 :: nsF).map V.int) (some 1) none)) = H4 at *
        refine lc_it (walkG (xs := nsF.map V.int) (ys := ws.map V.int) (n := ws.length) (by simp; omega)) (fun i H' => Same H4 H' ∧ H' M = some (.lst (((List.zipWith (fun a b => a * b) nsF ws).take i).map V.int))) ⟨same_new hM, upd_same⟩ (fun i H' _ p => ⟨Same.sq p.1 hU, Same.sq p.1 hB⟩) ?_ ?_
        · rintro i v H5 H6 hi ⟨s5, e5⟩ ⟨U, vx, vy, rfl, hU6, rfl, hvx, hvy⟩
          obtain ⟨n1, rfl, hn1⟩ := int_at hvx
          obtain ⟨n2, rfl, hn2⟩ := int_at hvy
          refine ⟨U, [.int n1, .int n2], rfl, .inl (.inl upd_same), rfl, .int n1, [.int n2], rfl, .int n2, [], rfl, rfl, rfl, ?_⟩
          have ne : M ≠ U := ne_of_none e5 hU6
          refine ⟨_, rfl, _, rfl, n1, n2, rfl, rfl, ?_, _, Eq.trans (upd_ne ne) e5, ?_, fun c o e => ?_, ?_⟩
          · have := hw n2 (List.mem_of_getElem? hn2)
            exact .inr ⟨by omega, by omega⟩
          · rw [List.length_map, List.length_take]
            exact Nat.lt_of_le_of_lt (Nat.min_le_left _ _) (small1000 (by omega))
          · rw [upd_ne (ne_of_none e hM), upd_ne (ne_of_none (s5 c o e) hU6)]
            exact s5 c o e
          · rw [upd_same, List.take_add_one, dotW_snoc nsF ws i n1 n2 hn1 hn2, List.map_append]
            rfl
        · rintro H5 ⟨s5, e5⟩
          rw [show ws.length = (List.zipWith (fun a b => a * b) nsF ws).length by rw [List.length_zipWith]; omega, List.take_length] at e5
          refine ⟨M, _, rfl, SqL.of e5, _, _, rfl, rfl, ?_⟩
          rw [dotW_sum]
          exact q H5 (s4.trans s5)
def spHolds (K : PySem.W.Frag) (D : Addr) : Sp := fun vs H Q E => ∃ x y : V, vs = [x, y] ∧
  ((∃ t a b f ws, x = .ref a ∧ y = .ref b ∧ FAt K H a f ∧ SqG t K H b (ws.map V.int) ∧ f.length = ws.length + 1 ∧ f.length ≤ 1000 ∧ (∀ v ∈ ws, v.natAbs ≤ 1000000) ∧ ∀ H', Same H H' → Q (.bl (decide (0 ≤ worthF f ws))) H') ∨
   (BadW K H x y ∧ ∀ H', Same H H' → E (.ref D) none H'))
theorem ok_holds {f fW D : Addr} {fd dW : FuncData} (F : Fun K "holds_at" "holds_at" sHolds f fd)
    (GW : FnOk P w K mg base (L2.CX P w) 4 fW dW ["form", "worths"] (spWorth K D)) (kW : PySem.W.keepIn K (.ref fW) = true) (bW : Binds K dW ["form", "worths"] []) (mW : mg "worth" = some (.ref fW)) :
    FnOk P w K mg base (L2.CX P w) 5 f fd ["form", "worths"] (spHolds K D) := by
  refine F.okX scHolds (fun vs H Q E h => ?_) (fun cdv Ar outer s H vs Q E hr h => ?_)
  · obtain ⟨x, y, rfl, _⟩ := h
    rfl
  · obtain ⟨x, y, rfl, h⟩ := h
    refine ⟨_, pss_one (ps_ret (pe_cmpR op_ge (pe_call GW hr (by rfl) mW kW bW .nil (passes_call (takes_of rfl rfl rfl rfl) fun _ _ _ _ h => h) (pa_cons (pv 0) (pa_cons (pv 1) pa_nil))) pe_int (nomark _))), ?_⟩
    refine ⟨x, rfl, y, rfl, x, y, rfl, ?_⟩
    rcases h with ⟨t, a, b, f, ws, h1, h2, h3, h4, h5, h6, h7, q⟩ | ⟨bad, q⟩
    · exact .inl ⟨t, a, b, f, ws, h1, h2, h3, h4, h5, h6, h7, fun H' s' => ⟨_, 0, rfl, rfl, q H' s'⟩⟩
    · exact .inr ⟨bad, q⟩
end
end PF

namespace PF
open PySem PySem.Spec PyProof.Rows L2 ZG HU
abbrev sAdded : Stmt := topS 22
abbrev sOften : Stmt := topS 23
theorem scAdded : FnScope ["one", "other", "number", "further"] ["one", "other"] (defScope sAdded) := ⟨rfl, rfl, rfl, by decide +kernel, rfl, by decide +kernel, by decide +kernel⟩
theorem scOften : FnScope ["form", "many", "number"] ["form", "many"] (defScope sOften) := ⟨rfl, rfl, rfl, by decide +kernel, rfl, by decide +kernel, by decide +kernel⟩
/-- the sum, number by number -/
def addF (f g : List Int) : List Int := List.zipWith (fun x y => x + y) f g
theorem addF_len {f g : List Int} (h : f.length = g.length) : (addF f g).length = f.length := by
  unfold addF
  rw [List.length_zipWith]
  omega
theorem addF_get {f g : List Int} {i : Nat} {x y : Int} (hx : f[i]? = some x) (hy : g[i]? = some y) : (addF f g)[i]? = some (x + y) := by
  unfold addF
  rw [List.getElem?_zipWith, hx, hy]
/-- not too great -/
def Bnd (f : List Int) : Prop := ∀ x ∈ f, x.natAbs < 2 ^ 250
def oftF (f : List Int) (m : Int) : List Int := f.map fun x => x * m
theorem oftF_len (f : List Int) (m : Int) : (oftF f m).length = f.length := List.length_map ..
theorem Formy.same {K : PySem.W.Frag} {H H' : Hp} {x : V} {b : Bool} (e : Same H H') (h : Formy K H x b) : Formy K H' x b := by
  rcases h with ⟨a, xs, ns, h1, h2, h3, h4, h5⟩ | ⟨n, h1, h2⟩
  · exact .inl ⟨a, xs, ns, h1, Same.tup e h2, h3, Tys.same e h4, h5⟩
  · exact .inr ⟨n, TyX.same e h1, h2⟩
section
variable {P : Program} {w : World} {K : PySem.W.Frag} {mg : Str → Option Value} {base : Heap}
def BadA (K : PySem.W.Frag) (H : Hp) (x y : V) : Prop := Formy K H x false ∨ (Formy K H x true ∧ Formy K H y false) ∨
  ∃ a b xs ys, x = .ref a ∧ y = .ref b ∧ SqT K H a xs ∧ SqT K H b ys ∧ Formy K H x true ∧ Formy K H y true ∧ xs.length ≠ ys.length
def spAdded (K : PySem.W.Frag) (D : Addr) : Sp := fun vs H Q E => ∃ x y : V, vs = [x, y] ∧
  ((∃ (a b : Addr) (f g : List Int), x = .ref a ∧ y = .ref b ∧ FAt K H a f ∧ FAt K H b g ∧ f ≠ [] ∧ f.length ≤ 1000 ∧ f.length = g.length ∧ ∀ H' p, Same H H' → H p = none → H' p = some (.tup ((addF f g).map V.int)) → Q (.ref p) H') ∨
   (BadA K H x y ∧ ∀ H', Same H H' → E (.ref D) none H'))
theorem ok_added {f f1 D : Addr} {fd fd1 : FuncData} (F : Fun K "added" "added" sAdded f fd) (G1 : FnOk P w K mg base (L2.CX P w) 3 f1 fd1 ["form"] (spLookX K D)) (k1 : PySem.W.keepIn K (.ref f1) = true) (b1 : Binds K fd1 ["form"] []) (m1 : mg "_look_form" = some (.ref f1)) (T : Txt mg) (A : EF K mg D) :
    FnOk P w K mg base (L2.CX P w) 4 f fd ["one", "other"] (spAdded K D) := by
  refine F.okX scAdded (fun vs H Q E h => ?_) (fun cdv Ar outer s H vs Q E hr h => ?_)
  · obtain ⟨x, y, rfl, _⟩ := h
    rfl
  · obtain ⟨x, y, rfl, h⟩ := h
    refine ⟨_, pss_cons (ps_expr (pe_call G1 hr (by rfl) m1 k1 b1 .nil (passes_call (takes_of rfl rfl rfl rfl) fun _ _ _ _ h => h) (pa_cons (pv 0) pa_nil)))
      (pss_cons (ps_expr (pe_call G1 hr (by rfl) m1 k1 b1 .nil (passes_call (takes_of rfl rfl rfl rfl) fun _ _ _ _ h => h) (pa_cons (pv 1) pa_nil)))
      (pss_cons (ps_if (pt_cmpR op_ne (pe_callB call_len_seq (by rfl) T.len PySem.boot_len (pa_cons (pv 0) pa_nil)) (pe_callB call_len_seq (by rfl) T.len PySem.boot_len (pa_cons (pv 1) pa_nil)) (nomark _))
        (pss_one (ps_raise rfl (takes_of rfl rfl rfl rfl) (pmk_own PySem.F.excBase_ValueError A.x A.g A.k (raises_own A.b A.t) rfl))) pss_nil)
      (pss_one (ps_ret (pe_callTy call_tuple_of (by rfl) T.tuple (by decide +kernel) (pa_cons (pe_lc (own := [("number", 2), ("further", 3)]) (g := gTup _ 2 (gCons (gName 2) (gCons (gName 3) gNil))) (tt := tYes) rfl scAdded.nd (pi_zipG (by rfl) T.zip (pa_cons (pv 0) (pa_cons (pv 1) pa_nil))) (blkOk_by (N := ["one", "other", "number", "further"]) (sc := defScope sAdded) (by decide +kernel))
        (fun _ _ _ _ _ => pg_tup rfl (pgs_cons (pg_name (i := 2) scAdded.nd rfl (Or.inl rfl)) (pgs_cons (pg_name (i := 3) scAdded.nd rfl (Or.inl rfl)) pgs_nil))) (fun _ _ _ _ _ => pts_nil)
        (fun _ _ _ _ _ => pe_op op_add (pv 2) (pv 3))) pa_nil)))))), ?_⟩
    rcases h with ⟨a, b, f, g, rfl, rfl, ha, hb, h0, hl, he, q⟩ | ⟨bad, q⟩
    · have g0 : g ≠ [] := fun z => h0 (List.eq_nil_of_length_eq_zero (by rw [he, z]; rfl))
      refine ⟨_, rfl, _, true, rfl, ha.formy hl h0, (fun _ H1 s1 => ?_), fun z => nomatch z⟩
      refine ⟨_, rfl, _, true, rfl, (Same.f s1 hb).formy (by omega) g0, (fun _ H2 s2 => ?_), fun z => nomatch z⟩
      have s3 := s1.trans s2
      have hA : SqG true K H2 a (f.map V.int) := Same.f s3 ha
      have hB : SqG true K H2 b (g.map V.int) := Same.f s3 hb
      refine ⟨_, rfl, a, _, rfl, .inr hA, _, rfl, b, _, rfl, .inr hB, rfl, _, rfl, ?_⟩
      rw [List.length_map, List.length_map, he]
      refine iteNS rfl ?_
      refine ⟨_, rfl, _, rfl, true, true, a, b, _, _, rfl, hA, hB, fun L hL => ?_⟩
      refine lc_it (walkG (xs := f.map V.int) (ys := g.map V.int) (n := f.length) (by simp; omega)) (fun i H' => Same H2 H' ∧ H' L = some (.lst (((addF f g).take i).map V.int))) ⟨same_new hL, upd_same⟩ (fun i H' _ p => ⟨Same.sq p.1 hA, Same.sq p.1 hB⟩) ?_ ?_
      · rintro i v H3 H4 hi ⟨s4, e4⟩ ⟨U, x, y, rfl, hU, rfl, hx, hy⟩
        obtain ⟨n, rfl, hn⟩ := int_at hx
        obtain ⟨m, rfl, hm⟩ := int_at hy
        refine ⟨U, [.int n, .int m], rfl, .inl (.inl upd_same), rfl, .int n, [.int m], rfl, .int m, [], rfl, rfl, rfl, ?_⟩
        have ne : L ≠ U := ne_of_none e4 hU
        refine ⟨_, rfl, _, rfl, n, m, rfl, rfl, _, Eq.trans (upd_ne ne) e4, ?_, fun c o e => ?_, ?_⟩
        · rw [List.length_map, List.length_take]
          exact Nat.lt_of_le_of_lt (Nat.min_le_left _ _) (small1000 (by omega))
        · rw [upd_ne (ne_of_none e hL), upd_ne (ne_of_none (s4 c o e) hU)]
          exact s4 c o e
        · rw [upd_same, List.take_add_one, addF_get hn hm, List.map_append]
          rfl
      · rintro H3 ⟨s4, e4⟩
        rw [← addF_len he, List.take_length] at e4
        refine ⟨L, _, rfl, .inl ⟨SqL.of e4, fun l hl => ?_⟩⟩
        exact q _ l (s3.trans (s4.trans (same_new hl))) ((s3.trans s4).free hl) upd_same
    · rcases bad with hx | ⟨hx, hy⟩ | ⟨a, b, xs, ys, rfl, rfl, ha, hb, hx, hy, ne⟩
      · exact ⟨_, rfl, x, false, rfl, hx, (fun z => nomatch z), fun _ H1 s1 => q H1 s1⟩
      · exact ⟨_, rfl, x, true, rfl, hx, (fun _ H1 s1 => ⟨_, rfl, y, false, rfl, Formy.same s1 hy, (fun z => nomatch z), fun _ H2 s2 => q H2 (s1.trans s2)⟩), fun z => nomatch z⟩
      · refine ⟨_, rfl, _, true, rfl, hx, (fun _ H1 s1 => ⟨_, rfl, _, true, rfl, Formy.same s1 hy, (fun _ H2 s2 => ?_), fun z => nomatch z⟩), fun z => nomatch z⟩
        have s3 := s1.trans s2
        refine ⟨_, rfl, a, _, rfl, .inr (Same.tup s3 ha), _, rfl, b, _, rfl, .inr (Same.tup s3 hb), rfl, _, rfl, ?_⟩
        refine iteNF (fun z => ?_) (q H2 s3)
        have := V.int.inj z
        omega
def BadO (K : PySem.W.Frag) (H : Hp) (x y : V) : Prop := Formy K H x false ∨ (Formy K H x true ∧ ∃ n, TyX K H y (.type n) ∧ n ∈ kinds ∧ isInt n = false)
def spOften (K : PySem.W.Frag) (D : Addr) : Sp := fun vs H Q E => ∃ x y : V, vs = [x, y] ∧
  ((∃ (a : Addr) (f : List Int) (m : Int), x = .ref a ∧ y = .int m ∧ FAt K H a f ∧ f ≠ [] ∧ f.length ≤ 1000 ∧ Bnd f ∧ m.natAbs < 2 ^ 250 ∧ ∀ H' p, Same H H' → H p = none → H' p = some (.tup ((oftF f m).map V.int)) → Q (.ref p) H') ∨
   (BadO K H x y ∧ ∀ H', Same H H' → E (.ref D) none H'))
theorem ok_often {f f1 f2 D : Addr} {fd fd1 fd2 : FuncData} (F : Fun K "often" "often" sOften f fd) (G1 : FnOk P w K mg base (L2.CX P w) 3 f1 fd1 ["form"] (spLookX K D)) (k1 : PySem.W.keepIn K (.ref f1) = true) (b1 : Binds K fd1 ["form"] []) (m1 : mg "_look_form" = some (.ref f1))
    (G2 : FnOk P w K mg base CX0 1 f2 fd2 ["thing"] (spWhole K)) (k2 : PySem.W.keepIn K (.ref f2) = true) (b2 : Binds K fd2 ["thing"] []) (m2 : mg "is_whole" = some (.ref f2)) (T : Txt mg) (A : EF K mg D) :
    FnOk P w K mg base (L2.CX P w) 4 f fd ["form", "many"] (spOften K D) := by
  refine F.okX scOften (fun vs H Q E h => ?_) (fun cdv Ar outer s H vs Q E hr h => ?_)
  · obtain ⟨x, y, rfl, _⟩ := h
    rfl
  · obtain ⟨x, y, rfl, h⟩ := h
    refine ⟨_, pss_cons (ps_expr (pe_call G1 hr (by rfl) m1 k1 b1 .nil (passes_call (takes_of rfl rfl rfl rfl) fun _ _ _ _ h => h) (pa_cons (pv 0) pa_nil)))
      (pss_cons (ps_if (pt_not (pt_val (pe_call G2 (hr.mono (by decide)) (by rfl) m2 k2 b2 .nil pass0 (pa_cons (pv 1) pa_nil)))) (pss_one (ps_raise rfl (takes_of rfl rfl rfl rfl) (pmk_own PySem.F.excBase_ValueError A.x A.g A.k (raises_own A.b A.t) rfl))) pss_nil)
      (pss_one (ps_ret (pe_callTy call_tuple_of (by rfl) T.tuple (by decide +kernel) (pa_cons (pe_lc (own := [("number", 2)]) (g := gName 2) (tt := tYes) rfl scOften.nd (pi_tup (pv 0)) (blkOk_by (N := ["form", "many", "number"]) (sc := defScope sOften) (by decide +kernel))
        (fun _ _ _ _ _ => pg_name (i := 2) scOften.nd rfl (Or.inl rfl)) (fun _ _ _ _ _ => pts_nil)
        (fun _ _ _ _ _ => pe_op op_mulW (pv 2) (pv 1))) pa_nil))))), ?_⟩
    rcases h with ⟨a, f, m, rfl, rfl, ha, h0, hl, hb, hm, q⟩ | ⟨bad, q⟩
    · refine ⟨_, rfl, _, true, rfl, ha.formy hl h0, (fun _ H1 s1 => ?_), fun z => nomatch z⟩
      refine ⟨_, rfl, _, "int", rfl, .base (.int m), by decide, true, rfl, iteF ?_⟩
      have hA : SqT K H1 a (f.map V.int) := Same.f s1 ha
      refine ⟨_, rfl, a, rfl, ⟨_, hA⟩, fun L hL => ?_⟩
      refine lc_it (walk_tup (xs := f.map V.int)) (fun i H' => Same H1 H' ∧ H' L = some (.lst (((oftF f m).take i).map V.int))) ⟨same_new hL, upd_same⟩ (fun i H' _ p => Same.tup p.1 hA) ?_ ?_
      · rintro i v H3 H4 hi ⟨s4, e4⟩ ⟨rfl, hx⟩
        obtain ⟨n, rfl, hn⟩ := int_at hx
        refine ⟨rfl, ?_⟩
        have em : (oftF f m)[i]? = some (n * m) := by
          unfold oftF
          rw [List.getElem?_map, hn]
          rfl
        refine ⟨_, rfl, _, rfl, n, m, rfl, rfl, wide_mul (hb n (List.mem_of_getElem? hn)) hm (by decide) (by decide) (by decide), _, e4, ?_, fun c o e => ?_, ?_⟩
        · rw [List.length_map, List.length_take, oftF_len]
          exact Nat.lt_of_le_of_lt (Nat.min_le_right _ _) (small1000 (by omega))
        · rw [upd_ne (ne_of_none e hL)]
          exact s4 c o e
        · rw [upd_same, List.take_add_one, em, List.map_append]
          rfl
      · rintro H3 ⟨s4, e4⟩
        rw [List.length_map, ← oftF_len f m, List.take_length] at e4
        refine ⟨L, _, rfl, .inl ⟨SqL.of e4, fun l hl => ?_⟩⟩
        exact q _ l (s1.trans (s4.trans (same_new hl))) ((s1.trans s4).free hl) upd_same
    · rcases bad with hx | ⟨hx, n, ty, hn, hi⟩
      · exact ⟨_, rfl, x, false, rfl, hx, (fun z => nomatch z), fun _ H1 s1 => q H1 s1⟩
      · refine ⟨_, rfl, x, true, rfl, hx, (fun _ H1 s1 => ⟨_, rfl, y, n, rfl, TyX.same s1 ty, hn, _, rfl, ?_⟩), fun z => nomatch z⟩
        rw [hi]
        exact iteT (q H1 s1)
end
end PF

namespace PF
open PySem PySem.Spec PyProof.Rows L2 ZG HU
abbrev sContrary : Stmt := topS 24
theorem scContrary : FnScope ["form", "told"] ["form"] (defScope sContrary) := ⟨rfl, rfl, rfl, by decide +kernel, rfl, by decide +kernel, by decide +kernel⟩
/-- what doesn't hold where the other one does -/
def conF : List Int → List Int
  | [] => []
  | x :: r => (x * -1 - 1) :: oftF r (-1)
theorem conF_len {f : List Int} : (conF f).length = f.length := by
  cases f with
  | nil => rfl
  | cons x r =>
    show (oftF r (-1)).length + 1 = r.length + 1
    rw [oftF_len]
theorem oft_eq (f : List Int) (m : Int) : oftF f m = f.map fun x => m * x := List.map_congr_left fun x _ => Int.mul_comm x m
theorem oft_zero (f : List Int) : oftF f 0 = List.replicate f.length 0 := by
  induction f with
  | nil => rfl
  | cons x r ih =>
    show x * 0 :: oftF r 0 = _
    rw [ih, Int.mul_zero]
    rfl
theorem con_eq (x : Int) (r : List Int) : conF (x :: r) = (-x - 1) :: r.map fun y => -y := by
  show (x * -1 - 1) :: oftF r (-1) = _
  rw [show x * -1 - 1 = -x - 1 by omega]
  exact congrArg _ (List.map_congr_left fun y _ => by omega)
theorem con_con : ∀ f : List Int, conF (conF f) = f
  | [] => rfl
  | x :: r => by
    show ((x * -1 - 1) * -1 - 1) :: oftF (oftF r (-1)) (-1) = x :: r
    rw [show (x * -1 - 1) * -1 - 1 = x by omega]
    refine congrArg _ ?_
    unfold oftF
    rw [List.map_map]
    refine (List.map_congr_left (g := id) fun y _ => ?_).trans (List.map_id r)
    show y * -1 * -1 = y
    omega
theorem dot_con : ∀ (r ws : List Int), dotW (oftF r (-1)) ws = -dotW r ws
  | [], ws => by cases ws <;> rfl
  | x :: r, [] => rfl
  | x :: r, v :: ws => by
    show x * -1 * v + dotW (oftF r (-1)) ws = -(x * v + dotW r ws)
    rw [dot_con r ws, Int.mul_assoc, Int.neg_one_mul, Int.mul_neg]
    omega
theorem worth_con {f ws : List Int} (h : f ≠ []) : worthF (conF f) ws = -worthF f ws - 1 := by
  cases f with
  | nil => exact absurd rfl h
  | cons x r =>
    show (x * -1 - 1) + dotW (oftF r (-1)) ws = -(x + dotW r ws) - 1
    rw [dot_con]
    omega
/-- no number above c in size -/
def Abs (c : Nat) (f : List Int) : Prop := ∀ x ∈ f, x.natAbs ≤ c
theorem Abs.mono {c d : Nat} {f : List Int} (h : Abs c f) (e : c ≤ d) : Abs d f := fun x hx => Nat.le_trans (h x hx) e
theorem Abs.bnd {c : Nat} {f : List Int} (h : Abs c f) (hc : c ≤ 1000000) : Bnd f := fun x hx => Nat.lt_of_le_of_lt (Nat.le_trans (h x hx) hc) (by decide)
theorem Sml.abs {m : Int} {c : Nat} {f : List Int} (h : ∀ x ∈ f, -m ≤ x ∧ x ≤ m) (e : m = c) : Abs c f := fun x hx => by
  have := h x hx
  omega
theorem abs_con {c : Nat} {f : List Int} (h : Abs c f) : Abs (c + 1) (conF f) := fun x hx => by
  cases f with
  | nil => exact (nomatch hx)
  | cons a r =>
    rcases List.mem_cons.mp (show x ∈ (a * -1 - 1) :: oftF r (-1) from hx) with e | e
    · subst e
      have := h a (List.mem_cons_self ..)
      omega
    · obtain ⟨y, hy, rfl⟩ := List.mem_map.mp e
      have := h y (List.mem_cons_of_mem _ hy)
      omega
theorem cat_of {K : PySem.W.Frag} {H : Hp} {a b : Addr} {xs ys : List V} {Q : VK} (ha : SqT K H a xs) (hb : SqT K H b ys) (ne : xs ≠ []) (hl : xs.length + ys.length ≤ sizeLine)
    (q : ∀ H' u, Same H H' → SqT K H' u (xs ++ ys) → (u = a ∨ H u = none) → Q (.ref u) H') : rCatA K (.ref a) (.ref b) H Q :=
  ⟨a, b, xs, ys, rfl, rfl, ha, hb, hl, fun z => absurd z ne, fun _ z => q H a (Same.refl H) (by subst z; rw [List.append_nil]; exact ha) (.inl rfl), fun _ _ p np => q _ p (same_new np) (.inl (.inl upd_same)) (.inr np)⟩
theorem rep_of {K : PySem.W.Frag} {H : Hp} {l : Addr} {k : Int} {xs : List V} {Q : VK} (h : SqT K H l xs) (ne : xs ≠ []) (h0 : -1000 ≤ k) (h1 : k ≤ 1000) (h2 : xs.length ≤ 1000)
    (q : ∀ H' u, Same H H' → SqT K H' u (List.replicate k.toNat xs).flatten → Q (.ref u) H') : rRepA K (.ref l) (.int k) H Q :=
  ⟨l, k, xs, rfl, rfl, h, ne, h0, h1, h2, fun e => q H l (Same.refl H) (by subst e; simpa using h), fun _ p np => q _ p (same_new np) (.inl (.inl upd_same))⟩
theorem flat_zero (n : Nat) : (List.replicate n [V.int 0]).flatten = (List.replicate n (0 : Int)).map V.int := by
  induction n with
  | zero => rfl
  | succ n ih =>
    rw [List.replicate_succ, List.flatten_cons, ih, List.replicate_succ, List.map_cons]
    rfl
section
variable {P : Program} {w : World} {K : PySem.W.Frag} {mg : Str → Option Value} {base : Heap}
def spContrary (K : PySem.W.Frag) (D : Addr) : Sp := fun vs H Q E => ∃ x : V, vs = [x] ∧
  ((∃ (a : Addr) (f : List Int), x = .ref a ∧ FAt K H a f ∧ f ≠ [] ∧ f.length ≤ 1000 ∧ Bnd f ∧ ∀ H' p, Same H H' → FAt K H' p (conF f) → Q (.ref p) H') ∨ (Formy K H x false ∧ ∀ H', Same H H' → E (.ref D) none H'))
theorem ok_contrary {f f1 D : Addr} {fd fd1 : FuncData} (F : Fun K "contrary" "contrary" sContrary f fd) (G1 : FnOk P w K mg base (L2.CX P w) 4 f1 fd1 ["form", "many"] (spOften K D)) (k1 : PySem.W.keepIn K (.ref f1) = true) (b1 : Binds K fd1 ["form", "many"] []) (m1 : mg "often" = some (.ref f1)) :
    FnOk P w K mg base (L2.CX P w) 5 f fd ["form"] (spContrary K D) := by
  refine F.okX scContrary (fun vs H Q E h => ?_) (fun cdv Ar outer s H vs Q E hr h => ?_)
  · obtain ⟨x, rfl, _⟩ := h
    rfl
  · obtain ⟨x, rfl, h⟩ := h
    refine ⟨_, pss_cons (ps_set (i := 1) scContrary.nd rfl (.inl rfl) (pe_call G1 hr (by rfl) m1 k1 b1 .nil (passes_call (takes_of rfl rfl rfl rfl) fun _ _ _ _ h => h) (pa_cons (pv 0) (pa_cons (pe_un un_neg pe_int) pa_nil))))
      (pss_one (ps_ret (pe_op op_catA (pe_tup (pa_cons (pe_op op_sub (pe_ix ix_tup (pv 1) pe_int (fun _ _ => rfl)) pe_int) pa_nil)) (pe_slice sl_tupA (pv 1) (po_some pe_int) po_none)))), ?_⟩
    rcases h with ⟨a, f, rfl, ha, h0, hl, hb, q⟩ | ⟨bad, q⟩
    · refine ⟨_, rfl, 1, rfl, _, _, rfl, .inl ⟨a, f, -1, rfl, rfl, ha, h0, hl, hb, by decide, fun H1 p s1 n1 e1 => ?_⟩⟩
      obtain ⟨x, r, rfl⟩ : ∃ x r, f = x :: r := by
        cases f with
        | nil => exact absurd rfl h0
        | cons x r => exact ⟨x, r, rfl⟩
      have hT : SqT K H1 p ((oftF (x :: r) (-1)).map V.int) := .inl (.inl e1)
      refine ⟨_, rfl, p, _, 0, .int (x * -1), rfl, rfl, hT, atI_nat (j := 0) rfl, _, 1, rfl, rfl, (by decide : 1 ≤ sizeLine), fun t ht => ?_⟩
      have s2 : Same H1 (upd H1 t (.tup [.int (x * -1 - 1)])) := same_new ht
      have hT2 := Same.tup s2 hT
      refine ⟨_, rfl, 1, rfl, p, _, rfl, hT2, fun z => absurd z not_whole, fun _ u hu => ?_⟩
      have s3 : Same (upd H1 t (.tup [.int (x * -1 - 1)])) _ := same_new (o := .tup (cutV ((oftF (x :: r) (-1)).map V.int) (some 1) none)) hu
      have et := s3 _ _ (upd_same (H := H1) (a := t) (o := .tup [.int (x * -1 - 1)]))
      refine cat_of (.inl (.inl et)) (.inl (.inl upd_same)) (by simp) ?_ fun H5 v s5 h5 _ => q H5 v (s1.trans (s2.trans (s3.trans s5))) ?_
      · rw [cut_one, ← List.map_drop, List.length_map, List.length_drop, oftF_len, List.length_singleton]
        exact Nat.le_of_lt (small1000 (by omega))
      · rw [cut_one] at h5
        exact h5
    · exact ⟨_, rfl, 1, rfl, _, _, rfl, .inr ⟨.inl bad, q⟩⟩
end
end PF

namespace PF
open PySem PySem.Spec PyProof.Rows L2 ZG
abbrev sPurse : Stmt := topS 27
abbrev sTake : Stmt := topS 28
abbrev sForm : Stmt := topS 29
theorem scPurse : FnScope ["script", "at", "cell", "far"] ["script", "at"] (defScope sPurse) := ⟨rfl, rfl, rfl, by decide +kernel, rfl, by decide +kernel, by decide +kernel⟩
theorem scTake : FnScope ["purse", "many", "digit", "turn", "one", "other"] ["purse", "many"] (defScope sTake) := ⟨rfl, rfl, rfl, by decide +kernel, rfl, by decide +kernel, by decide +kernel⟩
theorem scForm : FnScope ["purse", "many", "most", "numbers", "nth"] ["purse", "many", "most"] (defScope sForm) := ⟨rfl, rfl, rfl, by decide +kernel, rfl, by decide +kernel, by decide +kernel⟩
/-- a purse of which at most n draws were mixed -/
def PAt (H : Hp) (p : Addr) (n : Nat) : Prop := ∃ x y z : Int, H p = some (.lst [.int x, .int y, .int z]) ∧ 0 ≤ x ∧ 0 ≤ y ∧ y < 2147483647 ∧ 0 ≤ z ∧ z ≤ (n : Int)
/-- all but p is as it was -/
def Sb (p : Addr) (H H' : Hp) : Prop := ∀ b o, b ≠ p → H b = some o → H' b = some o
theorem Sb.refl (p : Addr) (H : Hp) : Sb p H H := fun _ _ _ h => h
theorem Sb.trans {p : Addr} {H H1 H2 : Hp} (a : Sb p H H1) (b : Sb p H1 H2) : Sb p H H2 := fun c o n h => b c o n (a c o n h)
theorem Sb.of {p : Addr} {H H' : Hp} (e : Same H H') : Sb p H H' := fun b o _ h => e b o h
theorem Sb.upd {p : Addr} {H : Hp} {o : HO} : Sb p H (upd H p o) := fun b o n h => by rw [upd_ne n]; exact h
theorem Sb.free {p q : Addr} {H H' : Hp} (e : Sb p H H') (n : q ≠ p) (h : H' q = none) : H q = none := by
  cases z : H q with
  | none => rfl
  | some o =>
    rw [e q o n z] at h
    cases h
theorem PAt.mono {H : Hp} {p : Addr} {n m : Nat} (h : PAt H p n) (e : n ≤ m) : PAt H p m := by
  obtain ⟨x, y, z, h1, h2, h3, h4, h5, h6⟩ := h
  exact ⟨x, y, z, h1, h2, h3, h4, h5, by omega⟩
theorem PAt.same {H H' : Hp} {p : Addr} {n : Nat} (h : PAt H p n) (e : Same H H') : PAt H' p n := by
  obtain ⟨x, y, z, h1, h2, h3, h4, h5, h6⟩ := h
  exact ⟨x, y, z, e _ _ h1, h2, h3, h4, h5, h6⟩
theorem PAt.ne {H : Hp} {p q : Addr} {n : Nat} (h : PAt H p n) (e : H q = none) : q ≠ p := by
  obtain ⟨x, y, z, h1, _⟩ := h
  exact fun w => by rw [w, h1] at e; cases e
theorem b01 (b : Bool) : 0 ≤ (if b = true then (1 : Int) else 0) ∧ (if b = true then (1 : Int) else 0) ≤ 1 := by
  cases b <;> decide
section
variable {P : Program} {w : World} {K : PySem.W.Frag} {mg : Str → Option Value} {base : Heap}
def spPurse (K : PySem.W.Frag) : Sp := fun vs H Q _ => ∃ (a : Addr) (ns : List Int) (k : Int), vs = [.ref a, .int k] ∧ SqL K H a (ns.map V.int) ∧ 0 ≤ k ∧ k ≤ 1000 ∧
  ∀ H' p, Same H H' → H p = none → PAt H' p 0 → Q (.ref p) H'
theorem ok_purse {f : Addr} {fd : FuncData} (F : Fun K "_law_purse" "_law_purse" sPurse f fd) (T : Txt mg) : FnOk P w K mg base CX0 1 f fd ["script", "at"] (spPurse K) := by
  refine F.ok scPurse (fun vs H Q E h => ?_) (fun cdv A outer s H vs Q E hr h => ?_)
  · obtain ⟨a, ns, k, rfl, _⟩ := h
    rfl
  · obtain ⟨a, ns, k, rfl, hS, k0, k1, q⟩ := h
    refine ⟨_, pss_cons (ps_set (i := 2) scPurse.nd rfl (.inl rfl) pe_int)
      (C8.pss_cut (ps_if (pt_cmpR op_lt (pv 1) (pe_callB call_len_seq (by rfl) T.len PySem.boot_len (pa_cons (pv 0) pa_nil)) (nomark _)) (pss_one (ps_set (i := 2) scPurse.nd rfl (.inl rfl) (pe_ix ix_list (pv 0) (pv 1) (fun _ _ => rfl)))) pss_nil)
      (pss_cons (ps_set (i := 3) scPurse.nd rfl (.inl rfl) (pe_callB call_abs (by rfl) T.abs (by decide +kernel) (pa_cons (pv 2) pa_nil)))
      (pss_one (ps_ret (pe_lst (pa_cons (pe_op op_mul (pv 3) (pe_callTy call_int1 (by rfl) T.int (by decide +kernel) (pa_cons (pe_cmpR op_ge (pv 3) (pe_op op_pow pe_int pe_int) (nomark _)) pa_nil)))
        (pa_cons (pe_op op_mod (pe_op op_add (pe_op op_add (pe_op op_mod (pv 2) pe_int) (pe_op op_mul pe_int (pv 1))) pe_int) pe_int) (pa_cons pe_int pa_nil)))))))), ?_⟩
    refine ⟨fun σ' H' => ∃ c : Int, σ' = [some (.ref a), some (.int k), some (.int c), none] ∧ H' = H, ?_, ?_⟩
    · refine ⟨_, rfl, _, rfl, a, _, rfl, .inl hS, k, _, rfl, rfl, _, rfl, ite2 (fun z => ?_) (fun z => ⟨0, rfl, rfl⟩)⟩
      have lt : k < ((ns.map V.int).length : Int) := of_decide_eq_true z
      rw [List.length_map] at lt
      have hk : k.toNat < ns.length := by omega
      have e : (ns.map V.int)[k.toNat]? = some (.int ns[k.toNat]) := by rw [List.getElem?_map, List.getElem?_eq_getElem hk]; rfl
      have e2 : atI (ns.map V.int) k = some (.int ns[k.toNat]) := by
        have := atI_nat e
        rwa [Int.toNat_of_nonneg k0] at this
      exact ⟨_, rfl, _, rfl, a, _, k, _, rfl, rfl, hS, e2, _, rfl, rfl⟩
    · rintro σ' H' ⟨c, rfl, rfl⟩
      refine ⟨_, rfl, c, rfl, ?_⟩
      have habs : 0 ≤ (if c < 0 then -c else c) := by split <;> omega
      refine ⟨_, rfl, _, rfl, 10, 18, rfl, rfl, ⟨by decide, by decide, by decide⟩, _, _, rfl, rfl, .inr ⟨_, rfl, ?_⟩⟩
      refine ⟨_, _, rfl, rfl, .inr ?_, ?_⟩
      · exact ⟨Int.lt_of_lt_of_le (by decide) (b01 _).1, Int.lt_of_le_of_lt (b01 _).2 (by decide)⟩
      refine ⟨_, rfl, c, 2147483647, rfl, rfl, (by show (0 : Int) < 2147483647; decide), _, rfl, 7919, k, rfl, rfl, .inl ⟨by decide, by decide⟩, _, _, rfl, rfl, _, 17, rfl, rfl, _, 2147483647, rfl, rfl, (by show (0 : Int) < 2147483647; decide), ?_⟩
      refine ⟨(by decide : 3 ≤ sizeLine), fun p hp => q _ p (same_new hp) hp ⟨_, _, 0, upd_same, ?_, Int.emod_nonneg _ (by decide), Int.emod_lt_of_pos _ (by decide), by decide, by decide⟩⟩
      exact Int.mul_nonneg habs (b01 _).1
def spTake : Sp := fun vs H Q _ => ∃ (p : Addr) (m : Int) (n : Nat), vs = [.ref p, .int m] ∧ PAt H p n ∧ n ≤ 10000 ∧ 1 ≤ m ∧ m ≤ 1000 ∧ ∀ H' v, Sb p H H' → PAt H' p (n + 1) → 0 ≤ v → v < m → Q (.int v) H'
theorem sq_bound {t : Int} (h0 : 0 ≤ t) (h1 : t ≤ 10001) : 0 ≤ 48271 * t * t ∧ 48271 * t * t ≤ 4900000000000 := by
  have h2 : 0 ≤ 48271 * t := by omega
  have h3 : 48271 * t ≤ 482758271 := by omega
  refine ⟨Int.mul_nonneg h2 h0, ?_⟩
  have h4 : 48271 * t * t ≤ 482758271 * 10001 := Int.mul_le_mul h3 h1 h0 (by decide)
  omega
theorem pr_bound {o t : Int} (h0 : 0 ≤ t) (h1 : t ≤ 10001) (o0 : 0 ≤ o) (o1 : o < 2147483647) : 0 ≤ o * (2 * t + 30011) ∧ o * (2 * t + 30011) ≤ 120000000000000 := by
  refine ⟨Int.mul_nonneg o0 (by omega), ?_⟩
  have h4 : o * (2 * t + 30011) ≤ 2147483647 * 50013 := Int.mul_le_mul (by omega) (by omega) (by omega) (by decide)
  omega
theorem ok_take {f : Addr} {fd : FuncData} (F : Fun K "_law_take" "_law_take" sTake f fd) : FnOk P w K mg base CX0 1 f fd ["purse", "many"] spTake := by
  refine F.ok scTake (fun vs H Q E h => ?_) (fun cdv A outer s H vs Q E hr h => ?_)
  · obtain ⟨p, m, n, rfl, _⟩ := h
    rfl
  · obtain ⟨p, m, n, rfl, ⟨x, y, z, hp, x0, y0, y1, z0, z1⟩, hn, m0, m1, q⟩ := h
    refine ⟨_, pss_cons (ps_if (pt_cmpR op_gt (pe_ix ix_list (pv 0) pe_int (fun _ _ => rfl)) pe_int (nomark _))
        (pss_cons (ps_set (i := 2) scTake.nd rfl (.inl rfl) (pe_op op_mod (pe_ix ix_list (pv 0) pe_int (fun _ _ => rfl)) (pv 1)))
        (pss_cons (ps_asg (pe_op op_fdiv (pe_ix ix_list (pv 0) pe_int (fun _ _ => rfl)) (pv 1)) (pg_sub (pv 0) pe_int set_list))
        (pss_one (ps_ret (pv 2))))) pss_nil)
      (pss_cons (ps_asg (pe_op op_add (pe_ix ix_list (pv 0) pe_int (fun _ _ => rfl)) pe_int) (pg_sub (pv 0) pe_int set_list))
      (pss_cons (ps_set (i := 3) scTake.nd rfl (.inl rfl) (pe_ix ix_list (pv 0) pe_int (fun _ _ => rfl)))
      (pss_cons (ps_set (i := 4) scTake.nd rfl (.inl rfl) (pe_op op_mod (pe_op op_pow (pe_op op_add (pe_op op_add (pe_ix ix_list (pv 0) pe_int (fun _ _ => rfl)) (pe_op op_mul (pe_op op_mul pe_int (pv 3)) (pv 3))) pe_int) pe_int) pe_int))
      (pss_cons (ps_set (i := 5) scTake.nd rfl (.inl rfl) (pe_op op_mod (pe_op op_pow (pe_op op_add (pe_op op_mul (pv 4) (pe_op op_add (pe_op op_mul pe_int (pv 3)) pe_int)) (pv 3)) pe_int) pe_int))
      (pss_one (ps_ret (pe_op op_mod (pe_op op_fdiv (pe_op op_add (pe_op op_mul (pv 4) pe_int) (pv 5)) pe_int) (pv 1)))))))), ?_⟩
    have hL : SqL K H p [.int x, .int y, .int z] := SqL.of hp
    refine ⟨_, rfl, p, _, 0, .int x, rfl, rfl, hL, atI_nat (j := 0) rfl, x, 0, rfl, rfl, _, rfl, ite2 (fun c => ?_) (fun c => ?_)⟩
    · refine ⟨_, rfl, p, _, 0, .int x, rfl, rfl, hL, atI_nat (j := 0) rfl, _, rfl, x, m, rfl, rfl, (by omega : (0 : Int) < m), ?_⟩
      refine ⟨_, rfl, p, _, 0, .int x, rfl, rfl, hL, atI_nat (j := 0) rfl, _, rfl, x, m, rfl, rfl, ⟨by omega, by omega⟩, ?_⟩
      refine ⟨_, rfl, p, _, 0, 0, rfl, rfl, hp, rfl, ?_⟩
      exact ⟨_, rfl, q _ (x % m) Sb.upd ⟨x / m, y, z, upd_same, Int.ediv_nonneg x0 (by omega), y0, y1, z0, by omega⟩ (Int.emod_nonneg _ (by omega)) (Int.emod_lt_of_pos _ (by omega))⟩
    · refine ⟨_, rfl, p, _, 2, .int z, rfl, rfl, hL, atI_nat (j := 2) rfl, z, 1, rfl, rfl, ?_⟩
      refine ⟨_, rfl, p, _, 2, 2, rfl, rfl, hp, rfl, ?_⟩
      have h1 : (upd H p (.lst (([.int x, .int y, .int z] : List V).set 2 (.int (z + 1))))) p = some (.lst [.int x, .int y, .int (z + 1)]) := upd_same
      have hL1 := SqL.of (K := K) h1
      refine ⟨_, rfl, p, _, 2, .int (z + 1), rfl, rfl, hL1, atI_nat (j := 2) rfl, ?_⟩
      obtain ⟨t, rfl⟩ : ∃ t, t = z + 1 := ⟨_, rfl⟩
      have b1 := sq_bound (t := z + 1) (by omega) (by omega)
      refine ⟨_, rfl, p, _, 1, .int y, rfl, rfl, hL1, atI_nat (j := 1) rfl, _, rfl, 48271, z + 1, rfl, rfl, .inl ⟨by decide, by decide⟩, _, rfl, _, z + 1, rfl, rfl, .inr ⟨by omega, by omega⟩, y, _, rfl, rfl, _, 1, rfl, rfl, _, 5, rfl, rfl, ⟨by decide, by decide, by omega⟩, _, 2147483647, rfl, rfl, (by show (0 : Int) < 2147483647; decide), ?_⟩
      have o0 : 0 ≤ (y + 48271 * (z + 1) * (z + 1) + 1) ^ (5 : Int).toNat % 2147483647 := Int.emod_nonneg _ (by decide)
      have o1 : (y + 48271 * (z + 1) * (z + 1) + 1) ^ (5 : Int).toNat % 2147483647 < 2147483647 := Int.emod_lt_of_pos _ (by decide)
      have b2 := pr_bound (t := z + 1) (by omega) (by omega) o0 o1
      refine ⟨_, rfl, _, rfl, 2, z + 1, rfl, rfl, .inl ⟨by decide, by decide⟩, _, 30011, rfl, rfl, _, _, rfl, rfl, .inl ⟨by omega, by omega⟩, _, rfl, _, z + 1, rfl, rfl, _, 3, rfl, rfl, ⟨by decide, by decide, by omega⟩, _, 998244353, rfl, rfl, (by show (0 : Int) < 998244353; decide), ?_⟩
      refine ⟨_, rfl, _, 998244353, rfl, rfl, .inl ⟨by omega, by omega⟩, _, rfl, _, _, rfl, rfl, _, 1009, rfl, rfl, ⟨by decide, by decide⟩, _, rfl, _, m, rfl, rfl, (by omega : (0 : Int) < m), ?_⟩
      exact q _ _ Sb.upd ⟨x, y, z + 1, h1, x0, y0, y1, by omega, by omega⟩ (Int.emod_nonneg _ (by omega)) (Int.emod_lt_of_pos _ (by omega))
end
end PF

namespace PF
open PySem PySem.Spec PyProof.Rows L2 ZG
section
variable {P : Program} {w : World} {K : PySem.W.Frag} {mg : Str → Option Value} {base : Heap}
/-- small numbers -/
def Sml (m : Int) (f : List Int) : Prop := ∀ x ∈ f, -m ≤ x ∧ x ≤ m
def spForm : Sp := fun vs H Q _ => ∃ (p : Addr) (c : Nat) (m : Int) (n : Nat), vs = [.ref p, .int c, .int m] ∧ PAt H p n ∧ n ≤ 9000 ∧ 1 ≤ c ∧ c ≤ 20 ∧ 1 ≤ m ∧ m ≤ 100 ∧
  ∀ H' q f, Sb p H H' → PAt H' p (n + 3 * c) → H q = none → H' q = some (.tup (f.map V.int)) → f.length = c → Sml m f → Q (.ref q) H'
theorem pick3 {m a b j : Int} (hm : 1 ≤ m) (a0 : 0 ≤ a) (a1 : a < 3) (b0 : 0 ≤ b) (b1 : b < 2 * m + 1) (j0 : 0 ≤ j) (j1 : j < 3) :
    ∃ v, atI [V.int 0, V.int (a - 1), V.int (b - m)] j = some (.int v) ∧ -m ≤ v ∧ v ≤ m := by
  rcases (show j = 0 ∨ j = 1 ∨ j = 2 by omega) with rfl | rfl | rfl
  · exact ⟨0, rfl, by omega, by omega⟩
  · exact ⟨a - 1, rfl, by omega, by omega⟩
  · exact ⟨b - m, rfl, by omega, by omega⟩
theorem ok_form {f fT : Addr} {fd dT : FuncData} (F : Fun K "_law_form" "_law_form" sForm f fd) (GT : FnOk P w K mg base CX0 1 fT dT ["purse", "many"] spTake) (kT : PySem.W.keepIn K (.ref fT) = true) (bT : Binds K dT ["purse", "many"] []) (mT : mg "_law_take" = some (.ref fT)) (T : Txt mg) :
    FnOk P w K mg base CX0 2 f fd ["purse", "many", "most"] spForm := by
  refine F.ok scForm (fun vs H Q E h => ?_) (fun cdv A outer s H vs Q E hr h => ?_)
  · obtain ⟨p, c, m, n, rfl, _⟩ := h
    rfl
  · obtain ⟨p, c, m, n, rfl, hp, hn, c0, c1, m0, m1, q⟩ := h
    refine ⟨_, pss_cons (ps_set (i := 3) scForm.nd rfl (.inl rfl) (pe_lst pa_nil))
      (pss_cons (ps_for PassesOwn.never rfl (pi_range1 rfl T.range (pa_cons (pv 1) pa_nil)) (pg_name (i := 4) scForm.nd rfl (.inl rfl)) (pss_one (ps_expr (pe_bm PySem.F.plainAttrs_list PySem.F.slot_list_append PySem.F.type_list_append mt_append (pv 3)
        (pa_cons (pe_ix ix_list (pe_lst (pa_cons pe_int (pa_cons (pe_op op_sub (pe_call GT hr (by rfl) mT kT bT .nil pass0 (pa_cons (pv 0) (pa_cons pe_int pa_nil))) pe_int)
          (pa_cons (pe_op op_sub (pe_call GT hr (by rfl) mT kT bT .nil pass0 (pa_cons (pv 0) (pa_cons (pe_op op_add (pe_op op_mul pe_int (pv 2)) pe_int) pa_nil))) (pv 2)) pa_nil))))
          (pe_call GT hr (by rfl) mT kT bT .nil pass0 (pa_cons (pv 0) (pa_cons pe_int pa_nil))) (fun _ _ => rfl)) pa_nil)))))
      (pss_one (ps_ret (pe_callTy call_tuple_of (by rfl) T.tuple (by decide +kernel) (pa_cons (pv 3) pa_nil))))), ?_⟩
    refine ⟨Nat.zero_le _, fun l hl => ?_⟩
    refine ⟨_, rfl, (c : Int), rfl, by omega, by omega, ?_⟩
    have npl : l ≠ p := hp.ne hl
    refine for_it (walk_range (lo := 0) (n := c)) (fun i σ H' => ∃ y4 f, σ = [some (.ref p), some (.int c), some (.int m), some (.ref l), y4] ∧ Sb p H H' ∧ PAt H' p (n + 3 * i) ∧ H' l = some (.lst (f.map V.int)) ∧ f.length = i ∧ Sml m f)
      ⟨none, [], rfl, Sb.of (same_new hl), hp.same (same_new hl), upd_same, rfl, fun x hx => (nomatch hx)⟩ (fun _ _ _ _ _ => trivial) ?_ ?_
    · rintro i x σ H1 H2 hi ⟨y4, f, rfl, sb, pp, el, lf, sf⟩ ⟨rfl, rfl⟩
      refine ⟨_, rfl, .inl ⟨rfl, _, SqL.of el⟩, _, rfl, p, 3, n + 3 * i, rfl, pp, by omega, by decide, by decide, fun H3 a sb3 pp3 a0 a1 => ⟨a, 1, rfl, rfl, ?_⟩⟩
      refine ⟨_, rfl, _, rfl, 2, m, rfl, rfl, .inl ⟨by decide, by decide⟩, _, 1, rfl, rfl, p, 2 * m + 1, _, rfl, pp3, by omega, by omega, by omega, fun H4 b sb4 pp4 b0 b1 => ⟨_, rfl, b, m, rfl, rfl, ?_⟩⟩
      refine ⟨(by decide : 3 ≤ sizeLine), fun L hL => ?_⟩
      have sL := same_new (o := .lst [.int 0, .int (a - 1), .int (b - m)]) hL
      refine ⟨_, rfl, p, 3, _, rfl, pp4.same sL, by omega, by decide, by decide, fun H5 j sb5 pp5 j0 j1 => ?_⟩
      obtain ⟨v, hv, v0, v1⟩ := pick3 m0 a0 a1 b0 b1 j0 j1
      have nLp : L ≠ p := pp4.ne hL
      have eL : H5 L = some (.lst [.int 0, .int (a - 1), .int (b - m)]) := sb5 _ _ nLp upd_same
      refine ⟨L, _, j, .int v, rfl, rfl, SqL.of eL, hv, ?_⟩
      have el5 : H5 l = some (.lst (f.map V.int)) := sb5 _ _ npl (sL _ _ (sb4 _ _ npl (sb3 _ _ npl el)))
      have s5 : Sb p H2 H5 := ((sb3.trans sb4).trans (Sb.of sL)).trans sb5
      refine ⟨l, _, _, rfl, rfl, el5, ?_, ?_⟩
      · rw [List.length_map]
        exact small1000 (by omega)
      · refine ⟨_, f ++ [v], rfl, ?_, ?_, ?_, by simp [lf], ?_⟩
        · intro b' o nb e
          have nl : b' ≠ l := ne_of_none e hl
          rw [upd_ne nl]
          exact (sb.trans s5) b' o nb e
        · obtain ⟨x', y', z', e1, r⟩ := pp5
          refine ⟨x', y', z', ?_, r.1, r.2.1, r.2.2.1, r.2.2.2.1, by omega⟩
          rw [upd_ne npl.symm]
          exact e1
        · rw [upd_same, List.map_append]
          rfl
        · intro x hx
          rcases List.mem_append.mp hx with hx | hx
          · exact sf x hx
          · rw [List.mem_singleton] at hx
            subst hx
            exact ⟨v0, v1⟩
    · rintro σ H1 ⟨y4, f, rfl, sb, pp, el, lf, sf⟩
      refine ⟨_, rfl, l, _, rfl, .inl ⟨SqL.of el, fun t ht => ?_⟩⟩
      exact q _ t f (sb.trans (Sb.of (same_new ht))) (pp.same (same_new ht)) (sb.free (pp.ne ht) ht) upd_same lf sf
end
end PF

namespace PF
open PySem PySem.Spec PyProof.Rows L2 ZG HU
abbrev sLWorth : Stmt := topS 30
abbrev sLIsForm : Stmt := topS 32
theorem scLWorth : FnScope ["form", "at", "number", "other"] ["form", "at"] (defScope sLWorth) := ⟨rfl, rfl, rfl, by decide +kernel, rfl, by decide +kernel, by decide +kernel⟩
theorem scLIsForm : FnScope ["thing", "one"] ["thing"] (defScope sLIsForm) := ⟨rfl, rfl, rfl, by decide +kernel, rfl, by decide +kernel, by decide +kernel⟩
section
variable {P : Program} {w : World} {K : PySem.W.Frag} {mg : Str → Option Value} {base : Heap}
def spLWorth (K : PySem.W.Frag) : Sp := fun vs H Q _ => ∃ (a b : Addr) (f ws : List Int), vs = [.ref a, .ref b] ∧ FAt K H a f ∧ SqL K H b (ws.map V.int) ∧ f.length = ws.length + 1 ∧ f.length ≤ 1000 ∧ (∀ v ∈ ws, v.natAbs ≤ 1000000) ∧ ∀ H', Same H H' → Q (.int (worthF f ws)) H'
theorem ok_lworth {f : Addr} {fd : FuncData} (F : Fun K "_law_worth" "_law_worth" sLWorth f fd) (T : Txt mg) : FnOk P w K mg base CX0 1 f fd ["form", "at"] (spLWorth K) := by
  refine F.ok scLWorth (fun vs H Q E h => ?_) (fun cdv Ar outer s H vs Q E hr h => ?_)
  · obtain ⟨a, b, f, ws, rfl, _⟩ := h
    rfl
  · obtain ⟨a, b, f, ws, rfl, hA, hb, hl, h9, hw, q⟩ := h
    refine ⟨_, pss_one (ps_ret (pe_op op_add (pe_ix ix_tup (pv 0) pe_int (fun _ _ => rfl)) (pe_callB (cr_sum rfl) (by rfl) T.sum (by decide +kernel) (pa_cons (pe_lc (own := [("number", 2), ("other", 3)]) (g := gTup _ 2 (gCons (gName 2) (gCons (gName 3) gNil))) (tt := tYes) rfl scLWorth.nd
        (pi_zipG (by rfl) T.zip (pa_cons (pe_slice sl_tupA (pv 0) (po_some pe_int) po_none) (pa_cons (pv 1) pa_nil))) (blkOk_by (N := ["form", "at", "number", "other"]) (sc := defScope sLWorth) (by decide +kernel))
        (fun _ _ _ _ _ => pg_tup rfl (pgs_cons (pg_name (i := 2) scLWorth.nd rfl (Or.inl rfl)) (pgs_cons (pg_name (i := 3) scLWorth.nd rfl (Or.inl rfl)) pgs_nil))) (fun _ _ _ _ _ => pts_nil) (fun _ _ _ _ _ => pe_op op_mul (pv 2) (pv 3))) pa_nil)))), ?_⟩
    obtain ⟨x0, nsF, rfl⟩ : ∃ x0 nsF, f = x0 :: nsF := by
      cases f with
      | nil => simp at hl
      | cons x r => exact ⟨x, r, rfl⟩
    have hlen : nsF.length = ws.length := by simpa using hl
    refine ⟨_, rfl, a, _, 0, .int x0, rfl, rfl, hA, atI_nat (j := 0) rfl, ?_⟩
    refine ⟨_, rfl, 1, rfl, a, _, rfl, hA, fun z => absurd z not_whole, fun _ u hu => ?_⟩
    have s4 := same_new (o := .tup (cutV ((x0 :: nsF).map V.int) (some 1) none)) hu
    have hU : SqG true K (upd H u (.tup (cutV ((x0 :: nsF).map V.int) (some 1) none))) u (nsF.map V.int) := .inl (.inl (upd_same.trans (by rw [cut_one]; rfl)))
    have hB : SqG false K _ b (ws.map V.int) := Same.seq s4 hb
    refine ⟨_, rfl, true, false, u, b, _, _, rfl, hU, hB, fun M hM => ?_⟩
    generalize upd H u (.tup (cutV ((x0 :: nsF).map V.int) (some 1) none)) = H4 at *
    refine lc_it (walkG (xs := nsF.map V.int) (ys := ws.map V.int) (n := ws.length) (by simp; omega)) (fun i H' => Same H4 H' ∧ H' M = some (.lst (((List.zipWith (fun a b => a * b) nsF ws).take i).map V.int))) ⟨same_new hM, upd_same⟩ (fun i H' _ p => ⟨Same.sq p.1 hU, Same.sq p.1 hB⟩) ?_ ?_
    · rintro i v H5 H6 hi ⟨s5, e5⟩ ⟨U, vx, vy, rfl, hU6, rfl, hvx, hvy⟩
      obtain ⟨n1, rfl, hn1⟩ := int_at hvx
      obtain ⟨n2, rfl, hn2⟩ := int_at hvy
      refine ⟨U, [.int n1, .int n2], rfl, .inl (.inl upd_same), rfl, .int n1, [.int n2], rfl, .int n2, [], rfl, rfl, rfl, ?_⟩
      have ne : M ≠ U := ne_of_none e5 hU6
      refine ⟨_, rfl, _, rfl, n1, n2, rfl, rfl, ?_, _, Eq.trans (upd_ne ne) e5, ?_, fun c o e => ?_, ?_⟩
      · have := hw n2 (List.mem_of_getElem? hn2)
        exact .inr ⟨by omega, by omega⟩
      · rw [List.length_map, List.length_take]
        exact Nat.lt_of_le_of_lt (Nat.min_le_left _ _) (small1000 (by omega))
      · rw [upd_ne (ne_of_none e hM), upd_ne (ne_of_none (s5 c o e) hU6)]
        exact s5 c o e
      · rw [upd_same, List.take_add_one, dotW_snoc nsF ws i n1 n2 hn1 hn2, List.map_append]
        rfl
    · rintro H5 ⟨s5, e5⟩
      rw [show ws.length = (List.zipWith (fun a b => a * b) nsF ws).length by rw [List.length_zipWith]; omega, List.take_length] at e5
      refine ⟨M, _, rfl, SqL.of e5, _, _, rfl, rfl, ?_⟩
      rw [dotW_sum]
      exact q H5 (s4.trans s5)
theorem dp_ints {K : PySem.W.Frag} {H : Hp} : ∀ f : List Int, DpAll K H (f.map V.int) (f.map PyData.int)
  | [] => .nil
  | x :: r => .cons (.int x) (dp_ints r)
theorem dp_f {K : PySem.W.Frag} {H : Hp} {a : Addr} {f : List Int} (h : FAt K H a f) : Dp K H (.ref a) (.tuple (f.map PyData.int)) := .tup h (dp_ints f)
theorem lay_ints : ∀ f : List Int, PyData.canLayAll0 (f.map PyData.int) = true ∧ PyData.depthAll (f.map PyData.int) = 0
  | [] => ⟨rfl, rfl⟩
  | x :: r => by
    obtain ⟨h1, h2⟩ := lay_ints r
    refine ⟨?_, ?_⟩
    · show (true && PyData.canLayAll0 (r.map PyData.int)) = true
      rw [h1]
      rfl
    · show max 0 (PyData.depthAll (r.map PyData.int)) = 0
      rw [h2]
      rfl
theorem lay_f (f : List Int) : PyData.canLay0 (.tuple (f.map PyData.int)) = true := (lay_ints f).1
theorem sh_f (f : List Int) : SeqAt.shaped (.tuple (f.map PyData.int)) = true := by
  unfold SeqAt.shaped
  rw [lay_f f, Bool.true_and]
  refine decide_eq_true ?_
  show PyData.depthAll (f.map PyData.int) + 1 ≤ 64
  rw [(lay_ints f).2]
  decide
def spLIsForm (K : PySem.W.Frag) : Sp := fun vs H Q _ => ∃ (a : Addr) (f : List Int), vs = [.ref a] ∧ FAt K H a f ∧ f ≠ [] ∧ f.length ≤ 1000 ∧ ∀ H', Same H H' → Q (.bl true) H'
theorem ok_lisform {f : Addr} {fd : FuncData} (F : Fun K "_law_is_form" "_law_is_form" sLIsForm f fd) (T : Txt mg) : FnOk P w K mg base CX0 1 f fd ["thing"] (spLIsForm K) := by
  refine F.ok scLIsForm (fun vs H Q E h => ?_) (fun cdv Ar outer s H vs Q E hr h => ?_)
  · obtain ⟨a, f, rfl, _⟩ := h
    rfl
  · obtain ⟨a, f, rfl, hA, h0, h9, q⟩ := h
    refine ⟨_, pss_cons (ps_if (PW.pt (pw_or (pt_not (pt_val (pe_callB call_isi (by rfl) T.isi (by decide +kernel) (pa_cons (pv 0) (pa_cons (pe_bltn (v := .ty "tuple") (by rfl) T.tuple (by decide +kernel) rfl) pa_nil)))))
        (pw_or1 (pt_cmpR (op_eqD hr.units) (pv 0) (pe_tup pa_nil) (nomark _))))) (pss_one ps_never) pss_nil)
      (pss_one (ps_ret (pe_cmpR (op_eqD hr.units) (pe_lc (own := [("one", 1)]) (g := gName 1) rfl scLIsForm.nd (pi_tup (pv 0)) (blkOk_by (N := ["thing", "one"]) (sc := defScope sLIsForm) (by decide +kernel))
        (fun _ _ _ _ _ => pg_name (i := 1) scLIsForm.nd rfl (Or.inl rfl))
        (fun _ _ _ _ _ => pts_one (PW.pt (pw_or (pt_not (pt_val (pe_callB (id := "isinstance") (r := rIsi K) call_isi (by rfl) T.isi (by decide +kernel) (pa_cons (pv 1) (pa_cons (pe_bltn (v := .ty "int") (by rfl) T.int (by decide +kernel) rfl) pa_nil)))))
          (pw_or1 (pt_val (pe_callB (id := "isinstance") (r := rIsi K) call_isi (by rfl) T.isi (by decide +kernel) (pa_cons (pv 1) (pa_cons (pe_bltn (v := .ty "bool") (by rfl) T.bool (by decide +kernel) rfl) pa_nil))))))))
        (fun _ _ _ _ _ => pv 1)) (pe_lst pa_nil) (nomark _)))), ?_⟩
    obtain ⟨x0, r, rfl⟩ : ∃ x0 r, f = x0 :: r := by
      cases f with
      | nil => exact absurd rfl h0
      | cons x r => exact ⟨x, r, rfl⟩
    refine ⟨_, rfl, _, _, _, _, true, rfl, .ty "tuple", ty_tup hA, kit_tup (by decide), true, rfl, iteF ?_⟩
    refine ⟨_, rfl, Nat.zero_le _, fun t nt => ?_⟩
    have s1 := same_new (o := .tup []) nt
    refine ⟨_, .tuple [], dp_f (Same.f s1 hA), .tup (.inl (.inl upd_same)) .nil, sh_f _, by decide, false, rfl, iteF ?_⟩
    generalize upd H t (.tup []) = H1 at *
    have hA1 := Same.f s1 hA
    refine ⟨_, rfl, a, rfl, ⟨_, hA1⟩, fun D hD => ?_⟩
    refine lc_it (walk_tup (xs := (x0 :: r).map V.int)) (fun i H' => Same H1 H' ∧ H' D = some (.lst [])) ⟨same_new hD, upd_same⟩ (fun i H' _ p => Same.tup p.1 hA1) ?_ ?_
    · rintro i v H5 H6 hi ⟨s5, e5⟩ ⟨rfl, hv⟩
      obtain ⟨n1, rfl, hn1⟩ := int_at hv
      refine ⟨rfl, ?_⟩
      exact ⟨_, rfl, _, _, _, _, true, rfl, .ty "int", .base (.int n1), kit_ty (by decide +kernel), true, rfl, iteF ⟨_, rfl, _, _, _, _, false, rfl, .ty "bool", .base (.int n1), kit_ty (by decide +kernel), false, rfl, s5, e5⟩⟩
    · rintro H5 ⟨s5, e5⟩
      refine ⟨Nat.zero_le _, fun L nL => ?_⟩
      have s6 := same_new (o := .lst []) nL
      exact ⟨.list [], .list [], .lst (SqL.of (s6 _ _ e5)) .nil, .lst (SqL.of upd_same) .nil, by decide, by decide, q _ (s1.trans (s5.trans s6))⟩
end
end PF

namespace PF
open PySem PySem.Spec PyProof.Rows L2 ZG HU LamX
abbrev sLaw : Stmt := topS 35
abbrev NL : List Str := ["script", "cell", "purse", "length", "one", "other", "times", "contra", "at", "odd", "left", "right", "thing", "number", "told", "nth"]
theorem scLaw : FnScope NL ["script"] (defScope sLaw) := ⟨rfl, rfl, rfl, by decide +kernel, rfl, by decide +kernel, by decide +kernel⟩
/-! what stays -/
theorem ExtN.seq {K : PySem.W.Frag} {H H' : Hp} {a : Addr} {xs : List V} (e : ExtN H H') (h : SqL K H a xs) : SqL K H' a xs := by
  rcases h with (h | ⟨o, h⟩) | h
  · exact .inl (.inl (e _ _ h (fun ps z => by cases z)))
  · exact .inl (.inr ⟨o, e _ _ h (fun ps z => by cases z)⟩)
  · exact .inr h
theorem ExtN.tup {K : PySem.W.Frag} {H H' : Hp} {a : Addr} {xs : List V} (e : ExtN H H') (h : SqT K H a xs) : SqT K H' a xs := by
  rcases h with (h | ⟨o, h⟩) | h
  · exact .inl (.inl (e _ _ h (fun ps z => by cases z)))
  · exact .inl (.inr ⟨o, e _ _ h (fun ps z => by cases z)⟩)
  · exact .inr h
theorem ExtN.sq {K : PySem.W.Frag} {H H' : Hp} {t : Bool} {a : Addr} {xs : List V} (e : ExtN H H') (h : SqG t K H a xs) : SqG t K H' a xs := by
  cases t
  · exact ExtN.seq e h
  · exact ExtN.tup e h
theorem ExtN.same {H H' : Hp} (e : Same H H') : ExtN H H' := fun b o h _ => e b o h
theorem TyX.ext {K : PySem.W.Frag} {H H' : Hp} (e : ExtN H H') {x : V} {t : Value} (h : TyX K H x t) : TyX K H' x t := by
  cases h with
  | base b =>
    refine .base ?_
    cases b with
    | non => exact .non
    | bl y => exact .bl y
    | int i => exact .int i
    | str y => exact .str y
    | flt y => exact .flt y
    | lst q => exact .lst (e _ _ q (fun ps z => by cases z))
    | frz q => exact .frz (e _ _ q (fun ps z => by cases z))
    | tup q => exact .tup (e _ _ q (fun ps z => by cases z))
    | dK q => exact .dK (e _ _ q (fun ps z => by cases z))
    | dT q => exact .dT (e _ _ q (fun ps z => by cases z))
    | ins q a b c d f => exact .ins (e _ _ q (fun ps z => by cases z)) a b c d f
  | byt b => exact .byt b
  | set q => exact .set (e _ _ q (fun ps z => by cases z))
  | kList q c => exact .kList q c
  | kTuple q c => exact .kTuple q c
  | kDict q c => exact .kDict q c
  | fTuple q => exact .fTuple (e _ _ q (fun ps z => by cases z))
  | fDict q => exact .fDict (e _ _ q (fun ps z => by cases z))
theorem Tys.ext {K : PySem.W.Frag} {H H' : Hp} {xs : List V} {ns : List String} (e : ExtN H H') (h : Tys K H xs ns) : Tys K H' xs ns := ⟨h.1, fun i x n a b => ⟨TyX.ext e (h.2 i x n a b).1, (h.2 i x n a b).2⟩⟩
theorem Formy.ext {K : PySem.W.Frag} {H H' : Hp} {x : V} {b : Bool} (e : ExtN H H') (h : Formy K H x b) : Formy K H' x b := by
  rcases h with ⟨a, xs, ns, h1, h2, h3, h4, h5⟩ | ⟨n, h1, h2⟩
  · exact .inl ⟨a, xs, ns, h1, ExtN.tup e h2, h3, Tys.ext e h4, h5⟩
  · exact .inr ⟨n, TyX.ext e h1, h2⟩
theorem BadW.ext {K : PySem.W.Frag} {H H' : Hp} {x y : V} (e : ExtN H H') (h : BadW K H x y) : BadW K H' x y := by
  rcases h with h | ⟨a, xs, h1, h2, h3, ⟨n, h4, h5⟩ | ⟨t, b, ys, ns, h4, h5, h6, h7, h8⟩⟩
  · exact .inl (Formy.ext e h)
  · exact .inr ⟨a, xs, h1, ExtN.tup e h2, Formy.ext e h3, .inl ⟨n, TyX.ext e h4, h5⟩⟩
  · exact .inr ⟨a, xs, h1, ExtN.tup e h2, Formy.ext e h3, .inr ⟨t, b, ys, ns, h4, ExtN.sq e h5, h6, Tys.ext e h7, h8⟩⟩
theorem Tabs.sb {T : List (Addr × Str)} {H H' : Hp} {p : Addr} {n : Nat} (t : Tabs T H) (pp : PAt H p n) (e : Sb p H H') : Tabs T H' := fun q hq => by
  obtain ⟨x, y, z, hp, _⟩ := pp
  obtain ⟨ps, h1, h2, h3⟩ := t q hq
  refine ⟨ps, e _ _ (fun w => by rw [w, hp] at h1; cases h1) h1, h2, fun pos cv hc => ?_⟩
  obtain ⟨c, e1, e2⟩ := h3 pos cv hc
  exact ⟨c, e1, e _ _ (fun w => by rw [w, hp] at e2; cases e2) e2⟩
theorem Tabs.same {T : List (Addr × Str)} {H H' : Hp} (t : Tabs T H) (e : Same H H') : Tabs T H' := LamX.Tabs.ext t e
theorem FAt.sb {K : PySem.W.Frag} {H H' : Hp} {p a : Addr} {n : Nat} {f : List Int} (h : FAt K H a f) (pp : PAt H p n) (e : Sb p H H') : FAt K H' a f := by
  obtain ⟨x, y, z, h1, _⟩ := pp
  rcases h with (h | ⟨o, h⟩) | h
  · exact .inl (.inl (e _ _ (fun w => by rw [w, h1] at h; cases h) h))
  · exact .inl (.inr ⟨o, e _ _ (fun w => by rw [w, h1] at h; cases h) h⟩)
  · exact .inr h
/-- the script's list -/
theorem script_sb {K : PySem.W.Frag} {H H' : Hp} {p a : Addr} {n : Nat} {xs : List V} (h : SqL K H a xs) (ne : a ≠ p) (e : Sb p H H') : SqL K H' a xs := by
  rcases h with (h | ⟨o, h⟩) | h
  · exact .inl (.inl (e _ _ ne h))
  · exact .inl (.inr ⟨o, e _ _ ne h⟩)
  · exact .inr h
theorem cat_any {K : PySem.W.Frag} {H : Hp} {a b : Addr} {xs ys : List V} {Q : VK} (ha : SqT K H a xs) (hb : SqT K H b ys) (hl : xs.length + ys.length ≤ sizeLine)
    (q : ∀ H' u, Same H H' → SqT K H' u (xs ++ ys) → Q (.ref u) H') : rCatA K (.ref a) (.ref b) H Q :=
  ⟨a, b, xs, ys, rfl, rfl, ha, hb, hl, fun z => q H b (Same.refl H) (by subst z; exact hb), fun _ z => q H a (Same.refl H) (by subst z; rw [List.append_nil]; exact ha), fun _ _ p np => q _ p (same_new np) (.inl (.inl upd_same))⟩
theorem cut_to (xs : List V) (n : Nat) : cutV xs none (some (n : Int)) = xs.take n := by
  unfold cutV
  rw [show HT.sIx xs.length xs.length (some (n : Int)) = min n xs.length from HT.sIx_nat _ _ n, HT.sIx_none, List.drop_zero, Nat.sub_zero]
  by_cases h : n ≤ xs.length
  · rw [Nat.min_eq_left h]
  · rw [Nat.min_eq_right (by omega), List.take_length, List.take_of_length_le (by omega)]
theorem cut_from (xs : List V) (n : Nat) : cutV xs (some (n : Int)) none = xs.drop n := by
  unfold cutV
  rw [show HT.sIx xs.length 0 (some (n : Int)) = min n xs.length from HT.sIx_nat _ _ n, HT.sIx_none]
  by_cases h : n ≤ xs.length
  · rw [Nat.min_eq_left h]
    exact List.take_of_length_le (by rw [List.length_drop]; omega)
  · rw [Nat.min_eq_right (by omega), List.drop_length, List.drop_eq_nil_of_le (by omega), List.take_nil]
theorem not_to {n m : Nat} (h : n < m) : ¬ (HT.sIx m 0 none = 0 ∧ HT.sIx m m (some (n : Int)) = m) := fun z => by
  have e := z.2
  rw [show HT.sIx m m (some (n : Int)) = min n m from HT.sIx_nat _ _ n] at e
  omega
theorem not_from {n m : Nat} (h : 0 < n) (h2 : 0 < m) : ¬ (HT.sIx m 0 (some (n : Int)) = 0 ∧ HT.sIx m m none = m) := fun z => by
  have e := z.1
  rw [show HT.sIx m 0 (some (n : Int)) = min n m from HT.sIx_nat _ _ n] at e
  omega
theorem Same.of_sb {H H' : Hp} {p : Addr} (e : Sb p H H') (h : H p = none) : Same H H' := fun b o hb => e b o (ne_of_none hb h) hb
/-- a thing that is no whole number -/
def Odd (K : PySem.W.Frag) (H : Hp) (v : V) : Prop := ∃ n, TyX K H v (.type n) ∧ n ∈ kinds ∧ isInt n = false
theorem Odd.same {K : PySem.W.Frag} {H H' : Hp} {v : V} (e : Same H H') (h : Odd K H v) : Odd K H' v := by
  obtain ⟨n, h1, h2⟩ := h
  exact ⟨n, TyX.same e h1, h2⟩
/-- ints with one other thing among them -/
theorem odd_tys {K : PySem.W.Frag} {H : Hp} {v : V} (h : Odd K H v) (f g : List Int) : ∃ ns, Tys K H (f.map V.int ++ [v] ++ g.map V.int) ns ∧ ns.all isInt = false := by
  obtain ⟨n, h1, h2, h3⟩ := h
  refine ⟨(f.map fun _ => "int") ++ [n] ++ (g.map fun _ => "int"), ⟨by simp, fun i x m hx hm => ?_⟩, ?_⟩
  · have tf := ints_tys (K := K) (H := H) f
    have tg := ints_tys (K := K) (H := H) g
    by_cases c1 : i < f.length
    · rw [List.getElem?_append_left (by simp; omega), List.getElem?_append_left (by simpa using c1)] at hx hm
      exact tf.2 i x m hx hm
    · by_cases c2 : i = f.length
      · subst c2
        rw [List.getElem?_append_left (by simp), List.getElem?_append_right (by simp)] at hx hm
        simp at hx hm
        subst hx hm
        exact ⟨h1, h2⟩
      · rw [List.getElem?_append_right (by simp; omega)] at hx hm
        simp only [List.length_append, List.length_map, List.length_singleton] at hx hm
        exact tg.2 _ x m hx hm
  · rw [List.all_append, List.all_append]
    simp [h3]
theorem how_ne {K : PySem.W.Frag} {H : Hp} {l l2 : Addr} {Q : VK} (h : H l = some (.lst [.str "!NoForm"])) (h2 : H l2 = some (.lst [.str "!NoForm"])) (q : Q (.bl false) H) : rNeD K (.ref l) (.ref l2) H Q := by
  refine ⟨.list [.str "!NoForm"], .list [.str "!NoForm"], .lst (SqL.of h) (.cons (.str _) .nil), .lst (SqL.of h2) (.cons (.str _) .nil), by decide +kernel, by decide +kernel, ?_⟩
  rw [SeqAt.eqv_refl _ (show PyData.canLay0 (.list [.str "!NoForm"]) = true by decide +kernel)]
  exact q
theorem cut_ints (ws : List Int) (lo hi : Option Int) : ∃ g : List Int, cutV (ws.map V.int) lo hi = g.map V.int ∧ g.length ≤ ws.length := by
  unfold cutV
  refine ⟨(ws.drop (HT.sIx (ws.map V.int).length 0 lo)).take (HT.sIx (ws.map V.int).length (ws.map V.int).length hi - HT.sIx (ws.map V.int).length 0 lo), by rw [List.map_take, List.map_drop], ?_⟩
  rw [List.length_take, List.length_drop]
  omega
theorem sh_list (ws : List Int) : SeqAt.shaped (.list (ws.map PyData.int)) = true := by
  unfold SeqAt.shaped
  rw [show PyData.canLay0 (.list (ws.map PyData.int)) = true from (lay_ints ws).1, Bool.true_and]
  refine decide_eq_true ?_
  show PyData.depthAll (ws.map PyData.int) + 1 ≤ 64
  rw [(lay_ints ws).2]
  decide
/-- a list of one thing, taken once or not -/
def ob (b : Bool) (v : V) : List V := if b = true then [v] else []
theorem rep_rd {H : Hp} {l : Addr} {v : V} {b : Bool} {Q : VK} (hl : H l = some (.lst [v])) (q : ∀ H' p, Same H H' → H' p = some (.lst (ob b v)) → Q (.ref p) H') : rRep (.ref l) (.int (if b = true then 1 else 0)) H Q := by
  refine ⟨l, _, [v], rfl, rfl, hl, by cases b <;> decide, by cases b <;> decide, by
    cases b
    · exact (by decide : 0 ≤ sizeLine)
    · exact (by decide : 1 ≤ sizeLine), fun p np => ?_⟩
  cases b
  · exact q _ p (same_new np) upd_same
  · exact q _ p (same_new np) upd_same
/-- ints and one odd thing, wherever it stands -/
theorem odd_once {K : PySem.W.Frag} {H : Hp} {v : V} (h : Odd K H v) (g : List Int) (b : Bool) : ∃ ns, Tys K H (g.map V.int ++ ob (!b) v ++ ob b v) ns ∧ ns.all isInt = false := by
  have e : g.map V.int ++ ob (!b) v ++ ob b v = g.map V.int ++ [v] ++ ([] : List Int).map V.int := by
    cases b <;> simp [ob]
  rw [e]
  exact odd_tys h g []
theorem ob_len (b : Bool) (v : V) : (ob b v).length ≤ 1 := by
  cases b <;> simp [ob]
section
variable {P : Program} {w : World} {K : PySem.W.Frag} {mg : Str → Option Value} {base : Heap}
def spLaw (K : PySem.W.Frag) (tb : Addr) : Sp := fun vs H Q _ => ∃ (a : Addr) (ns : List Int), vs = [.ref a] ∧ SqL K H a (ns.map V.int) ∧ ns.length ≤ 63 ∧ H tb = some (.tbl #[]) ∧ ∀ H', Q (.bl true) H'
/-- what stands between the turns of the law's own loop -/
def Lp (K : PySem.W.Frag) (T : List (Addr × Str)) (a : Addr) (ns : List Int) (σ : L2.St) (H : Hp) : Prop := ∃ y1 y2 y3 y4 y5 y6 y7 y8 y9 y10 y11 y12 y13 y14 y15, σ = [some (.ref a), y1, y2, y3, y4, y5, y6, y7, y8, y9, y10, y11, y12, y13, y14, y15] ∧ SqL K H a (ns.map V.int) ∧ Tabs T H
theorem ne_same {H : Hp} {a b : Addr} {f g : List Int} {Q : VK} (ha : FAt K H a f) (hb : FAt K H b g) (e : f = g) (q : Q (.bl false) H) : rNeD K (.ref a) (.ref b) H Q := by
  subst e
  refine ⟨_, _, dp_f ha, dp_f hb, sh_f f, sh_f f, ?_⟩
  rw [SeqAt.eqv_refl _ (lay_f f)]
  exact q
theorem SqT.sb {H H' : Hp} {p a : Addr} {n : Nat} {xs : List V} (h : SqT K H a xs) (pp : PAt H p n) (e : Sb p H H') : SqT K H' a xs := by
  obtain ⟨x, y, z, h1, _⟩ := pp
  rcases h with (h | ⟨o, h⟩) | h
  · exact .inl (.inl (e _ _ (fun w => by rw [w, h1] at h; cases h) h))
  · exact .inl (.inr ⟨o, e _ _ (fun w => by rw [w, h1] at h; cases h) h⟩)
  · exact .inr h
theorem not_neg {m : Nat} (h : 0 < m) : ¬ (HT.sIx m 0 none = 0 ∧ HT.sIx m m (some (-1)) = m) := fun z => by
  have e : (if (-1 : Int) < 0 then ((-1 : Int) + (m : Int)).toNat else min (-1 : Int).toNat m) = m := z.2
  rw [if_pos (by decide)] at e
  omega
theorem BadA.ext {H H' : Hp} {x y : V} (e : ExtN H H') (h : BadA K H x y) : BadA K H' x y := by
  rcases h with h | ⟨h, g⟩ | ⟨a, b, xs, ys, h1, h2, h3, h4, h5, h6, h7⟩
  · exact .inl (Formy.ext e h)
  · exact .inr (.inl ⟨Formy.ext e h, Formy.ext e g⟩)
  · exact .inr (.inr ⟨a, b, xs, ys, h1, h2, ExtN.tup e h3, ExtN.tup e h4, Formy.ext e h5, Formy.ext e h6, h7⟩)
theorem BadO.ext {H H' : Hp} {x y : V} (e : ExtN H H') (h : BadO K H x y) : BadO K H' x y := by
  rcases h with h | ⟨h, n, ty, g⟩
  · exact .inl (Formy.ext e h)
  · exact .inr ⟨Formy.ext e h, n, TyX.ext e ty, g⟩
theorem odd_end {H : Hp} {v : V} (h : Odd K H v) (g : List Int) : ∃ ns, Tys K H (g.map V.int ++ [v]) ns ∧ ns.all isInt = false := by
  have := odd_tys h g []
  rwa [List.map_nil, List.append_nil] at this
theorem bad_end {H : Hp} {u : Addr} {v : V} {g : List Int} (h : SqT K H u (g.map V.int ++ [v])) (o : Odd K H v) (hl : g.length ≤ 900) : Formy K H (.ref u) false := by
  obtain ⟨nn, tys, al⟩ := odd_end o g
  exact .inl ⟨u, _, nn, rfl, h, by simp; omega, tys, by rw [al, Bool.and_false]⟩
end
end PF

namespace PF
open PySem PySem.Spec PyProof.Rows L2 ZG HU LamX
abbrev lawQ : Str := ("law.<locals>." : Str) ++ "<lambda>"
section
variable {P : Program} {w : World} {K : PySem.W.Frag} {mg : Str → Option Value} {base : Heap}
theorem ok_law {fa cc tb fP fT fF fA fO fC fHO fHW fK D cW : Addr} {dP dT dF dA dO dC dHO dK : FuncData} {c : _root_.Fin 13 → Addr} {kV doc pm ct oc kV2 doc2 pm2 cd2 ct2 oc2 : Value} {an od an2 od2 : Option Addr} {osl osl2 : Array (Option Value)}
    (lk : K.lookup fa = some ⟨oc, od, .func (PySem.W.fnOf "law" "law" (defArgs sLaw) (defBody sLaw) (defScope sLaw) .none kV doc pm an (.ref cc) ct), osl⟩) (hcdk : PySem.W.codeIn K (.ref cc) "law" = true)
    (GP : FnOk P w K mg base CX0 1 fP dP ["script", "at"] (spPurse K)) (kP : PySem.W.keepIn K (.ref fP) = true) (bP : L2.Binds K dP ["script", "at"] []) (mP : mg "_law_purse" = some (.ref fP))
    (GT : FnOk P w K mg base CX0 1 fT dT ["purse", "many"] spTake) (kT : PySem.W.keepIn K (.ref fT) = true) (bT : L2.Binds K dT ["purse", "many"] []) (mT : mg "_law_take" = some (.ref fT))
    (GF : FnOk P w K mg base CX0 2 fF dF ["purse", "many", "most"] spForm) (kF : PySem.W.keepIn K (.ref fF) = true) (bF : L2.Binds K dF ["purse", "many", "most"] []) (mF : mg "_law_form" = some (.ref fF))
    (GA : FnOk P w K mg base (L2.CX P w) 4 fA dA ["one", "other"] (spAdded K D)) (kA : PySem.W.keepIn K (.ref fA) = true) (bA : L2.Binds K dA ["one", "other"] []) (mA : mg "added" = some (.ref fA))
    (GO : FnOk P w K mg base (L2.CX P w) 4 fO dO ["form", "many"] (spOften K D)) (kO : PySem.W.keepIn K (.ref fO) = true) (bO : L2.Binds K dO ["form", "many"] []) (mO : mg "often" = some (.ref fO))
    (GC : FnOk P w K mg base (L2.CX P w) 5 fC dC ["form"] (spContrary K D)) (kC : PySem.W.keepIn K (.ref fC) = true) (bC : L2.Binds K dC ["form"] []) (mC : mg "contrary" = some (.ref fC))
    (GHO : FnOk P w K mg base (L2.CX P w) 5 fHO dHO ["form", "worths"] (spHolds K D)) (kHO : PySem.W.keepIn K (.ref fHO) = true) (bHO : L2.Binds K dHO ["form", "worths"] []) (mHO : mg "holds_at" = some (.ref fHO))
    (GK : FnU P w K mg base 1 fK dK ["e"] (spKind D "!NoForm")) (kK : PySem.W.keepIn K (.ref fK) = true) (bK : L2.Binds K dK ["e"] []) (mK : mg "_law_kind" = some (.ref fK))
    (lHW : K.lookup fHW = some ⟨oc2, od2, .func (PySem.W.fnOf "_law_how" "_law_how" (defArgs sHow) (defBody sHow) (defScope sHow) .none kV2 doc2 pm2 an2 cd2 ct2), osl2⟩) (cHW : PySem.W.codeIn K cd2 "_law_how" = true) (kHW : PySem.W.keepIn K (.ref fHW) = true)
    (bHW : L2.Binds K (PySem.W.fnOf "_law_how" "_law_how" (defArgs sHow) (defBody sHow) (defScope sHow) .none kV2 doc2 pm2 an2 cd2 ct2) ["deed"] []) (mHW : mg "_law_how" = some (.ref fHW))
    (A : KF K mg D cW c) (eA : PySem.W.exmAny K (.ref D) [.ref (c 0), .ref (c 1), .ref (c 2), .ref (c 7), .ref (c 8)] = some false) (T : Txt mg) (TB : TabB base mg cc tb) :
    FnOk P w K mg base CX0 8 fa (PySem.W.fnOf "law" "law" (defArgs sLaw) (defBody sLaw) (defScope sLaw) .none kV doc pm an (.ref cc) ct) ["script"] (spLaw K tb) := by
  refine fn_of lk hcdk scLaw (fun vs H Q E h => ?_) (fun Ar outer s H vs Q E hr h => ?_)
  · obtain ⟨a, ns, rfl, _⟩ := h
    rfl
  · obtain ⟨a, ns, rfl, hS, hlen, htb, q⟩ := h
    have hr1 : Room 1 _ := hr.mono (by decide)
    have hr2 : Room 2 _ := hr.mono (by decide)
    have hr4 : Room 4 _ := hr.mono (by decide)
    have hr5 : Room 5 _ := hr.mono (by decide)
    have hcd : (cxOf CX0 P w K mg base NL "law" (defScope sLaw) fa (.ref cc) Ar outer s H E).env.code = .ref cc := rfl
    refine ⟨_, PSs.nox (pss_cons (ps_for PassesOwn.never rfl (pi_range1 (by rfl) T.range (pa_cons (pe_callB (call_max2 rfl) (by rfl) T.max (by decide +kernel) (pa_cons pe_int (pa_cons (pe_callB (call_min2 rfl) (by rfl) T.min (by decide +kernel) (pa_cons (pe_callB call_len_seq (by rfl) T.len PySem.boot_len (pa_cons (pv 0) pa_nil)) (pa_cons pe_int pa_nil))) pa_nil))) pa_nil)) (pg_name (i := 1) scLaw.nd rfl (.inl rfl))
        (pss_cons (ps_set (i := 2) scLaw.nd rfl (.inr rfl) (pe_call GP hr1 (by rfl) mP kP bP .nil pass0 (pa_cons (pv 0) (pa_cons (pv 1) pa_nil))))
        (pss_cons (ps_set (i := 3) scLaw.nd rfl (.inl rfl) (pe_op op_add pe_int (pe_call GT hr1 (by rfl) mT kT bT .nil pass0 (pa_cons (pv 2) (pa_cons pe_int pa_nil)))))
        (pss_cons (ps_asg (pe_tup (pa_cons (pe_call GF hr2 (by rfl) mF kF bF .nil pass0 (pa_cons (pv 2) (pa_cons (pv 3) (pa_cons pe_int pa_nil)))) (pa_cons (pe_call GF hr2 (by rfl) mF kF bF .nil pass0 (pa_cons (pv 2) (pa_cons (pv 3) (pa_cons pe_int pa_nil)))) pa_nil))) (pg_tup rfl (pgs_cons (pg_name (i := 4) scLaw.nd rfl (.inr rfl)) (pgs_cons (pg_name (i := 5) scLaw.nd rfl (.inl rfl)) pgs_nil))))
        (pss_cons (ps_set (i := 6) scLaw.nd rfl (.inr rfl) (pe_ix ix_list (pe_lst (pa_cons (pe_op op_sub (pe_call GT hr1 (by rfl) mT kT bT .nil pass0 (pa_cons (pv 2) (pa_cons pe_int pa_nil))) pe_int) (pa_cons (pe_op op_add (pe_op op_pow pe_int pe_int) (pe_call GT hr1 (by rfl) mT kT bT .nil pass0 (pa_cons (pv 2) (pa_cons pe_int pa_nil)))) (pa_cons (pe_un un_neg (pe_op op_pow pe_int pe_int)) pa_nil)))) (pe_op op_mod (pe_call GT hr1 (by rfl) mT kT bT .nil pass0 (pa_cons (pv 2) (pa_cons pe_int pa_nil))) pe_int) (fun _ _ => rfl)))
        (pss_cons (ps_if (pt_cmpR (op_neD hr.units) (pe_call GA hr4 (by rfl) mA kA bA .nil passL (pa_cons (pv 4) (pa_cons (pv 5) pa_nil))) (pe_callTy call_tuple_of (by rfl) T.tuple (by decide +kernel) (pa_cons (pe_lc (own := [("left", 10), ("right", 11)]) (g := gTup _ 2 (gCons (gName 10) (gCons (gName 11) gNil))) (tt := tYes) rfl scLaw.nd  (pi_zipG (by rfl) T.zip (pa_cons (pv 4) (pa_cons (pv 5) pa_nil))) (blkOk_by (N := NL) (sc := defScope sLaw) (by decide +kernel)) (fun _ _ _ _ _ => pg_tup rfl (pgs_cons (pg_name (i := 10) scLaw.nd rfl (Or.inl rfl)) (pgs_cons (pg_name (i := 11) scLaw.nd rfl (Or.inl rfl)) pgs_nil))) (fun _ _ _ _ _ => pts_nil) (fun _ _ _ _ _ => (pe_op op_add (pv 10) (pv 11)))) pa_nil)) (nomark _)) (pss_one ps_never) pss_nil)
        (pss_cons (ps_if (PW.pt (pw_or (pt_cmpR (op_neD hr.units) (pe_call GO hr4 (by rfl) mO kO bO .nil passL (pa_cons (pv 4) (pa_cons (pv 6) pa_nil))) (pe_callTy call_tuple_of (by rfl) T.tuple (by decide +kernel) (pa_cons (pe_lc (own := [("number", 13)]) (g := gName 13) (tt := tYes) rfl scLaw.nd  (pi_tup (pv 4)) (blkOk_by (N := NL) (sc := defScope sLaw) (by decide +kernel)) (fun _ _ _ _ _ => pg_name (i := 13) scLaw.nd rfl (Or.inl rfl)) (fun _ _ _ _ _ => pts_nil) (fun _ _ _ _ _ => (pe_op op_mulW (pv 6) (pv 13)))) pa_nil)) (nomark _)) (pw_or1 (pt_cmpR (op_neD hr.units) (pe_call GO hr4 (by rfl) mO kO bO .nil passL (pa_cons (pv 4) (pa_cons pe_int pa_nil))) (pe_op op_repA (pe_tup (pa_cons pe_int pa_nil)) (pv 3)) (nomark _))))) (pss_one ps_never) pss_nil)
        (pss_cons (ps_set (i := 7) scLaw.nd rfl (.inl rfl) (pe_call GC hr5 (by rfl) mC kC bC .nil passL (pa_cons (pv 4) pa_nil)))
        (pss_cons (ps_if (PW.pt (pw_or (pt_cmpR (op_neD hr.units) (pv 7) (pe_op op_catA (pe_tup (pa_cons (pe_op op_sub (pe_un un_neg (pe_ix ix_tup (pv 4) pe_int (fun _ _ => rfl))) pe_int) pa_nil)) (pe_callTy call_tuple_of (by rfl) T.tuple (by decide +kernel) (pa_cons (pe_lc (own := [("number", 13)]) (g := gName 13) (tt := tYes) rfl scLaw.nd  (pi_tup (pe_slice sl_tupA (pv 4) (po_some pe_int) po_none)) (blkOk_by (N := NL) (sc := defScope sLaw) (by decide +kernel)) (fun _ _ _ _ _ => pg_name (i := 13) scLaw.nd rfl (Or.inl rfl)) (fun _ _ _ _ _ => pts_nil) (fun _ _ _ _ _ => (pe_un un_neg (pv 13)))) pa_nil))) (nomark _)) (pw_or1 (pt_cmpR (op_neD hr.units) (pe_call GC hr5 (by rfl) mC kC bC .nil passL (pa_cons (pv 7) pa_nil)) (pv 4) (nomark _))))) (pss_one ps_never) pss_nil)
        (pss_cons (ps_if (pt_not (pt_val (pe_callB (cr_all rfl) (by rfl) T.all (by decide +kernel) (pa_cons (pe_lc (own := [("told", 14)]) (g := gName 14) (tt := tYes) rfl scLaw.nd  (pi_tup (pe_tup (pa_cons (pe_call GA hr4 (by rfl) mA kA bA .nil passL (pa_cons (pv 4) (pa_cons (pv 5) pa_nil))) (pa_cons (pe_call GO hr4 (by rfl) mO kO bO .nil passL (pa_cons (pv 4) (pa_cons (pv 6) pa_nil))) (pa_cons (pv 7) pa_nil))))) (blkOk_by (N := NL) (sc := defScope sLaw) (by decide +kernel)) (fun _ _ _ _ _ => pg_name (i := 14) scLaw.nd rfl (Or.inl rfl)) (fun _ _ _ _ _ => pts_nil) (fun _ _ _ _ _ => (pe_callB (id := "isinstance") (r := rIsi K) call_isi (by rfl) T.isi (by decide +kernel) (pa_cons (pv 14) (pa_cons (pe_bltn (v := .ty "tuple") (by rfl) T.tuple (by decide +kernel) rfl) pa_nil))))) pa_nil)))) (pss_one ps_never) pss_nil)
        (pss_cons (ps_setLc (i := 8) (own := [("nth", 15)]) (g := gName 15) (tt := tYes) rfl scLaw.nd rfl rfl (sw_true rfl rfl rfl (by decide +kernel)) (pi_range1 (by rfl) T.range (pa_cons (pe_op op_sub (pv 3) pe_int) pa_nil)) (blkOk_by (N := NL) (sc := defScope sLaw) (by decide +kernel)) (fun _ _ _ _ _ => pg_name (i := 15) scLaw.nd rfl (Or.inl rfl)) (fun _ _ _ _ _ => pts_nil) (fun _ _ _ _ _ => (pe_op op_sub (pe_call GT hr1 (by rfl) mT kT bT .nil pass0 (pa_cons (pv 2) (pa_cons pe_int pa_nil))) pe_int)))
        (pss_cons (ps_if (pt_cmpR op_eq (pe_call GHO hr5 (by rfl) mHO kHO bHO .nil passL (pa_cons (pv 4) (pa_cons (pv 8) pa_nil))) (pe_call GHO hr5 (by rfl) mHO kHO bHO .nil passL (pa_cons (pv 7) (pa_cons (pv 8) pa_nil))) (nomark _)) (pss_one ps_never) pss_nil)
        (pss_cons (ps_set (i := 9) scLaw.nd rfl (.inr rfl) (pe_ix ix_list (pe_lst (pa_cons pe_non (pa_cons pe_int (pa_cons (pe_callTy call_list_of (by rfl) T.list (by decide +kernel) (pa_cons (pv 4) pa_nil)) (pa_cons (pe_tup pa_nil) (pa_cons (pe_op op_catA (pe_slice sl_tupA (pv 4) po_none (po_some (pe_un un_neg pe_int))) (pe_tup (pa_cons pe_bl pa_nil))) (pa_cons (pe_op op_catA (pe_slice sl_tupA (pv 4) po_none (po_some (pe_un un_neg pe_int))) (pe_tup (pa_cons pe_str pa_nil))) (pa_cons pe_str pa_nil)))))))) (pe_call GT hr1 (by rfl) mT kT bT .nil pass0 (pa_cons (pv 2) (pa_cons pe_int pa_nil))) (fun _ _ => rfl)))
        (pss_cons (ps_for PassesOwn.never rfl (pi_tup (pe_tup (pa_cons (pe_tup (pa_cons (pv 9) (pa_cons (pv 4) pa_nil))) (pa_cons (pe_tup (pa_cons (pv 4) (pa_cons (pv 9) pa_nil))) (pa_cons (pe_tup (pa_cons (pv 4) (pa_cons (pe_op op_catA (pv 4) (pe_tup (pa_cons pe_int pa_nil))) pa_nil))) (pa_cons (pe_tup (pa_cons (pe_op op_catA (pv 4) (pe_tup (pa_cons pe_int pa_nil))) (pa_cons (pv 4) pa_nil))) (pa_cons (pe_tup (pa_cons (pv 9) (pa_cons (pv 9) pa_nil))) pa_nil))))))) (pg_tup rfl (pgs_cons (pg_name (i := 10) scLaw.nd rfl (.inr rfl)) (pgs_cons (pg_name (i := 11) scLaw.nd rfl (.inr rfl)) pgs_nil))) (pss_one (ps_if (pt_cmpR (op_neD hr.units) (pe_lamcall (T := [(tb, lawQ)]) (TT := THow D) (k := 5) (t := fun E => tCall (spAdded K D) [] E (tCons (tVar 10) (tCons (tVar 11) tNil))) (by rfl) mHW kHW lHW cHW bHW scHow rfl (Or.inl rfl) (how_gives (k := 3) A T GK kK bK mK eA hr) TB hcd (List.mem_singleton.mpr rfl) (fun p hp _ => by rw [List.mem_singleton.mp hp]; rfl) hr (lamS_by (sc := defScope sLaw) (by decide +kernel)) rfl (fun _ _ _ _ _ => rfl) (fun _ _ _ _ _ _ _ hr' => pe_call GA (hr'.mono (by decide)) (by rfl) mA kA bA .nil (passes_call (takes_of rfl rfl rfl rfl) fun _ _ _ _ h => h) (pa_cons (pv 10) (pa_cons (pv 11) pa_nil)))) (pe_lst (pa_cons pe_str pa_nil)) (nomark _)) (pss_one ps_never) pss_nil)))
        (pss_cons (ps_if (pt_cmpR (op_neD hr.units) (pe_lamcall (T := [(tb, lawQ)]) (TT := THow D) (k := 5) (t := fun E => tCall (spOften K D) [] E (tCons (tVar 9) (tCons (tC (.int 1)) tNil))) (by rfl) mHW kHW lHW cHW bHW scHow rfl (Or.inl rfl) (how_gives (k := 3) A T GK kK bK mK eA hr) TB hcd (List.mem_singleton.mpr rfl) (fun p hp _ => by rw [List.mem_singleton.mp hp]; rfl) hr (lamS_by (sc := defScope sLaw) (by decide +kernel)) rfl (fun _ _ _ _ _ => rfl) (fun _ _ _ _ _ _ _ hr' => pe_call GO (hr'.mono (by decide)) (by rfl) mO kO bO .nil (passes_call (takes_of rfl rfl rfl rfl) fun _ _ _ _ h => h) (pa_cons (pv 9) (pa_cons pe_int pa_nil)))) (pe_lst (pa_cons pe_str pa_nil)) (nomark _)) (pss_one ps_never) pss_nil)
        (pss_cons (ps_if (pt_cmpR (op_neD hr.units) (pe_lamcall (T := [(tb, lawQ)]) (TT := THow D) (k := 5) (t := fun E => tCall (spContrary K D) [] E (tCons (tVar 9) tNil)) (by rfl) mHW kHW lHW cHW bHW scHow rfl (Or.inl rfl) (how_gives (k := 3) A T GK kK bK mK eA hr) TB hcd (List.mem_singleton.mpr rfl) (fun p hp _ => by rw [List.mem_singleton.mp hp]; rfl) hr (lamS_by (sc := defScope sLaw) (by decide +kernel)) rfl (fun _ _ _ _ _ => rfl) (fun _ _ _ _ _ _ _ hr' => pe_call GC (hr'.mono (by decide)) (by rfl) mC kC bC .nil (passes_call (takes_of rfl rfl rfl rfl) fun _ _ _ _ h => h) (pa_cons (pv 9) pa_nil))) (pe_lst (pa_cons pe_str pa_nil)) (nomark _)) (pss_one ps_never) pss_nil)
        (pss_cons (ps_for PassesOwn.never rfl (pi_tup (pe_tup (pa_cons pe_bl (pa_cons pe_non (pa_cons pe_str (pa_cons (pe_tup (pa_cons pe_int pa_nil)) (pa_cons (pe_lst (pa_cons pe_int pa_nil)) pa_nil))))))) (pg_name (i := 12) scLaw.nd rfl (.inr rfl)) (pss_one (ps_if (pt_cmpR (op_neD hr.units) (pe_lamcall (T := [(tb, lawQ)]) (TT := THow D) (k := 5) (t := fun E => tCall (spOften K D) [] E (tCons (tVar 4) (tCons (tVar 12) tNil))) (by rfl) mHW kHW lHW cHW bHW scHow rfl (Or.inl rfl) (how_gives (k := 3) A T GK kK bK mK eA hr) TB hcd (List.mem_singleton.mpr rfl) (fun p hp _ => by rw [List.mem_singleton.mp hp]; rfl) hr (lamS_by (sc := defScope sLaw) (by decide +kernel)) rfl (fun _ _ _ _ _ => rfl) (fun _ _ _ _ _ _ _ hr' => pe_call GO (hr'.mono (by decide)) (by rfl) mO kO bO .nil (passes_call (takes_of rfl rfl rfl rfl) fun _ _ _ _ h => h) (pa_cons (pv 4) (pa_cons (pv 12) pa_nil)))) (pe_lst (pa_cons pe_str pa_nil)) (nomark _)) (pss_one ps_never) pss_nil)))
        pss_nil)))))))))))))))))
      (pss_one (ps_ret pe_bl))), ?_⟩
    refine ⟨_, rfl, a, _, rfl, .inl hS, _, _, rfl, _, _, rfl, _, rfl, ?_, ?_, ?_⟩
    · split <;> split <;> omega
    · split <;> split <;> omega
    have tabs0 : Tabs [(tb, lawQ)] H := fun q' hq => by
      rw [List.mem_singleton.mp hq]
      exact TabS.nil htb
    refine for_it (walk_range (lo := 0) (n := _)) (fun i σ H' => Lp K [(tb, lawQ)] a ns σ H') ⟨_, _, _, _, _, _, _, _, _, _, _, _, _, _, _, rfl, hS, tabs0⟩ (fun _ _ _ _ _ => trivial) ?_ (fun σ H' _ => q H')
    rintro i x σ H1 H1' hi ⟨y1, y2, y3, y4, y5, y6, y7, y8, y9, y10, y11, y12, y13, y14, y15, rfl, hS1, tabs1⟩ ⟨rfl, rfl⟩
    have hi9 : (i : Int) ≤ 1000 := by
      have : i < 9 := by
        refine Nat.lt_of_lt_of_le hi ?_
        split <;> split <;> omega
      omega
    -- purse
    refine ⟨_, rfl, _, rfl, a, ns, _, rfl, hS1, by omega, by omega, fun H2 p s2 np pp => ?_⟩
    -- length
    refine ⟨_, rfl, p, 9, 0, rfl, pp, by omega, by decide, by decide, fun H3 c1 b3 p3 c10 c11 => ⟨1, c1, rfl, rfl, ?_⟩⟩
    obtain ⟨l1, rfl⟩ := Int.eq_ofNat_of_zero_le c10
    -- one, other
    refine ⟨_, rfl, _, rfl, p, 1 + l1, 9, _, rfl, p3, by omega, by omega, by omega, by decide, by decide, fun H4 a1 fo b4 p4 na1 e1 lo so => ?_⟩
    refine ⟨_, rfl, _, rfl, p, 1 + l1, 9, _, rfl, p4, by omega, by omega, by omega, by decide, by decide, fun H5 a2 go b5 p5 na2 e2 lg sg => ?_⟩
    have f5 : FAt K H5 a1 fo := FAt.sb (.new e1) p4 b5
    have g5 : FAt K H5 a2 go := .new e2
    refine ⟨(by decide : 2 ≤ sizeLine), fun t ht => ?_⟩
    have s6 := same_new (o := .tup [.ref a1, .ref a2]) ht
    refine ⟨t, [.ref a1, .ref a2], rfl, .inl (.inl upd_same), rfl, _, _, rfl, _, [], rfl, rfl, ?_⟩
    have p6 := p5.same s6
    have b26 : Sb p H2 (upd H5 t (.tup [.ref a1, .ref a2])) := ((b3.trans b4).trans b5).trans (Sb.of s6)
    have f6 := Same.f s6 f5
    have g6 := Same.f s6 g5
    generalize upd H5 t (.tup [.ref a1, .ref a2]) = H6 at *
    -- times
    refine ⟨_, rfl, p, 19, _, rfl, p6, by omega, by decide, by decide, fun H7 t0 b7 p7 t00 t01 => ⟨t0, 9, rfl, rfl, ?_⟩⟩
    refine ⟨10, 30, rfl, rfl, ⟨by decide, by decide, by decide⟩, _, rfl, p, 9, _, rfl, p7, by omega, by decide, by decide, fun H8 t1 b8 p8 t10 t11 => ⟨_, t1, rfl, rfl, ?_⟩⟩
    refine ⟨10, 29, rfl, rfl, ⟨by decide, by decide, by decide⟩, _, rfl, (by decide : 3 ≤ sizeLine), fun L hL => ?_⟩
    have s9 := same_new (o := .lst [.int (t0 - 9), .int (10 ^ (30 : Int).toNat + t1), .int (-(10 ^ (29 : Int).toNat))]) hL
    have nLp := p8.ne hL
    have p9 := p8.same s9
    have eL9 : (upd H8 L (.lst [.int (t0 - 9), .int (10 ^ (30 : Int).toNat + t1), .int (-(10 ^ (29 : Int).toNat))])) L = some (.lst [.int (t0 - 9), .int (10 ^ (30 : Int).toNat + t1), .int (-(10 ^ (29 : Int).toNat))]) := upd_same
    have b69 := (b7.trans b8).trans (Sb.of s9)
    generalize upd H8 L (.lst [.int (t0 - 9), .int (10 ^ (30 : Int).toNat + t1), .int (-(10 ^ (29 : Int).toNat))]) = H9 at *
    refine ⟨_, rfl, p, 3, _, rfl, p9, by omega, by decide, by decide, fun H10 v b10 p10 v0 v1 => ⟨v, 3, rfl, rfl, (by show (0 : Int) < 3; decide), ?_⟩⟩
    have b610 := b69.trans b10
    have f10 := FAt.sb f6 p6 b610
    have g10 := FAt.sb g6 p6 b610
    have eL10 := b10 _ _ nLp eL9
    have b210 := b26.trans b610
    obtain ⟨tm, hat, htm⟩ : ∃ tm : Int, atI [V.int (t0 - 9), .int (10 ^ (30 : Int).toNat + t1), .int (-(10 ^ (29 : Int).toNat))] (v % 3) = some (.int tm) ∧ tm.natAbs < 2 ^ 250 := by
      have k30 : (10 : Int) ^ (30 : Int).toNat = 1000000000000000000000000000000 := by decide
      have k29 : (10 : Int) ^ (29 : Int).toNat = 100000000000000000000000000000 := by decide
      have k250 : (1000000000000000000000000001000 : Nat) < 2 ^ 250 := by decide
      rcases (show v = 0 ∨ v = 1 ∨ v = 2 by omega) with rfl | rfl | rfl
      · exact ⟨_, rfl, Nat.lt_trans (by omega) k250⟩
      · exact ⟨_, rfl, Nat.lt_trans (by rw [k30]; omega) k250⟩
      · exact ⟨_, rfl, Nat.lt_trans (by rw [k29]; omega) k250⟩
    refine ⟨L, _, _, .int tm, rfl, rfl, SqL.of eL10, hat, ?_⟩
    have nfo : fo ≠ [] := fun z => by rw [z] at lo; simp at lo; omega
    have ngo : go ≠ [] := fun z => by rw [z] at lg; simp at lg; omega
    have Ao : Abs 9 fo := Sml.abs so rfl
    have Bo : Bnd fo := Ao.bnd (by decide)
    have elg : fo.length = go.length := by omega
    -- the sum
    refine ⟨_, rfl, _, rfl, _, _, rfl, .inl ⟨a1, a2, fo, go, rfl, rfl, f10, g10, nfo, by omega, elg, fun H11 u1 s11 n1 eu1 => ?_⟩⟩
    have f11 : SqG true K H11 a1 (fo.map V.int) := Same.f s11 f10
    have g11 : SqG true K H11 a2 (go.map V.int) := Same.f s11 g10
    refine ⟨_, rfl, _, rfl, true, true, a1, a2, _, _, rfl, f11, g11, fun M hM => ?_⟩
    refine lc_it (walkG (xs := fo.map V.int) (ys := go.map V.int) (n := fo.length) (by simp; omega)) (fun i H' => Same H11 H' ∧ H' M = some (.lst (((addF fo go).take i).map V.int))) ⟨same_new hM, upd_same⟩ (fun i H' _ p => ⟨Same.sq p.1 f11, Same.sq p.1 g11⟩) ?_ ?_
    · rintro i v H3' H4' hi' ⟨s4, e4⟩ ⟨U, x, y, rfl, hU, rfl, hx, hy⟩
      obtain ⟨n, rfl, hn⟩ := int_at hx
      obtain ⟨m, rfl, hm⟩ := int_at hy
      refine ⟨U, [.int n, .int m], rfl, .inl (.inl upd_same), rfl, .int n, [.int m], rfl, .int m, [], rfl, rfl, rfl, ?_⟩
      have ne : M ≠ U := ne_of_none e4 hU
      refine ⟨_, rfl, _, rfl, n, m, rfl, rfl, _, Eq.trans (upd_ne ne) e4, ?_, fun c o e => ?_, ?_⟩
      · rw [List.length_map, List.length_take]
        exact Nat.lt_of_le_of_lt (Nat.min_le_left _ _) (small1000 (by omega))
      · rw [upd_ne (ne_of_none e hM), upd_ne (ne_of_none (s4 c o e) hU)]
        exact s4 c o e
      · rw [upd_same, List.take_add_one, addF_get hn hm, List.map_append]
        rfl
    rintro H12 ⟨s12, e12⟩
    rw [← addF_len elg, List.take_length] at e12
    refine ⟨M, _, rfl, .inl ⟨SqL.of e12, fun l hl => ?_⟩⟩
    have s13 := same_new (o := .tup ((addF fo go).map V.int)) hl
    refine ne_same (.new (s13 _ _ (s12 _ _ eu1))) (.new upd_same) rfl ⟨_, rfl, iteF ?_⟩
    generalize upd H12 l (.tup ((addF fo go).map V.int)) = H13 at *
    have s1013 := s11.trans (s12.trans s13)
    have f13 := Same.f s1013 f10
    -- often
    refine ⟨_, rfl, _, rfl, _, _, rfl, .inl ⟨a1, fo, tm, rfl, rfl, f13, nfo, by omega, Bo, htm, fun H14 u2 s14 n2 eu2 => ?_⟩⟩
    have f14 := Same.f s14 f13
    refine ⟨_, rfl, a1, rfl, ⟨_, f14⟩, fun M hM => ?_⟩
    refine lc_it (walk_tup (xs := fo.map V.int)) (fun i H' => Same H14 H' ∧ H' M = some (.lst (((fo.map fun x => tm * x).take i).map V.int))) ⟨same_new hM, upd_same⟩ (fun i H' _ p => Same.tup p.1 f14) ?_ ?_
    · rintro i v H3' H4' hi' ⟨s4, e4⟩ ⟨rfl, hx⟩
      obtain ⟨n, rfl, hn⟩ := int_at hx
      refine ⟨rfl, ?_⟩
      have em : (fo.map fun x => tm * x)[i]? = some (tm * n) := by
        rw [List.getElem?_map, hn]
        rfl
      refine ⟨_, rfl, _, rfl, tm, n, rfl, rfl, wide_mul htm (Bo n (List.mem_of_getElem? hn)) (by decide) (by decide) (by decide), _, e4, ?_, fun c o e => ?_, ?_⟩
      · rw [List.length_map, List.length_take, List.length_map]
        exact Nat.lt_of_le_of_lt (Nat.min_le_right _ _) (small1000 (by omega))
      · rw [upd_ne (ne_of_none e hM)]
        exact s4 c o e
      · rw [upd_same, List.take_add_one, em, List.map_append]
        rfl
    rintro H15 ⟨s15, e15⟩
    rw [show (fo.map V.int).length = (fo.map fun x => tm * x).length by rw [List.length_map, List.length_map], List.take_length] at e15
    refine ⟨M, _, rfl, .inl ⟨SqL.of e15, fun l hl => ?_⟩⟩
    have s16 := same_new (o := .tup ((fo.map fun x => tm * x).map V.int)) hl
    refine ne_same (.new (s16 _ _ (s15 _ _ eu2))) (.new upd_same) (oft_eq fo tm) ⟨_, rfl, iteF ?_⟩
    generalize upd H15 l (.tup ((fo.map fun x => tm * x).map V.int)) = H16 at *
    have s1316 := s14.trans (s15.trans s16)
    have f16 := Same.f s1316 f13
    refine ⟨_, rfl, _, _, rfl, .inl ⟨a1, fo, 0, rfl, rfl, f16, nfo, by omega, Bo, by decide, fun H17 u3 s17 n3 eu3 => ?_⟩⟩
    refine ⟨(by decide : 1 ≤ sizeLine), fun z1 hz1 => ?_⟩
    have s18 := same_new (o := .tup [.int 0]) hz1
    refine ⟨_, rfl, ?_⟩
    refine rep_of (xs := [.int 0]) (.inl (.inl upd_same)) (by simp) (by omega) (by omega) (by decide) fun H19 u4 s19 e19 => ?_
    rw [show ((1 : Int) + (l1 : Int)).toNat = fo.length by omega, flat_zero] at e19
    refine ne_same (.new (s19 _ _ (s18 _ _ eu3))) e19 (oft_zero fo) ⟨_, rfl, iteF ?_⟩
    have s1619 := s17.trans (s18.trans s19)
    have f19 := Same.f s1619 f16
    -- contra
    refine ⟨_, rfl, _, rfl, .inl ⟨a1, fo, rfl, f19, nfo, by omega, Bo, fun H20 u5 s20 h20 => ?_⟩⟩
    have f20 := Same.f s20 f19
    obtain ⟨x0, fr, rfl⟩ : ∃ x0 fr, fo = x0 :: fr := by
      cases fo with
      | nil => exact absurd rfl nfo
      | cons x r => exact ⟨x, r, rfl⟩
    refine ⟨_, rfl, _, rfl, a1, _, 0, .int x0, rfl, rfl, f20, atI_nat (j := 0) rfl, x0, rfl, _, 1, rfl, rfl, (by decide : 1 ≤ sizeLine), fun t ht => ?_⟩
    have s21 := same_new (o := .tup [.int (-x0 - 1)]) ht
    have e21 : (upd H20 t (.tup [.int (-x0 - 1)])) t = some (.tup [.int (-x0 - 1)]) := upd_same
    generalize upd H20 t (.tup [.int (-x0 - 1)]) = H21 at *
    have f21 := Same.f s21 f20
    refine ⟨_, rfl, 1, rfl, a1, _, rfl, f21, fun z => absurd z not_whole, fun _ u hu => ?_⟩
    have s22 := same_new (o := .tup (cutV ((x0 :: fr).map V.int) (some 1) none)) hu
    have e22 : SqT K (upd H21 u (.tup (cutV ((x0 :: fr).map V.int) (some 1) none))) u (fr.map V.int) := .inl (.inl (upd_same.trans (by rw [cut_one]; rfl)))
    generalize upd H21 u (.tup (cutV ((x0 :: fr).map V.int) (some 1) none)) = H22 at *
    refine ⟨u, rfl, ⟨_, e22⟩, fun M hM => ?_⟩
    refine lc_it (walk_tup (xs := fr.map V.int)) (fun i H' => Same H22 H' ∧ H' M = some (.lst (((fr.map fun y => -y).take i).map V.int))) ⟨same_new hM, upd_same⟩ (fun i H' _ p => Same.tup p.1 e22) ?_ ?_
    · rintro i v H3' H4' hi' ⟨s4, e4⟩ ⟨rfl, hx⟩
      obtain ⟨n, rfl, hn⟩ := int_at hx
      refine ⟨rfl, ?_⟩
      have em : (fr.map fun y => -y)[i]? = some (-n) := by
        rw [List.getElem?_map, hn]
        rfl
      refine ⟨_, rfl, n, rfl, _, e4, ?_, fun c o e => ?_, ?_⟩
      · rw [List.length_map, List.length_take, List.length_map]
        rw [List.length_cons] at lo
        exact Nat.lt_of_le_of_lt (Nat.min_le_right _ _) (small1000 (by omega))
      · rw [upd_ne (ne_of_none e hM)]
        exact s4 c o e
      · rw [upd_same, List.take_add_one, em, List.map_append]
        rfl
    rintro H23 ⟨s23, e23⟩
    rw [show (fr.map V.int).length = (fr.map fun y => -y).length by rw [List.length_map, List.length_map], List.take_length] at e23
    refine ⟨M, _, rfl, .inl ⟨SqL.of e23, fun l hl => ?_⟩⟩
    have s24 := same_new (o := .tup ((fr.map fun y => -y).map V.int)) hl
    rw [List.length_cons] at lo
    refine cat_any (.inl (.inl (s24 _ _ (s23 _ _ (s22 _ _ e21))))) (.inl (.inl upd_same)) (by rw [List.length_map, List.length_map]; exact Nat.le_of_lt (small1000 (by simp; omega))) fun H25 u6 s25 e25 => ?_
    have s2025 := s21.trans (s22.trans (s23.trans (s24.trans s25)))
    refine ne_same (Same.f s2025 h20) (show FAt K H25 u6 ((-x0 - 1) :: fr.map fun y => -y) from e25) (con_eq x0 fr) ⟨_, rfl, iteF ?_⟩
    have nc : conF (x0 :: fr) ≠ [] := fun z => (nomatch z)
    have lc : (conF (x0 :: fr)).length = fr.length + 1 := conF_len
    have h25 := Same.f s2025 h20
    refine ⟨_, rfl, _, rfl, .inl ⟨u5, _, rfl, h25, nc, by omega, (abs_con Ao).bnd (by decide), fun H26 u7 s26 h26 => ?_⟩⟩
    have s1926 := s20.trans (s2025.trans s26)
    have f26 := Same.f s1926 f19
    refine ⟨_, rfl, ?_⟩
    refine ne_same h26 f26 (con_con _) ⟨_, rfl, iteF ?_⟩
    have c26 := Same.f (s2025.trans s26) h20
    have s1026 := s1013.trans (s1316.trans (s1619.trans s1926))
    have g26 := Same.f s1026 g10
    -- all tuples
    refine ⟨_, rfl, _, rfl, _, _, rfl, .inl ⟨a1, a2, _, go, rfl, rfl, f26, g26, nfo, by rw [List.length_cons]; omega, elg, fun H27 u8 s27 n8 eu8 => ?_⟩⟩
    refine ⟨_, rfl, _, rfl, _, _, rfl, .inl ⟨a1, _, tm, rfl, rfl, Same.f s27 f26, nfo, by rw [List.length_cons]; omega, Bo, htm, fun H28 u9 s28 n9 eu9 => ?_⟩⟩
    refine ⟨_, rfl, (by decide : 3 ≤ sizeLine), fun t3 ht3 => ?_⟩
    have s29 := same_new (o := .tup [.ref u8, .ref u9, .ref u5]) ht3
    have e29 : SqT K (upd H28 t3 (.tup [.ref u8, .ref u9, .ref u5])) t3 [.ref u8, .ref u9, .ref u5] := .inl (.inl upd_same)
    generalize upd H28 t3 (.tup [.ref u8, .ref u9, .ref u5]) = H29 at *
    have s2629 := s27.trans (s28.trans s29)
    have tups : ∀ x ∈ [V.ref u8, .ref u9, .ref u5], TyX K H29 x (.type "tuple") := by
      intro x hx
      simp only [List.mem_cons, List.mem_nil_iff, or_false] at hx
      rcases hx with rfl | rfl | rfl
      · exact .base (.tup (s29 _ _ (s28 _ _ eu8)))
      · exact .base (.tup (s29 _ _ eu9))
      · exact ty_tup (Same.f s2629 c26)
    refine ⟨t3, rfl, ⟨_, e29⟩, fun M2 hM2 => ?_⟩
    refine lc_it (walk_tup (xs := [V.ref u8, .ref u9, .ref u5])) (fun i H' => Same H29 H' ∧ H' M2 = some (.lst ((List.replicate i true).map V.bl))) ⟨same_new hM2, upd_same⟩ (fun i H' _ p => Same.tup p.1 e29) ?_ ?_
    · rintro i v H3' H4' hi' ⟨s4, e4⟩ ⟨rfl, hx⟩
      refine ⟨rfl, ?_⟩
      refine ⟨_, rfl, _, _, _, _, true, rfl, .ty "tuple", TyX.same s4 (tups v (List.mem_of_getElem? hx)), kit_tup (by decide), _, e4, ?_, fun c o e => ?_, ?_⟩
      · rw [List.length_map, List.length_replicate]
        exact small1000 (Nat.le_trans (Nat.le_of_lt hi') (by simp))
      · rw [upd_ne (ne_of_none e hM2)]
        exact s4 c o e
      · rw [upd_same, List.replicate_succ', List.map_append]
        rfl
    rintro H30 ⟨s30, e30⟩
    refine ⟨M2, List.replicate 3 true, rfl, SqL.of e30, _, rfl, iteF ?_⟩
    have s2630 := s2629.trans s30
    have f30 := Same.f s2630 f26
    have c30 := Same.f s2630 c26
    have p30 := p10.same (s1026.trans s2630)
    have b230 := b210.trans (Sb.of (s1026.trans s2630))
    -- at
    refine ⟨_, rfl, _, 1, rfl, rfl, _, rfl, by omega, by omega, fun D1 hD => ?_⟩
    have nDp := p30.ne hD
    refine lc_it (walk_range (lo := 0) (n := _)) (fun i H' => Sb p H30 H' ∧ PAt H' p (100 + i) ∧ ∃ ws : List Int, H' D1 = some (.lst (ws.map V.int)) ∧ ws.length = i ∧ ∀ v ∈ ws, v.natAbs ≤ 20)
      ⟨Sb.of (same_new hD), (p30.mono (by omega)).same (same_new hD), [], upd_same, rfl, fun v h => (nomatch h)⟩ (fun _ _ _ _ => trivial) ?_ ?_
    · rintro i v H6' H6'' hi6 ⟨b6', p6', ws, ew, lw, bw⟩ ⟨rfl, hv⟩
      refine ⟨rfl, ?_⟩
      refine ⟨_, rfl, p, 21, _, rfl, p6', by omega, by decide, by decide, fun H7' d b7' p7' d0 d1 => ⟨d, 10, rfl, rfl, ?_⟩⟩
      have ew7 := b7' _ _ nDp ew
      refine ⟨_, ew7, small1000 (by rw [List.length_map]; omega), ?_, ?_, ws ++ [d - 10], ?_, by simp [lw], ?_⟩
      · intro b' o nb e
        rw [upd_ne (ne_of_none e hD)]
        exact b7' b' o nb (b6' b' o nb e)
      · obtain ⟨x', y', z', e1', r⟩ := p7'
        exact ⟨x', y', z', (upd_ne nDp.symm).trans e1', r.1, r.2.1, r.2.2.1, r.2.2.2.1, by omega⟩
      · rw [upd_same, List.map_append]
        rfl
      · intro v' hv'
        rcases List.mem_append.mp hv' with hv' | hv'
        · exact bw v' hv'
        · rw [List.mem_singleton] at hv'
          subst hv'
          omega
    rintro H31 ⟨b31, p31, ws, ew, lw, bw⟩
    have lw' : ws.length = l1 := by omega
    have f31 := FAt.sb f30 p30 b31
    have c31 := FAt.sb c30 p30 b31
    have b231 := b230.trans b31
    have bw6 : ∀ v ∈ ws, v.natAbs ≤ 1000000 := fun v hv => Nat.le_trans (bw v hv) (by decide)
    -- holds_at
    refine ⟨_, rfl, _, rfl, _, _, rfl, .inl ⟨false, a1, D1, _, ws, rfl, rfl, f31, SqL.of ew, by rw [List.length_cons]; omega, by rw [List.length_cons]; omega, bw6, fun H32 s32 => ?_⟩⟩
    refine ⟨_, rfl, _, rfl, _, _, rfl, .inl ⟨false, u5, D1, _, ws, rfl, rfl, Same.f s32 c31, SqL.of (s32 _ _ ew), by omega, by omega, bw6, fun H33 s33 => ?_⟩⟩
    refine ⟨rfl, _, rfl, ite2 (fun z => ?_) (fun _ => ?_)⟩
    · have z2 := V.bl.inj (of_decide_eq_true z)
      rw [worth_con nfo] at z2
      by_cases hw : 0 ≤ worthF (x0 :: fr) ws
      · rw [decide_eq_true hw, decide_eq_false (by omega)] at z2
        cases z2
      · rw [decide_eq_false hw, decide_eq_true (by omega)] at z2
        cases z2
    have s3133 := s32.trans s33
    have f33 := Same.f s3133 f31
    have p33 := p31.same s3133
    have b233 := b231.trans (Sb.of s3133)
    -- odd
    refine ⟨_, rfl, a1, _, rfl, .inr f33, fun l hl => ?_⟩
    have s34 := same_new (o := .lst ((x0 :: fr).map V.int)) hl
    have el34 : (upd H33 l (.lst ((x0 :: fr).map V.int))) l = some (.lst ((x0 :: fr).map V.int)) := upd_same
    have nlp := p33.ne hl
    generalize upd H33 l (.lst ((x0 :: fr).map V.int)) = H34 at *
    refine ⟨Nat.zero_le _, fun e0 ne0 => ?_⟩
    have s35 := same_new (o := .tup []) ne0
    have ee35 : (upd H34 e0 (.tup [])) e0 = some (.tup []) := upd_same
    have p34 := p33.same s34
    have nep := p34.ne ne0
    generalize upd H34 e0 (.tup []) = H35 at *
    have f35 := Same.f (s34.trans s35) f33
    obtain ⟨g, hg, lgg⟩ := cut_ints (x0 :: fr) none (some (-1))
    refine ⟨_, rfl, 1, rfl, -1, rfl, a1, _, rfl, f35, fun z => absurd z (not_neg (by simp)), fun _ u hu => ?_⟩
    have s36 := same_new (o := .tup (cutV ((x0 :: fr).map V.int) none (some (-1)))) hu
    have e36 : SqT K (upd H35 u (.tup (cutV ((x0 :: fr).map V.int) none (some (-1))))) u (g.map V.int) := .inl (.inl (upd_same.trans (by rw [hg])))
    generalize upd H35 u (.tup (cutV ((x0 :: fr).map V.int) none (some (-1)))) = H36 at *
    refine ⟨(by decide : 1 ≤ sizeLine), fun t ht => ?_⟩
    have s37 := same_new (o := .tup [.bl true]) ht
    rw [List.length_cons] at lgg
    refine cat_any (Same.tup s37 e36) (.inl (.inl upd_same)) (by rw [List.length_map]; exact Nat.le_of_lt (small1000 (by simp; omega))) fun H38 v1' s38 e38 => ?_
    have f38 := Same.f (s36.trans (s37.trans s38)) f35
    refine ⟨_, rfl, 1, rfl, -1, rfl, a1, _, rfl, f38, fun z => absurd z (not_neg (by simp)), fun _ u' hu' => ?_⟩
    have s39 := same_new (o := .tup (cutV ((x0 :: fr).map V.int) none (some (-1)))) hu'
    have e39 : SqT K (upd H38 u' (.tup (cutV ((x0 :: fr).map V.int) none (some (-1))))) u' (g.map V.int) := .inl (.inl (upd_same.trans (by rw [hg])))
    generalize upd H38 u' (.tup (cutV ((x0 :: fr).map V.int) none (some (-1)))) = H39 at *
    refine ⟨(by decide : 1 ≤ sizeLine), fun t' ht' => ?_⟩
    have s40 := same_new (o := .tup [.str "0"]) ht'
    refine cat_any (Same.tup s40 e39) (.inl (.inl upd_same)) (by rw [List.length_map]; exact Nat.le_of_lt (small1000 (by simp; omega))) fun H41 v2' s41 e41 => ?_
    refine ⟨(by decide : 7 ≤ sizeLine), fun L2 hL2 => ?_⟩
    have s42 := same_new (o := .lst [.non, .int 3, .ref l, .ref e0, .ref v1', .ref v2', .str "x"]) hL2
    have eL42 : (upd H41 L2 (.lst [.non, .int 3, .ref l, .ref e0, .ref v1', .ref v2', .str "x"])) L2 = some (.lst [.non, .int 3, .ref l, .ref e0, .ref v1', .ref v2', .str "x"]) := upd_same
    have s3541 := s36.trans (s37.trans (s38.trans (s39.trans (s40.trans s41))))
    have p41 := (p34.same s35).same s3541
    have nL2p := p41.ne hL2
    have p42 := p41.same s42
    generalize upd H41 L2 (.lst [.non, .int 3, .ref l, .ref e0, .ref v1', .ref v2', .str "x"]) = H42 at *
    refine ⟨_, rfl, p, 7, _, rfl, p42, by omega, by decide, by decide, fun H43 w b43 p43 w0 w1 => ?_⟩
    have s3342 := (s34.trans s35).trans (s3541.trans s42)
    have f43 := FAt.sb (Same.f s3342 f33) p42 b43
    have eL43 := b43 _ _ nL2p eL42
    have el43 := b43 _ _ nlp (s42 _ _ (s3541 _ _ (s35 _ _ el34)))
    have ee43 := b43 _ _ nep (s42 _ _ (s3541 _ _ ee35))
    have ev1 := SqT.sb (Same.tup ((s39.trans (s40.trans s41)).trans s42) e38) p42 b43
    have ev2 := SqT.sb (Same.tup s42 e41) p42 b43
    have b243 := (b233.trans (Sb.of s3342)).trans b43
    obtain ⟨odd, hat2, hodd⟩ : ∃ odd, atI [V.non, .int 3, .ref l, .ref e0, .ref v1', .ref v2', .str "x"] w = some odd ∧ Formy K H43 odd false := by
      rcases (show w = 0 ∨ w = 1 ∨ w = 2 ∨ w = 3 ∨ w = 4 ∨ w = 5 ∨ w = 6 by omega) with rfl | rfl | rfl | rfl | rfl | rfl | rfl
      · exact ⟨_, rfl, .inr ⟨"NoneType", .base .non, by decide, by decide, rfl⟩⟩
      · exact ⟨_, rfl, .inr ⟨"int", .base (.int 3), by decide, by decide, rfl⟩⟩
      · exact ⟨_, rfl, .inr ⟨"list", .base (.lst el43), by decide, by decide, rfl⟩⟩
      · exact ⟨_, rfl, .inl ⟨e0, [], [], rfl, .inl (.inl ee43), Nat.zero_le _, ⟨rfl, fun i x n h => by simp at h⟩, rfl⟩⟩
      · exact ⟨_, rfl, bad_end ev1 ⟨"bool", .base (.bl true), by decide, rfl⟩ (by omega)⟩
      · exact ⟨_, rfl, bad_end ev2 ⟨"str", .base (.str "0"), by decide, rfl⟩ (by omega)⟩
      · exact ⟨_, rfl, .inr ⟨"str", .base (.str "x"), by decide, by decide, rfl⟩⟩
    refine ⟨L2, _, w, odd, rfl, rfl, SqL.of eL43, hat2, ?_⟩
    have hS43 : SqL K H43 a (ns.map V.int) := Same.seq (Same.of_sb ((Sb.of s2).trans b243) np) hS1
    have tabs43 : Tabs [(tb, lawQ)] H43 := Tabs.sb (Tabs.same tabs1 s2) pp b243
    have fy43 : Formy K H43 (.ref a1) true := f43.formy (by rw [List.length_cons]; omega) nfo
    -- the pairs
    refine ⟨_, rfl, _, rfl, (by decide : 2 ≤ sizeLine), fun t1 h1 => ?_⟩
    have s44 := same_new (o := .tup [odd, .ref a1]) h1
    have e44 : (upd H43 t1 (.tup [odd, .ref a1])) t1 = some (.tup [odd, .ref a1]) := upd_same
    generalize upd H43 t1 (.tup [odd, .ref a1]) = H44 at *
    refine ⟨_, rfl, _, rfl, (by decide : 2 ≤ sizeLine), fun t2 h2 => ?_⟩
    have s45 := same_new (o := .tup [.ref a1, odd]) h2
    have e45 : (upd H44 t2 (.tup [.ref a1, odd])) t2 = some (.tup [.ref a1, odd]) := upd_same
    generalize upd H44 t2 (.tup [.ref a1, odd]) = H45 at *
    refine ⟨_, rfl, _, rfl, (by decide : 1 ≤ sizeLine), fun z1 hz1 => ?_⟩
    have s46 := same_new (o := .tup [.int 0]) hz1
    have s4346 := s44.trans (s45.trans s46)
    refine cat_any (Same.tup s4346 f43) (.inl (.inl upd_same)) (by rw [List.length_map]; exact Nat.le_of_lt (small1000 (by simp; omega))) fun H47 w1' s47 e47 => ?_
    refine ⟨(by decide : 2 ≤ sizeLine), fun t3' h3 => ?_⟩
    have s48 := same_new (o := .tup [.ref a1, .ref w1']) h3
    have e48 : (upd H47 t3' (.tup [.ref a1, .ref w1'])) t3' = some (.tup [.ref a1, .ref w1']) := upd_same
    generalize upd H47 t3' (.tup [.ref a1, .ref w1']) = H48 at *
    have s4348 := s4346.trans (s47.trans s48)
    refine ⟨_, rfl, (by decide : 1 ≤ sizeLine), fun z2 hz2 => ?_⟩
    have s49 := same_new (o := .tup [.int 0]) hz2
    refine cat_any (Same.tup (s4348.trans s49) f43) (.inl (.inl upd_same)) (by rw [List.length_map]; exact Nat.le_of_lt (small1000 (by simp; omega))) fun H50 w2' s50 e50 => ?_
    refine ⟨_, rfl, (by decide : 2 ≤ sizeLine), fun t4 h4 => ?_⟩
    have s51 := same_new (o := .tup [.ref w2', .ref a1]) h4
    have e51 : (upd H50 t4 (.tup [.ref w2', .ref a1])) t4 = some (.tup [.ref w2', .ref a1]) := upd_same
    generalize upd H50 t4 (.tup [.ref w2', .ref a1]) = H51 at *
    refine ⟨_, rfl, _, rfl, (by decide : 2 ≤ sizeLine), fun t5 h5 => ?_⟩
    have s52 := same_new (o := .tup [odd, odd]) h5
    have e52 : (upd H51 t5 (.tup [odd, odd])) t5 = some (.tup [odd, odd]) := upd_same
    generalize upd H51 t5 (.tup [odd, odd]) = H52 at *
    refine ⟨(by decide : 5 ≤ sizeLine), fun t6 h6 => ?_⟩
    have s53 := same_new (o := .tup [.ref t1, .ref t2, .ref t3', .ref t4, .ref t5]) h6
    have e53 : SqT K (upd H52 t6 (.tup [.ref t1, .ref t2, .ref t3', .ref t4, .ref t5])) t6 [.ref t1, .ref t2, .ref t3', .ref t4, .ref t5] := .inl (.inl upd_same)
    generalize upd H52 t6 (.tup [.ref t1, .ref t2, .ref t3', .ref t4, .ref t5]) = H53 at *
    have s4853 := s49.trans (s50.trans (s51.trans (s52.trans s53)))
    have s4353 := s4348.trans s4853
    have odd53 := Formy.same s4353 hodd
    have one53 := Formy.same s4353 fy43
    have f53 := Same.f s4353 f43
    have long : ∀ (w : Addr), SqT K H53 w ((x0 :: fr).map V.int ++ [.int 0]) → Formy K H53 (.ref w) true := fun w hw =>
      FAt.formy (f := (x0 :: fr) ++ [0]) (by unfold FAt; rw [List.map_append]; exact hw) (by simp; omega) (by simp)
    have ew1 := Same.tup (s48.trans s4853) e47
    have ew2 := Same.tup (s51.trans (s52.trans s53)) e50
    have pairs : ∀ x ∈ [V.ref t1, .ref t2, .ref t3', .ref t4, .ref t5], ∃ (t : Addr) (y z : V), x = .ref t ∧ SqT K H53 t [y, z] ∧ BadA K H53 y z := by
      intro x hx
      simp only [List.mem_cons, List.mem_nil_iff, or_false] at hx
      rcases hx with rfl | rfl | rfl | rfl | rfl
      · exact ⟨t1, odd, .ref a1, rfl, .inl (.inl ((s45.trans (s46.trans (s47.trans (s48.trans s4853)))) _ _ e44)), .inl odd53⟩
      · exact ⟨t2, .ref a1, odd, rfl, .inl (.inl ((s46.trans (s47.trans (s48.trans s4853))) _ _ e45)), .inr (.inl ⟨one53, odd53⟩)⟩
      · exact ⟨t3', .ref a1, .ref w1', rfl, .inl (.inl (s4853 _ _ e48)), .inr (.inr ⟨a1, w1', _, _, rfl, rfl, f53, ew1, one53, long w1' ew1, by simp⟩)⟩
      · exact ⟨t4, .ref w2', .ref a1, rfl, .inl (.inl ((s52.trans s53) _ _ e51)), .inr (.inr ⟨w2', a1, _, _, rfl, rfl, ew2, f53, long w2' ew2, one53, by simp⟩)⟩
      · exact ⟨t5, odd, odd, rfl, .inl (.inl (s53 _ _ e52)), .inl odd53⟩
    refine ⟨t6, rfl, ⟨_, e53⟩, ?_⟩
    refine for_it (walk_tup (xs := [V.ref t1, .ref t2, .ref t3', .ref t4, .ref t5])) (fun i σ H' => ∃ z1 z2 z3 z5 z6 z7 z8 z10 z11 z12 z13 z14 z15, σ = [some (.ref a), z1, z2, z3, some (.ref a1), z5, z6, z7, z8, some odd, z10, z11, z12, z13, z14, z15] ∧ ExtN H53 H' ∧ Tabs [(tb, lawQ)] H')
      ⟨_, _, _, _, _, _, _, _, _, _, _, _, _, rfl, ExtN.refl _, Tabs.same tabs43 s4353⟩ (fun i σ H' _ z => by obtain ⟨_, _, _, _, _, _, _, _, _, _, _, _, _, _, z, _⟩ := z; exact ExtN.tup z e53) ?_ ?_
    · rintro i x σ H29 H29' hi7 ⟨q1, q2, q3, q5, q6, q7, q8, q10, q11, q12, q13, q14, q15, rfl, ex, tabs⟩ ⟨rfl, hx⟩
      obtain ⟨ti, y, z, rfl, hti, bad⟩ := pairs x (List.mem_of_getElem? hx)
      refine ⟨ti, [y, z], rfl, ExtN.tup ex hti, rfl, y, [z], rfl, z, [], rfl, rfl, ?_⟩
      refine ⟨tabs, fun H60 ex60 tabs60 => ?_⟩
      refine ⟨_, rfl, _, rfl, y, z, rfl, .inr ⟨BadA.ext (ex.trans ex60) bad, fun H61 s61 => ⟨rfl, rfl, fun H62 l s62 nl el => ?_⟩⟩⟩
      refine ⟨(by decide : 1 ≤ sizeLine), fun l2 hl2 => ?_⟩
      have s63 := same_new (o := .lst [.str "!NoForm"]) hl2
      refine how_ne (s63 _ _ el) upd_same ⟨_, rfl, iteF ?_⟩
      have s6063 := s61.trans (s62.trans s63)
      exact ⟨_, _, _, _, _, _, _, _, _, _, _, _, _, rfl, (ex.trans ex60).trans (ExtN.same s6063), Tabs.same tabs60 s6063⟩
    rintro σ H70 ⟨z1', z2', z3, z5, z6, z7, z8, z10, z11, z12, z13, z14, z15, rfl, ex70, tabs70⟩
    have ex4370 := (ExtN.same s4353).trans ex70
    -- often, contrary of odd
    refine ⟨tabs70, fun H71 ex71 tabs71 => ?_⟩
    refine ⟨_, rfl, _, _, rfl, .inr ⟨.inl (Formy.ext (ex4370.trans ex71) hodd), fun H72 s72 => ⟨rfl, rfl, fun H73 l s73 nl el => ?_⟩⟩⟩
    refine ⟨(by decide : 1 ≤ sizeLine), fun l2 hl2 => ?_⟩
    have s74 := same_new (o := .lst [.str "!NoForm"]) hl2
    refine how_ne (s74 _ _ el) upd_same ⟨_, rfl, iteF ?_⟩
    have s7174 := s72.trans (s73.trans s74)
    have ex4374 := (ex4370.trans ex71).trans (ExtN.same s7174)
    refine ⟨Tabs.same tabs71 s7174, fun H75 ex75 tabs75 => ?_⟩
    refine ⟨_, rfl, _, rfl, .inr ⟨Formy.ext (ex4374.trans ex75) hodd, fun H76 s76 => ⟨rfl, rfl, fun H77 l s77 nl el => ?_⟩⟩⟩
    refine ⟨(by decide : 1 ≤ sizeLine), fun l3 hl3 => ?_⟩
    have s78 := same_new (o := .lst [.str "!NoForm"]) hl3
    refine how_ne (s78 _ _ el) upd_same ⟨_, rfl, iteF ?_⟩
    have s7578 := s76.trans (s77.trans s78)
    have ex4378 := (ex4374.trans ex75).trans (ExtN.same s7578)
    have tabs78 := Tabs.same tabs75 s7578
    generalize upd H77 l3 (.lst [.str "!NoForm"]) = H78 at *
    -- things that are no whole numbers
    refine ⟨(by decide : 1 ≤ sizeLine), fun o1 ho1 => ?_⟩
    have s79 := same_new (o := .tup [.int 1]) ho1
    have e79 : (upd H78 o1 (.tup [.int 1])) o1 = some (.tup [.int 1]) := upd_same
    generalize upd H78 o1 (.tup [.int 1]) = H79 at *
    refine ⟨(by decide : 1 ≤ sizeLine), fun o2 ho2 => ?_⟩
    have s80 := same_new (o := .lst [.int 2]) ho2
    have e80 : (upd H79 o2 (.lst [.int 2])) o2 = some (.lst [.int 2]) := upd_same
    generalize upd H79 o2 (.lst [.int 2]) = H80 at *
    refine ⟨(by decide : 5 ≤ sizeLine), fun t7 h7 => ?_⟩
    have s81 := same_new (o := .tup [.bl true, .non, .str "1", .ref o1, .ref o2]) h7
    have e81 : SqT K (upd H80 t7 (.tup [.bl true, .non, .str "1", .ref o1, .ref o2])) t7 [.bl true, .non, .str "1", .ref o1, .ref o2] := .inl (.inl upd_same)
    generalize upd H80 t7 (.tup [.bl true, .non, .str "1", .ref o1, .ref o2]) = H81 at *
    have s7881 := s79.trans (s80.trans s81)
    have ex4381 := ex4378.trans (ExtN.same s7881)
    have one81 := Formy.ext ex4381 fy43
    have bads : ∀ x ∈ [V.bl true, .non, .str "1", .ref o1, .ref o2], BadO K H81 (.ref a1) x := by
      intro x hx
      refine .inr ⟨one81, ?_⟩
      simp only [List.mem_cons, List.mem_nil_iff, or_false] at hx
      rcases hx with rfl | rfl | rfl | rfl | rfl
      · exact ⟨"bool", .base (.bl true), by decide, rfl⟩
      · exact ⟨"NoneType", .base .non, by decide, rfl⟩
      · exact ⟨"str", .base (.str "1"), by decide, rfl⟩
      · exact ⟨"tuple", .base (.tup (s81 _ _ (s80 _ _ e79))), by decide, rfl⟩
      · exact ⟨"list", .base (.lst (s81 _ _ e80)), by decide, rfl⟩
    refine ⟨t7, rfl, ⟨_, e81⟩, ?_⟩
    refine for_it (walk_tup (xs := [V.bl true, .non, .str "1", .ref o1, .ref o2])) (fun i σ H' => ∃ z1 z2 z3 z5 z6 z7 z8 z9 z10 z11 z12 z13 z14 z15, σ = [some (.ref a), z1, z2, z3, some (.ref a1), z5, z6, z7, z8, z9, z10, z11, z12, z13, z14, z15] ∧ ExtN H81 H' ∧ Tabs [(tb, lawQ)] H')
      ⟨_, _, _, _, _, _, _, _, _, _, _, _, _, _, rfl, ExtN.refl _, Tabs.same tabs78 s7881⟩ (fun i σ H' _ z => by obtain ⟨_, _, _, _, _, _, _, _, _, _, _, _, _, _, _, z, _⟩ := z; exact ExtN.tup z e81) ?_ ?_
    · rintro i x σ H29 H29' hi7 ⟨q1, q2, q3, q5, q6, q7, q8, q9, q10, q11, q12, q13, q14, q15, rfl, ex, tabs⟩ ⟨rfl, hx⟩
      have bad := bads x (List.mem_of_getElem? hx)
      refine ⟨tabs, fun H60 ex60 tabs60 => ?_⟩
      refine ⟨_, rfl, _, rfl, .ref a1, x, rfl, .inr ⟨BadO.ext (ex.trans ex60) bad, fun H61 s61 => ⟨rfl, rfl, fun H62 l s62 nl el => ?_⟩⟩⟩
      refine ⟨(by decide : 1 ≤ sizeLine), fun l2 hl2 => ?_⟩
      have s63 := same_new (o := .lst [.str "!NoForm"]) hl2
      refine how_ne (s63 _ _ el) upd_same ⟨_, rfl, iteF ?_⟩
      have s6063 := s61.trans (s62.trans s63)
      exact ⟨_, _, _, _, _, _, _, _, _, _, _, _, _, _, rfl, (ex.trans ex60).trans (ExtN.same s6063), Tabs.same tabs60 s6063⟩
    rintro σ H90 ⟨w1, w2, w3, w5, w6, w7, w8, w9, w10, w11, w12, w13, w14, w15, rfl, ex90, tabs90⟩
    exact ⟨_, _, _, _, _, _, _, _, _, _, _, _, _, _, _, rfl, ExtN.seq (ex4381.trans ex90) hS43, tabs90⟩
end
end PF

namespace PF
open PySem PySem.Spec PyProof.Rows L2 ZG HU LamX
theorem all_mk {l : PySem.W.OpenLaw} {w : World} {K : PySem.W.Frag} {h : Heap} {mg : Str → Option Value} {fa fl cc tb cW f0 f1 f2 f3 f4 f5 f6 f7 f8 f9 f10 f11 f12 f13 e0 e1 e2 e3 e4 e5 e6 e7 e8 e9 e10 e11 e12 : Addr} (X : K.In h) (G : h.Ns mainGlobals mg) (hfa : mg "law" = some (.ref fa)) (own : OwnTab K fa h)
    {od0 an0 od1 an1 od2 an2 od3 an3 od4 an4 od5 an5 od6 an6 od7 an7 od8 an8 od9 an9 od10 an10 od11 an11 od12 an12 od13 an13 odl anl ddl : Option Addr} {sl0 sl1 sl2 sl3 sl4 sl5 sl6 sl7 sl8 sl9 sl10 sl11 sl12 sl13 sll slc : Array (Option Value)} {oc0 kV0 dc0 pm0 cd0 ct0 oc1 kV1 dc1 pm1 cd1 ct1 oc2 kV2 dc2 pm2 cd2 ct2 oc3 kV3 dc3 pm3 cd3 ct3 oc4 kV4 dc4 pm4 cd4 ct4 oc5 kV5 dc5 pm5 cd5 ct5 oc6 kV6 dc6 pm6 cd6 ct6 oc7 kV7 dc7 pm7 cd7 ct7 oc8 kV8 dc8 pm8 cd8 ct8 oc9 kV9 dc9 pm9 cd9 ct9 oc10 kV10 dc10 pm10 cd10 ct10 oc11 kV11 dc11 pm11 cd11 ct11 oc12 kV12 dc12 pm12 cd12 ct12 oc13 kV13 dc13 pm13 cd13 ct13 ocl kVl dcl pml ctl ecl : Value} {vs : Array Value}
    (a0 : PySem.W.nsIn K mainGlobals "is_whole" = some (some (.ref f0)))
    (l0 : K.lookup f0 = some ⟨oc0, od0, .func (PySem.W.fnOf "is_whole" "is_whole" (defArgs sWhole) (defBody sWhole) (defScope sWhole) .none kV0 dc0 pm0 an0 cd0 ct0), sl0⟩)
    (c0 : PySem.W.codeIn K cd0 "is_whole" = true)
    (k0 : PySem.W.keepIn K (.ref f0) = true)
    (a1 : PySem.W.nsIn K mainGlobals "is_sequence" = some (some (.ref f1)))
    (l1 : K.lookup f1 = some ⟨oc1, od1, .func (PySem.W.fnOf "is_sequence" "is_sequence" (defArgs sSeqn) (defBody sSeqn) (defScope sSeqn) .none kV1 dc1 pm1 an1 cd1 ct1), sl1⟩)
    (c1 : PySem.W.codeIn K cd1 "is_sequence" = true)
    (k1 : PySem.W.keepIn K (.ref f1) = true)
    (a2 : PySem.W.nsIn K mainGlobals "is_form" = some (some (.ref f2)))
    (l2 : K.lookup f2 = some ⟨oc2, od2, .func (PySem.W.fnOf "is_form" "is_form" (defArgs sIsForm) (defBody sIsForm) (defScope sIsForm) .none kV2 dc2 pm2 an2 cd2 ct2), sl2⟩)
    (c2 : PySem.W.codeIn K cd2 "is_form" = true)
    (k2 : PySem.W.keepIn K (.ref f2) = true)
    (a3 : PySem.W.nsIn K mainGlobals "worth" = some (some (.ref f3)))
    (l3 : K.lookup f3 = some ⟨oc3, od3, .func (PySem.W.fnOf "worth" "worth" (defArgs sWorth) (defBody sWorth) (defScope sWorth) .none kV3 dc3 pm3 an3 cd3 ct3), sl3⟩)
    (c3 : PySem.W.codeIn K cd3 "worth" = true)
    (k3 : PySem.W.keepIn K (.ref f3) = true)
    (a4 : PySem.W.nsIn K mainGlobals "holds_at" = some (some (.ref f4)))
    (l4 : K.lookup f4 = some ⟨oc4, od4, .func (PySem.W.fnOf "holds_at" "holds_at" (defArgs sHolds) (defBody sHolds) (defScope sHolds) .none kV4 dc4 pm4 an4 cd4 ct4), sl4⟩)
    (c4 : PySem.W.codeIn K cd4 "holds_at" = true)
    (k4 : PySem.W.keepIn K (.ref f4) = true)
    (a5 : PySem.W.nsIn K mainGlobals "_look_form" = some (some (.ref f5)))
    (l5 : K.lookup f5 = some ⟨oc5, od5, .func (PySem.W.fnOf "_look_form" "_look_form" (defArgs sLook) (defBody sLook) (defScope sLook) .none kV5 dc5 pm5 an5 cd5 ct5), sl5⟩)
    (c5 : PySem.W.codeIn K cd5 "_look_form" = true)
    (k5 : PySem.W.keepIn K (.ref f5) = true)
    (a6 : PySem.W.nsIn K mainGlobals "_law_purse" = some (some (.ref f6)))
    (l6 : K.lookup f6 = some ⟨oc6, od6, .func (PySem.W.fnOf "_law_purse" "_law_purse" (defArgs sPurse) (defBody sPurse) (defScope sPurse) .none kV6 dc6 pm6 an6 cd6 ct6), sl6⟩)
    (c6 : PySem.W.codeIn K cd6 "_law_purse" = true)
    (k6 : PySem.W.keepIn K (.ref f6) = true)
    (a7 : PySem.W.nsIn K mainGlobals "_law_take" = some (some (.ref f7)))
    (l7 : K.lookup f7 = some ⟨oc7, od7, .func (PySem.W.fnOf "_law_take" "_law_take" (defArgs sTake) (defBody sTake) (defScope sTake) .none kV7 dc7 pm7 an7 cd7 ct7), sl7⟩)
    (c7 : PySem.W.codeIn K cd7 "_law_take" = true)
    (k7 : PySem.W.keepIn K (.ref f7) = true)
    (a8 : PySem.W.nsIn K mainGlobals "_law_form" = some (some (.ref f8)))
    (l8 : K.lookup f8 = some ⟨oc8, od8, .func (PySem.W.fnOf "_law_form" "_law_form" (defArgs sForm) (defBody sForm) (defScope sForm) .none kV8 dc8 pm8 an8 cd8 ct8), sl8⟩)
    (c8 : PySem.W.codeIn K cd8 "_law_form" = true)
    (k8 : PySem.W.keepIn K (.ref f8) = true)
    (a9 : PySem.W.nsIn K mainGlobals "added" = some (some (.ref f9)))
    (l9 : K.lookup f9 = some ⟨oc9, od9, .func (PySem.W.fnOf "added" "added" (defArgs sAdded) (defBody sAdded) (defScope sAdded) .none kV9 dc9 pm9 an9 cd9 ct9), sl9⟩)
    (c9 : PySem.W.codeIn K cd9 "added" = true)
    (k9 : PySem.W.keepIn K (.ref f9) = true)
    (a10 : PySem.W.nsIn K mainGlobals "often" = some (some (.ref f10)))
    (l10 : K.lookup f10 = some ⟨oc10, od10, .func (PySem.W.fnOf "often" "often" (defArgs sOften) (defBody sOften) (defScope sOften) .none kV10 dc10 pm10 an10 cd10 ct10), sl10⟩)
    (c10 : PySem.W.codeIn K cd10 "often" = true)
    (k10 : PySem.W.keepIn K (.ref f10) = true)
    (a11 : PySem.W.nsIn K mainGlobals "_law_kind" = some (some (.ref f11)))
    (l11 : K.lookup f11 = some ⟨oc11, od11, .func (PySem.W.fnOf "_law_kind" "_law_kind" (defArgs sKind) (defBody sKind) (defScope sKind) .none kV11 dc11 pm11 an11 cd11 ct11), sl11⟩)
    (c11 : PySem.W.codeIn K cd11 "_law_kind" = true)
    (k11 : PySem.W.keepIn K (.ref f11) = true)
    (a12 : PySem.W.nsIn K mainGlobals "_law_how" = some (some (.ref f12)))
    (l12 : K.lookup f12 = some ⟨oc12, od12, .func (PySem.W.fnOf "_law_how" "_law_how" (defArgs sHow) (defBody sHow) (defScope sHow) .none kV12 dc12 pm12 an12 cd12 ct12), sl12⟩)
    (c12 : PySem.W.codeIn K cd12 "_law_how" = true)
    (k12 : PySem.W.keepIn K (.ref f12) = true)
    (a13 : PySem.W.nsIn K mainGlobals "contrary" = some (some (.ref f13)))
    (l13 : K.lookup f13 = some ⟨oc13, od13, .func (PySem.W.fnOf "contrary" "contrary" (defArgs sContrary) (defBody sContrary) (defScope sContrary) .none kV13 dc13 pm13 an13 cd13 ct13), sl13⟩)
    (c13 : PySem.W.codeIn K cd13 "contrary" = true)
    (k13 : PySem.W.keepIn K (.ref f13) = true)
    (al : PySem.W.nsIn K mainGlobals "law" = some (some (.ref fl)))
    (ll : K.lookup fl = some ⟨ocl, odl, .func (PySem.W.fnOf "law" "law" (defArgs sLaw) (defBody sLaw) (defScope sLaw) .none kVl dcl pml anl (.ref cc) ctl), sll⟩)
    (cl : PySem.W.codeIn K (.ref cc) "law" = true)
    (lc : K.lookup cc = some ⟨ecl, ddl, .fields vs, slc⟩)
    (v11 : vs[11]? = some (.ref tb))
    (ch : PySem.W.codeHdIn K cc tb = true)
    (nt : K.lookup tb = none)
    (z0 : PySem.W.nsIn K mainGlobals "isinstance" = some none)
    (z1 : PySem.W.nsIn K mainGlobals "int" = some none)
    (z2 : PySem.W.nsIn K mainGlobals "bool" = some none)
    (z3 : PySem.W.nsIn K mainGlobals "tuple" = some none)
    (z4 : PySem.W.nsIn K mainGlobals "list" = some none)
    (z5 : PySem.W.nsIn K mainGlobals "len" = some none)
    (z6 : PySem.W.nsIn K mainGlobals "all" = some none)
    (z7 : PySem.W.nsIn K mainGlobals "zip" = some none)
    (z8 : PySem.W.nsIn K mainGlobals "range" = some none)
    (z9 : PySem.W.nsIn K mainGlobals "sum" = some none)
    (z10 : PySem.W.nsIn K mainGlobals "abs" = some none)
    (z11 : PySem.W.nsIn K mainGlobals "max" = some none)
    (z12 : PySem.W.nsIn K mainGlobals "min" = some none)
    (zV : PySem.W.nsIn K mainGlobals "ValueError" = some none)
    (aW : PySem.W.nsIn K mainGlobals "Wrong" = some (some (.ref cW)))
    (n0 : PySem.W.nsIn K mainGlobals "NoArea" = some (some (.ref e0)))
    (n1 : PySem.W.nsIn K mainGlobals "NoClaims" = some (some (.ref e1)))
    (n2 : PySem.W.nsIn K mainGlobals "NoDeeds" = some (some (.ref e2)))
    (n3 : PySem.W.nsIn K mainGlobals "NoForm" = some (some (.ref e3)))
    (n4 : PySem.W.nsIn K mainGlobals "NoNames" = some (some (.ref e4)))
    (n5 : PySem.W.nsIn K mainGlobals "NoNumber" = some (some (.ref e5)))
    (n6 : PySem.W.nsIn K mainGlobals "NoPapers" = some (some (.ref e6)))
    (n7 : PySem.W.nsIn K mainGlobals "NoPass" = some (some (.ref e7)))
    (n8 : PySem.W.nsIn K mainGlobals "NoRows" = some (some (.ref e8)))
    (n9 : PySem.W.nsIn K mainGlobals "NoRule" = some (some (.ref e9)))
    (n10 : PySem.W.nsIn K mainGlobals "NoSaying" = some (some (.ref e10)))
    (n11 : PySem.W.nsIn K mainGlobals "NoStart" = some (some (.ref e11)))
    (n12 : PySem.W.nsIn K mainGlobals "NoText" = some (some (.ref e12)))
    (q0 : PySem.W.kitOne K (.ref e3) (.ref e0) = some false)
    (q1 : PySem.W.kitOne K (.ref e3) (.ref e1) = some false)
    (q2 : PySem.W.kitOne K (.ref e3) (.ref e2) = some false)
    (q3 : PySem.W.kitOne K (.ref e3) (.ref e3) = some true)
    (q4 : PySem.W.kitOne K (.ref e3) (.ref e4) = some false)
    (q5 : PySem.W.kitOne K (.ref e3) (.ref e5) = some false)
    (q6 : PySem.W.kitOne K (.ref e3) (.ref e6) = some false)
    (q7 : PySem.W.kitOne K (.ref e3) (.ref e7) = some false)
    (q8 : PySem.W.kitOne K (.ref e3) (.ref e8) = some false)
    (q9 : PySem.W.kitOne K (.ref e3) (.ref e9) = some false)
    (q10 : PySem.W.kitOne K (.ref e3) (.ref e10) = some false)
    (q11 : PySem.W.kitOne K (.ref e3) (.ref e11) = some false)
    (q12 : PySem.W.kitOne K (.ref e3) (.ref e12) = some false)
    (qV : PySem.W.kitOne K (.ref e3) (.type "ValueError") = some true)
    (eW : PySem.W.exmOne K (.ref e3) (.ref cW) = some true)
    (eA : PySem.W.exmAny K (.ref e3) [.ref e0, .ref e1, .ref e2, .ref e7, .ref e8] = some false)
    (x0 : PySem.W.findIn K (.ref e3) "__getattribute__" = some (some (.builtin "BaseException.__getattribute__")))
    (x1 : PySem.W.findIn K (.ref e3) "__getattr__" = some none)
    (x2 : PySem.W.subIn K (.ref e3) (.type "BaseException") = some true)
    (x3 : PySem.W.hasDictIn K e3 = true)
    (x4 : PySem.W.findIn K (.ref e3) "__class__" = some (some (.builtin "object.__class__")))
    (x5 : PySem.W.specialIn K (.builtin "object.__class__") "__get__" = some (some (.builtin "getset_descriptor.__get__")))
    (x6 : PySem.W.takesIn K (.builtin "object.__class__") = some true)
    (x7 : PySem.W.mroIn K e3 (.type "object") = some true)
    (y0 : PySem.W.excIn K e3 [.type "ValueError", .type "Exception", .type "BaseException", .type "object"] "ValueError.__new__" = true)
    (y1 : PySem.W.keepIn K (.ref e3) = true)
    (y2 : PySem.W.typeIn K (.ref e3) = some (.type "type"))
    : LawAtS l w K CX0 8 63 "script" mg fa h := by
  have e := hfa.symm.trans (PySem.W.mg_of X G al)
  cases e
  have T : Txt mg := ⟨PySem.W.mg_none_of X G z0, PySem.W.mg_none_of X G z1, PySem.W.mg_none_of X G z2, PySem.W.mg_none_of X G z3, PySem.W.mg_none_of X G z4, PySem.W.mg_none_of X G z5, PySem.W.mg_none_of X G z6, PySem.W.mg_none_of X G z7, PySem.W.mg_none_of X G z8, PySem.W.mg_none_of X G z9, PySem.W.mg_none_of X G z10, PySem.W.mg_none_of X G z11, PySem.W.mg_none_of X G z12⟩
  have F0 := fun_mk (st := sWhole) l0 c0 k0
  have b0 := F0.binds (ps := ["thing"]) fun _ _ _ _ _ _ us hl => match us, hl with | [_], _ => rfl
  have m0 := PySem.W.mg_of X G a0
  have F1 := fun_mk (st := sSeqn) l1 c1 k1
  have b1 := F1.binds (ps := ["thing"]) fun _ _ _ _ _ _ us hl => match us, hl with | [_], _ => rfl
  have m1 := PySem.W.mg_of X G a1
  have F2 := fun_mk (st := sIsForm) l2 c2 k2
  have b2 := F2.binds (ps := ["thing"]) fun _ _ _ _ _ _ us hl => match us, hl with | [_], _ => rfl
  have m2 := PySem.W.mg_of X G a2
  have F3 := fun_mk (st := sWorth) l3 c3 k3
  have b3 := F3.binds (ps := ["form", "worths"]) fun _ _ _ _ _ _ us hl => match us, hl with | [_, _], _ => rfl
  have m3 := PySem.W.mg_of X G a3
  have F4 := fun_mk (st := sHolds) l4 c4 k4
  have b4 := F4.binds (ps := ["form", "worths"]) fun _ _ _ _ _ _ us hl => match us, hl with | [_, _], _ => rfl
  have m4 := PySem.W.mg_of X G a4
  have F5 := fun_mk (st := sLook) l5 c5 k5
  have b5 := F5.binds (ps := ["form"]) fun _ _ _ _ _ _ us hl => match us, hl with | [_], _ => rfl
  have m5 := PySem.W.mg_of X G a5
  have F6 := fun_mk (st := sPurse) l6 c6 k6
  have b6 := F6.binds (ps := ["script", "at"]) fun _ _ _ _ _ _ us hl => match us, hl with | [_, _], _ => rfl
  have m6 := PySem.W.mg_of X G a6
  have F7 := fun_mk (st := sTake) l7 c7 k7
  have b7 := F7.binds (ps := ["purse", "many"]) fun _ _ _ _ _ _ us hl => match us, hl with | [_, _], _ => rfl
  have m7 := PySem.W.mg_of X G a7
  have F8 := fun_mk (st := sForm) l8 c8 k8
  have b8 := F8.binds (ps := ["purse", "many", "most"]) fun _ _ _ _ _ _ us hl => match us, hl with | [_, _, _], _ => rfl
  have m8 := PySem.W.mg_of X G a8
  have F9 := fun_mk (st := sAdded) l9 c9 k9
  have b9 := F9.binds (ps := ["one", "other"]) fun _ _ _ _ _ _ us hl => match us, hl with | [_, _], _ => rfl
  have m9 := PySem.W.mg_of X G a9
  have F10 := fun_mk (st := sOften) l10 c10 k10
  have b10 := F10.binds (ps := ["form", "many"]) fun _ _ _ _ _ _ us hl => match us, hl with | [_, _], _ => rfl
  have m10 := PySem.W.mg_of X G a10
  have F11 := fun_mk (st := sKind) l11 c11 k11
  have b11 := F11.binds (ps := ["e"]) fun _ _ _ _ _ _ us hl => match us, hl with | [_], _ => rfl
  have m11 := PySem.W.mg_of X G a11
  have F12 := fun_mk (st := sHow) l12 c12 k12
  have b12 := F12.binds (ps := ["deed"]) fun _ _ _ _ _ _ us hl => match us, hl with | [_], _ => rfl
  have m12 := PySem.W.mg_of X G a12
  have F13 := fun_mk (st := sContrary) l13 c13 k13
  have b13 := F13.binds (ps := ["form"]) fun _ _ _ _ _ _ us hl => match us, hl with | [_], _ => rfl
  have m13 := PySem.W.mg_of X G a13
  have ex : ExcC K e3 := ⟨x0, x1, x2, x3, x4, x5, x6, x7⟩
  have A : KF K mg e3 cW (fun i => ([e0, e1, e2, e3, e4, e5, e6, e7, e8, e9, e10, e11, e12] : List Addr).getD i.val 0) := ⟨qV, PySem.W.mg_none_of X G zV, ex, PySem.W.mg_of X G aW, eW, PySem.W.mg_of X G n0, q0, PySem.W.mg_of X G n1, q1, PySem.W.mg_of X G n2, q2, PySem.W.mg_of X G n3, q3, PySem.W.mg_of X G n4, q4, PySem.W.mg_of X G n5, q5, PySem.W.mg_of X G n6, q6, PySem.W.mg_of X G n7, q7, PySem.W.mg_of X G n8, q8, PySem.W.mg_of X G n9, q9, PySem.W.mg_of X G n10, q10, PySem.W.mg_of X G n11, q11, PySem.W.mg_of X G n12, q12⟩
  have B : EF K mg e3 := ⟨PySem.W.mg_of X G n3, y0, y1, x2, y2⟩
  refine ⟨PySem.W.fnOf "law" "law" (defArgs sLaw) (defBody sLaw) (defScope sLaw) .none kVl dcl pml anl (.ref cc) ctl, [(cc, tb)], spLaw K tb, fun p hp => ?_, fun p hp => ?_, fun p hp => ?_, fun s v => .of_eq rfl, fun H a ns hl _ hT hS => ?_, fun base _ _ TB => ?_⟩
  · rw [List.mem_singleton.mp hp]
    exact own cc tb _ _ ecl ddl vs slc ll rfl rfl lc v11
  · rw [List.mem_singleton.mp hp]
    exact nt
  · rw [List.mem_singleton.mp hp]
    exact PySem.W.codeHd_of_K X ch
  · exact ⟨a, ns, rfl, hS, hl, hT _ (List.mem_singleton.mpr rfl), fun _ => rfl⟩
  have G0 := ok_whole (P := l.prog) (w := w) (mg := mg) (base := base) F0 T
  have G1 := ok_seqn (P := l.prog) (w := w) (mg := mg) (base := base) F1 T
  have G2 := ok_isForm (P := l.prog) (w := w) (mg := mg) (base := base) F2 F0 b0 m0 T
  have G5 := ok_lookX F5 G2 k2 b2 m2 B
  have G3 := ok_worth F3 G5 k5 b5 m5 G1 k1 b1 m1 G0 k0 b0 m0 T B
  have G4 := ok_holds F4 G3 k3 b3 m3
  have G6 := ok_purse (P := l.prog) (w := w) (mg := mg) (base := base) F6 T
  have G7 := ok_take (P := l.prog) (w := w) (K := K) (mg := mg) (base := base) F7
  have G8 := ok_form F8 G7 k7 b7 m7 T
  have G9 := ok_added F9 G5 k5 b5 m5 T B
  have G10 := ok_often F10 G5 k5 b5 m5 G0 k0 b0 m0 T B
  have G13 := ok_contrary F13 G10 k10 b10 m10
  have G11 := ok_kind (P := l.prog) (w := w) (mg := mg) (base := base) F11 T A
  exact ok_law ll cl G6 k6 b6 m6 G7 k7 b7 m7 G8 k8 b8 m8 G9 k9 b9 m9 G10 k10 b10 m10 G13 k13 b13 m13 G4 k4 b4 m4 G11 k11 b11 m11 l12 c12 k12 b12 m12 A eA T (TB _ (List.mem_singleton.mpr rfl))
end PF
open PySem PySem.W PyProof.Rows
set_option maxHeartbeats 0 in
theorem PySem.Challenge.cw_paperrows_k02_forms_put_together_holds : PySem.Challenge.rw_paperrows_k02_forms_put_together.Holds := by
  w_on; o_law; k_head; (case hw => w_witness2)
  k_fill
  refine LamX.walk_ofOwn (l := PySem.Challenge.rw_paperrows_k02_forms_put_together) (n := 63) (k := 8) (x := "script") (CX := fun _ => L2.CX0) rfl (by decide) rfl ⟨rfl, by decide, by decide⟩ (by decide +kernel) (fun w h Y => PySem.W.km_in_of Y) ?F (fun _ _ _ _ _ h => h)
  case F =>
    intro w mg fa h Y KX G hmg own
    refine' PF.all_mk KX G hmg own ?a0 ?l0 ?c0 ?k0 ?a1 ?l1 ?c1 ?k1 ?a2 ?l2 ?c2 ?k2 ?a3 ?l3 ?c3 ?k3 ?a4 ?l4 ?c4 ?k4 ?a5 ?l5 ?c5 ?k5 ?a6 ?l6 ?c6 ?k6 ?a7 ?l7 ?c7 ?k7 ?a8 ?l8 ?c8 ?k8 ?a9 ?l9 ?c9 ?k9 ?a10 ?l10 ?c10 ?k10 ?a11 ?l11 ?c11 ?k11 ?a12 ?l12 ?c12 ?k12 ?a13 ?l13 ?c13 ?k13 ?al ?ll ?cl ?lc ?v11 ?ch ?nt ?z0 ?z1 ?z2 ?z3 ?z4 ?z5 ?z6 ?z7 ?z8 ?z9 ?z10 ?z11 ?z12 ?zV ?aW ?n0 ?n1 ?n2 ?n3 ?n4 ?n5 ?n6 ?n7 ?n8 ?n9 ?n10 ?n11 ?n12 ?q0 ?q1 ?q2 ?q3 ?q4 ?q5 ?q6 ?q7 ?q8 ?q9 ?q10 ?q11 ?q12 ?qV ?eW ?eA ?x0 ?x1 ?x2 ?x3 ?x4 ?x5 ?x6 ?x7 ?y0 ?y1 ?y2
    (case a0 => k_is)
    (case l0 => k_is)
    (case c0 => k_is)
    (case k0 => k_is)
    (case a1 => k_is)
    (case l1 => k_is)
    (case c1 => k_is)
    (case k1 => k_is)
    (case a2 => k_is)
    (case l2 => k_is)
    (case c2 => k_is)
    (case k2 => k_is)
    (case a3 => k_is)
    (case l3 => k_is)
    (case c3 => k_is)
    (case k3 => k_is)
    (case a4 => k_is)
    (case l4 => k_is)
    (case c4 => k_is)
    (case k4 => k_is)
    (case a5 => k_is)
    (case l5 => k_is)
    (case c5 => k_is)
    (case k5 => k_is)
    (case a6 => k_is)
    (case l6 => k_is)
    (case c6 => k_is)
    (case k6 => k_is)
    (case a7 => k_is)
    (case l7 => k_is)
    (case c7 => k_is)
    (case k7 => k_is)
    (case a8 => k_is)
    (case l8 => k_is)
    (case c8 => k_is)
    (case k8 => k_is)
    (case a9 => k_is)
    (case l9 => k_is)
    (case c9 => k_is)
    (case k9 => k_is)
    (case a10 => k_is)
    (case l10 => k_is)
    (case c10 => k_is)
    (case k10 => k_is)
    (case a11 => k_is)
    (case l11 => k_is)
    (case c11 => k_is)
    (case k11 => k_is)
    (case a12 => k_is)
    (case l12 => k_is)
    (case c12 => k_is)
    (case k12 => k_is)
    (case a13 => k_is)
    (case l13 => k_is)
    (case c13 => k_is)
    (case k13 => k_is)
    (case al => k_is)
    (case ll => k_is)
    (case cl => k_is)
    (case lc => k_is)
    (case v11 => rfl)
    (case ch => kernel_rfl)
    (case nt => kernel_rfl)
    (case z0 => k_is)
    (case z1 => k_is)
    (case z2 => k_is)
    (case z3 => k_is)
    (case z4 => k_is)
    (case z5 => k_is)
    (case z6 => k_is)
    (case z7 => k_is)
    (case z8 => k_is)
    (case z9 => k_is)
    (case z10 => k_is)
    (case z11 => k_is)
    (case z12 => k_is)
    (case zV => k_is)
    (case aW => k_is)
    (case n0 => k_is)
    (case n1 => k_is)
    (case n2 => k_is)
    (case n3 => k_is)
    (case n4 => k_is)
    (case n5 => k_is)
    (case n6 => k_is)
    (case n7 => k_is)
    (case n8 => k_is)
    (case n9 => k_is)
    (case n10 => k_is)
    (case n11 => k_is)
    (case n12 => k_is)
    (case q0 => kernel_rfl)
    (case q1 => kernel_rfl)
    (case q2 => kernel_rfl)
    (case q3 => kernel_rfl)
    (case q4 => kernel_rfl)
    (case q5 => kernel_rfl)
    (case q6 => kernel_rfl)
    (case q7 => kernel_rfl)
    (case q8 => kernel_rfl)
    (case q9 => kernel_rfl)
    (case q10 => kernel_rfl)
    (case q11 => kernel_rfl)
    (case q12 => kernel_rfl)
    (case qV => kernel_rfl)
    (case eW => kernel_rfl)
    (case eA => kernel_rfl)
    (case x0 => k_is)
    (case x1 => k_is)
    (case x2 => k_is)
    (case x3 => k_is)
    (case x4 => k_is)
    (case x5 => k_is)
    (case x6 => k_is)
    (case x7 => k_is)
    (case y0 => kernel_rfl)
    (case y1 => k_is)
    (case y2 => k_is)
#print axioms PySem.Challenge.cw_paperrows_k02_forms_put_together_holds
