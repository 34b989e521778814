import PyProof.Rows.All
import Wide.All
import OpenK.AllK
import Wide.FinOn
import HandS.ForMost
import HandS.Zip0
import HandS.Zip
import HandS.Walk
import HandS.TupMul
import HandS.IsInst
import HandS.Wide
import HandS.WideMore
import HandS.TupLe
import HandS.TupAny
import HandS.ForExc
import HandS.Codes
import HandS.HotCalls
import HandS.ExcIs
import HandS.Lambda
import HandS.EndOwn
import HandS.CallSlots
import HandS.WordsExc
import KE.KTryMore
import PyProof.StrOps2
import HandS.Deep
import KE.KNestM
import PySem.Challenge.RW_paperrows_k03_forms_led
set_option Elab.async false
set_option linter.all false
set_option maxRecDepth 100000
set_option maxHeartbeats 8000000
/-! zip of a list or tuple with a list or tuple -/
namespace ZG
open PySem PySem.Spec PyProof.Rows L2
/-- a tuple (true) or a list (false) stands at l -/
def SeqH : Bool → Heap → Addr → Array Value → Prop
  | true, h, l, xs => h.IsTuple l xs
  | false, h, l, xs => h.IsList l xs
def IterH : Bool → Heap → Addr → Addr → Nat → Prop
  | true, h, it, l, k => h.IsTupleIter it l k
  | false, h, it, l, k => h.IsListIter it l k
def itName : Bool → String
  | true => "tuple_iterator"
  | false => "list_iterator"
def itObj (t : Bool) (l : Addr) : Obj := { cls := .type (itName t), data := .fields #[.ref l, .int 0 0] }
section
variable {prog : Program} {w : World} {A : Around} {E : Value → Shared → Prop} {st : Shared}
theorem SeqH.eb {t : Bool} {h g : Heap} {b l : Addr} {xs : Array Value} (q : SeqH t h l xs) (e : Heap.ExtBut b h g) (n : l ≠ b) : SeqH t g l xs := by
  cases t
  · exact Heap.IsList.extBut q e n
  · exact Heap.IsTuple.extBut q e n
theorem IterH.eb {t : Bool} {h g : Heap} {b it l : Addr} {k : Nat} (q : IterH t h it l k) (e : Heap.ExtBut b h g) (n : it ≠ b) : IterH t g it l k := by
  cases t
  · exact Heap.IsListIter.extBut q e n
  · exact Heap.IsTupleIter.extBut q e n
theorem IterH.to {t : Bool} {h g : Heap} {it l : Addr} {k : Nat} (q : IterH t h it l k) (e : ∀ o, h.get? it = some o → g.get? it = some o) : IterH t g it l k := by
  cases t
  · exact Heap.IsListIter.at q e
  · exact Heap.IsTupleIter.at q e
theorem IterH.lt {t : Bool} {h : Heap} {it l : Addr} {k : Nat} (q : IterH t h it l k) : it < h.objs.size := by
  cases t
  · obtain ⟨_, e, _⟩ := q
    exact Heap.lt_size e
  · obtain ⟨_, e, _⟩ := q
    exact Heap.lt_size e
theorem IterH.plain {t : Bool} {h : Heap} {it l : Addr} {k : Nat} (q : IterH t h it l k) : ∃ o, h.get? it = some o ∧ ∀ v, o.data ≠ .cell v := by
  cases t
  · obtain ⟨o, e, _, d⟩ := q
    exact ⟨o, e, fun v z => by rw [d] at z; cases z⟩
  · obtain ⟨o, e, _, d⟩ := q
    exact ⟨o, e, fun v z => by rw [d] at z; cases z⟩
theorem SeqH.psh {t : Bool} {h : Heap} {l : Addr} {xs : Array Value} (q : SeqH t h l xs) (o : Obj) : SeqH t (h.push o) l xs := by
  cases t
  · exact Heap.IsList.push q o
  · exact Heap.IsTuple.push q o
theorem nextG {t : Bool} {it l : Addr} {i : Nat} {its : Array Value} {x : Value} {Q : Value → Shared → Prop} (q1 : IterH t st.heap it l i)
    (q2 : SeqH t st.heap l its) (q3 : its[i]? = some x) (q4 : ∀ h', IterH t h' it l (i + 1) → Heap.SameBut it st.heap h' → Q x { st with heap := h' }) :
    wpAny (model prog w) A (Builtin.SmallTypes.nextOf (.ref it)) Q E st := by
  cases t
  · exact wpAny_nextOf_list_item q1 q2 q3 q4
  · exact RZ.nextOf_tuple_item q1 q2 q3 q4
theorem stopG {t : Bool} {it l : Addr} {i : Nat} {its : Array Value} {Q : Value → Shared → Prop} (q0 : A.handled = none) (q1 : IterH t st.heap it l i)
    (q2 : SeqH t st.heap l its) (q3 : its[i]? = none) (q4 : ∀ h' e, Heap.ExtBut it st.heap h' → (∃ o, h'.get? e = some o ∧ o.cls = .type "StopIteration") → E (.ref e) { st with heap := h' }) :
    wpAny (model prog w) A (Builtin.SmallTypes.nextOf (.ref it)) Q E st := by
  cases t
  · exact wpAny_nextOf_list_end q0 q1 q2 q3 q4
  · exact RZ.nextOf_tuple_end q0 q1 q2 q3 q4
theorem iterG {t : Bool} {l : Addr} {its : Array Value} {Q : Value → Shared → Prop} (q : SeqH t st.heap l its) (r : Q (.ref st.heap.objs.size) { st with heap := st.heap.push (itObj t l) }) :
    wpAny (model prog w) A (pyIter (.ref l)) Q E st := by
  cases t
  · exact wpAny_pyIter_list q r
  · exact wpAny_pyIter_tuple q r
theorem IterH.fresh (t : Bool) {h : Heap} {it l : Addr} (q : h.get? it = some (itObj t l)) : IterH t h it l 0 := by
  cases t
  · exact ⟨_, q, rfl, rfl⟩
  · exact ⟨_, q, rfl, rfl⟩
end
end ZG

namespace ZG
open PySem PySem.Spec PyProof.Rows L2
section
variable {prog : Program} {w : World} {A : Around} {E : Value → Shared → Prop} {st : Shared}
theorem zipG_item {ta tb : Bool} {zz ti tO ia ib la lb : Addr} {ka kb : Nat} {va vb : Array Value} {x y a b : Value} {Q : Value → Shared → Prop} (D : ZipApart zz ti tO ia ib la lb)
    (gz : IsZip st.heap zz ti tO .none) (gi : IsPair st.heap ti (.ref ia) (.ref ib)) (gO : IsPair st.heap tO a b)
    (ga : IterH ta st.heap ia la ka) (gb : IterH tb st.heap ib lb kb) (sa : SeqH ta st.heap la va) (sb : SeqH tb st.heap lb vb) (ex : va[ka]? = some x) (ey : vb[kb]? = some y)
    (gQ : ∀ h', IsZip h' zz ti tO (rawInt st.heap.objs.size) → IsPair h' tO x y → IterH ta h' ia la (ka + 1) → IterH tb h' ib lb (kb + 1) → IsPair h' st.heap.objs.size x y → h'.objs.size = st.heap.objs.size + 1 →
      (∀ c o, c ≠ zz → c ≠ tO → c ≠ ia → c ≠ ib → st.heap.get? c = some o → h'.get? c = some o) → Q (.ref st.heap.objs.size) { st with heap := h' }) :
    wpAny (model prog w) A (Builtin.«zip.__next__» ⟨[.ref zz], []⟩) (fun fin s' => ∃ v, fin = .done (.ret v) ∧ Q v s') E st := by
  show wpAny _ _ (field (.ref zz) 2 >>= _) _ _ _
  refine wpAny_bind (wpAny_field gz rfl (x := .bool false) rfl ?_)
  show wpAny _ _ (field (.ref zz) 3 >>= _) _ _ _
  refine wpAny_bind (wpAny_field gz rfl (x := .ref ti) rfl ?_)
  refine wpAny_bind (wpAny_seqItems gi rfl ?_)
  show wpAny _ _ (Builtin.SmallTypes.ownedTupleIsFree (.ref zz) >>= _) _ _ _
  refine wpAny_bind ?_
  unfold Builtin.SmallTypes.ownedTupleIsFree
  refine wpAny_bind (wpAny_field gz rfl (x := .none) rfl (wpAny_pure ?_))
  simp only [if_true]
  refine wpAny_bind (wpAny_rule ?_)
  refine wpAny_bind (wpAny_field gz rfl (x := .ref tO) rfl ?_)
  refine wpAny_bind (wpAny_setField_rec gz (by simp) fun j1 z1 m1 => ?_)
  replace z1 : IsZip j1 zz ti tO .ellipsis := z1
  refine wpAny_bind ?_
  simp only [List.forIn_cons, List.forIn_nil, List.zipIdx_cons, List.zipIdx_nil]
  refine wpAny_bind (wpAny_bind (wpAny_onRaise ?_))
  show wpAny _ _ (Builtin.SmallTypes.nextOf (.ref ia) >>= _) _ _ _
  refine wpAny_bind (nextG (ga.eb m1.extBut D.i1z) (sa.eb m1.extBut D.l1z) ex fun j2 i2 m2 => wpAny_pure ?_)
  have o2 : IsPair j2 tO a b := m2.extBut _ _ D.TOi1 (m1.extBut _ _ D.TOz gO)
  refine wpAny_bind (wpAny_seqItems o2 rfl ?_)
  refine wpAny_bind (wpAny_updateSeq_pair o2 fun j3 o3 m3 => ?_)
  replace o3 : IsPair j3 tO x b := o3
  refine wpAny_bind (wpAny_letGo (wpAny_pure ?_))
  refine wpAny_bind (wpAny_bind (wpAny_onRaise ?_))
  show wpAny _ _ (Builtin.SmallTypes.nextOf (.ref ib) >>= _) _ _ _
  refine wpAny_bind (nextG (((gb.eb m1.extBut D.i2z).eb m2.extBut D.i12.symm).eb m3.extBut D.TOi2.symm)
    (((sb.eb m1.extBut D.l2z).eb m2.extBut D.l2i1).eb m3.extBut D.l2TO) ey fun j4 i4 m4 => wpAny_pure ?_)
  have o4 : IsPair j4 tO x b := m4.extBut _ _ D.TOi2 o3
  refine wpAny_bind (wpAny_seqItems o4 rfl ?_)
  refine wpAny_bind (wpAny_updateSeq_pair o4 fun j5 o5 m5 => ?_)
  replace o5 : IsPair j5 tO x y := o5
  refine wpAny_bind (wpAny_letGo (wpAny_pure (wpAny_pure ?_)))
  refine wpAny_bind (wpAny_seqItems o5 rfl ?_)
  refine wpAny_bind (wpAny_newTuple ?_)
  have es : j5.objs.size = st.heap.objs.size := by rw [m5.1, m4.1, m3.1, m2.1, m1.1]
  have z5 : IsZip j5 zz ti tO .ellipsis := m5.extBut _ _ D.TOz.symm (m4.extBut _ _ D.i2z.symm (m3.extBut _ _ D.TOz.symm (m2.extBut _ _ D.i1z.symm z1)))
  have k5 : ∀ c o, c ≠ zz → c ≠ tO → c ≠ ia → c ≠ ib → st.heap.get? c = some o → j5.get? c = some o := fun c o c1 c2 c3 c4 e =>
    m5.extBut _ _ c2 (m4.extBut _ _ c4 (m3.extBut _ _ c2 (m2.extBut _ _ c3 (m1.extBut _ _ c1 e))))
  have a5 : IterH ta j5 ia la (ka + 1) := ((i2.eb m3.extBut D.TOi1.symm).eb m4.extBut D.i12).eb m5.extBut D.TOi1.symm
  have b5 : IterH tb j5 ib lb (kb + 1) := i4.eb m5.extBut D.TOi2.symm
  have lz : zz < j5.objs.size := Heap.lt_size z5
  show wpAny _ _ (Builtin.SmallTypes.ownedTupleHandOut (.ref zz) (.ref j5.objs.size) >>= _) _ _ _
  refine wpAny_bind ?_
  unfold Builtin.SmallTypes.ownedTupleHandOut
  have z6 : IsZip (j5.push { cls := .type "tuple", data := .seq #[x, y] }) zz ti tO .ellipsis := Heap.get?_push_of_some _ z5
  refine wpAny_bind (wpAny_setField_rec z6 (by simp) fun j7 z7 m7 => ?_)
  replace z7 : IsZip j7 zz ti tO (rawInt j5.objs.size) := z7
  refine wpAny_setField_rec z7 (by simp) fun j8 z8 m8 => ?_
  replace z8 : IsZip j8 zz ti tO (rawInt j5.objs.size) := z8
  have up : ∀ c o, c ≠ zz → j5.get? c = some o → j8.get? c = some o := fun c o c1 e => m8.extBut _ _ c1 (m7.extBut _ _ c1 (Heap.get?_push_of_some _ e))
  have t8 : IsPair j8 j5.objs.size x y := m8.extBut _ _ (Nat.ne_of_gt lz) (m7.extBut _ _ (Nat.ne_of_gt lz) (Heap.get?_push_size _ rfl))
  have s8 : j8.objs.size = j5.objs.size + 1 := by rw [m8.1, m7.1, Heap.size_push]
  rw [es] at z8 t8 s8
  refine wpAny_pure ⟨_, rfl, ?_⟩
  show Q (.ref j5.objs.size) _
  rw [es]
  exact gQ j8 z8 (up _ _ D.TOz o5) (a5.to fun o e => up _ o D.i1z e) (b5.to fun o e => up _ o D.i2z e) t8 s8 fun c o c1 c2 c3 c4 e => up c o c1 (k5 c o c1 c2 c3 c4 e)
theorem zipG_end {ta tb : Bool} {zz ti tO ia ib la lb : Addr} {ka kb : Nat} {va vb : Array Value} {a b : Value} {Q : Fin → Shared → Prop} (g0 : A.handled = none) (D : ZipApart zz ti tO ia ib la lb)
    (gz : IsZip st.heap zz ti tO .none) (gi : IsPair st.heap ti (.ref ia) (.ref ib)) (gO : IsPair st.heap tO a b)
    (ga : IterH ta st.heap ia la ka) (gb : IterH tb st.heap ib lb kb) (sa : SeqH ta st.heap la va) (sb : SeqH tb st.heap lb vb) (he : va[ka]? = none ∨ vb[kb]? = none)
    (gE : ∀ h' e, (∀ c o, c ≠ zz → c ≠ tO → c ≠ ia → c ≠ ib → st.heap.get? c = some o → h'.get? c = some o) → (∃ o, h'.get? e = some o ∧ o.cls = .type "StopIteration") → E (.ref e) { st with heap := h' }) :
    wpAny (model prog w) A (Builtin.«zip.__next__» ⟨[.ref zz], []⟩) Q E st := by
  show wpAny _ _ (field (.ref zz) 2 >>= _) _ _ _
  refine wpAny_bind (wpAny_field gz rfl (x := .bool false) rfl ?_)
  show wpAny _ _ (field (.ref zz) 3 >>= _) _ _ _
  refine wpAny_bind (wpAny_field gz rfl (x := .ref ti) rfl ?_)
  refine wpAny_bind (wpAny_seqItems gi rfl ?_)
  show wpAny _ _ (Builtin.SmallTypes.ownedTupleIsFree (.ref zz) >>= _) _ _ _
  refine wpAny_bind ?_
  unfold Builtin.SmallTypes.ownedTupleIsFree
  refine wpAny_bind (wpAny_field gz rfl (x := .none) rfl (wpAny_pure ?_))
  simp only [if_true]
  refine wpAny_bind (wpAny_rule ?_)
  refine wpAny_bind (wpAny_field gz rfl (x := .ref tO) rfl ?_)
  refine wpAny_bind (wpAny_setField_rec gz (by simp) fun j1 z1 m1 => ?_)
  replace z1 : IsZip j1 zz ti tO .ellipsis := z1
  refine wpAny_bind ?_
  simp only [List.forIn_cons, List.forIn_nil, List.zipIdx_cons, List.zipIdx_nil]
  refine wpAny_bind (wpAny_bind (wpAny_onRaise ?_))
  show wpAny _ _ (Builtin.SmallTypes.nextOf (.ref ia) >>= _) _ _ _
  cases ex : va[ka]? with
  | none =>
    refine wpAny_bind (stopG g0 (ga.eb m1.extBut D.i1z) (sa.eb m1.extBut D.l1z) ex fun j2 e m2 ge => ?_)
    obtain ⟨oe, goe, gce⟩ := ge
    have z2 : IsZip j2 zz ti tO .ellipsis := m2 _ _ D.i1z.symm z1
    have nez : e ≠ zz := fun x => by subst x; rw [z2] at goe; cases goe; simp at gce
    refine wpAny_setField_rec z2 (by simp) fun j3 _ m3 => gE j3 e (fun c o c1 _ c3 _ x => m3.extBut _ _ c1 (m2 _ _ c3 (m1.extBut _ _ c1 x))) ⟨oe, m3.extBut _ _ nez goe, gce⟩
  | some x =>
    have ey : vb[kb]? = none := by
      rcases he with h | h
      · rw [ex] at h
        cases h
      · exact h
    refine wpAny_bind (nextG (ga.eb m1.extBut D.i1z) (sa.eb m1.extBut D.l1z) ex fun j2 i2 m2 => wpAny_pure ?_)
    have o2 : IsPair j2 tO a b := m2.extBut _ _ D.TOi1 (m1.extBut _ _ D.TOz gO)
    refine wpAny_bind (wpAny_seqItems o2 rfl ?_)
    refine wpAny_bind (wpAny_updateSeq_pair o2 fun j3 o3 m3 => ?_)
    refine wpAny_bind (wpAny_letGo (wpAny_pure ?_))
    refine wpAny_bind (wpAny_bind (wpAny_onRaise ?_))
    show wpAny _ _ (Builtin.SmallTypes.nextOf (.ref ib) >>= _) _ _ _
    refine wpAny_bind (stopG g0 (((gb.eb m1.extBut D.i2z).eb m2.extBut D.i12.symm).eb m3.extBut D.TOi2.symm)
      (((sb.eb m1.extBut D.l2z).eb m2.extBut D.l2i1).eb m3.extBut D.l2TO) ey fun j4 e m4 ge => ?_)
    obtain ⟨oe, goe, gce⟩ := ge
    have z4 : IsZip j4 zz ti tO .ellipsis := m4 _ _ D.i2z.symm (m3.extBut _ _ D.TOz.symm (m2.extBut _ _ D.i1z.symm z1))
    have nez : e ≠ zz := fun x => by subst x; rw [z4] at goe; cases goe; simp at gce
    refine wpAny_setField_rec z4 (by simp) fun j5 _ m5 => gE j5 e (fun c o c1 c2 c3 c4 x => m5.extBut _ _ c1 (m4 _ _ c4 (m3.extBut _ _ c2 (m2.extBut _ _ c3 (m1.extBut _ _ c1 x))))) ⟨oe, m5.extBut _ _ nez goe, gce⟩
theorem pyNextG_item {ta tb : Bool} {zz ti tO ia ib la lb : Addr} {ka kb : Nat} {va vb : Array Value} {x y a b : Value} {Q : Option Value → Shared → Prop} (D : ZipApart zz ti tO ia ib la lb)
    (gz : IsZip st.heap zz ti tO .none) (gi : IsPair st.heap ti (.ref ia) (.ref ib)) (gO : IsPair st.heap tO a b)
    (ga : IterH ta st.heap ia la ka) (gb : IterH tb st.heap ib lb kb) (sa : SeqH ta st.heap la va) (sb : SeqH tb st.heap lb vb) (ex : va[ka]? = some x) (ey : vb[kb]? = some y)
    (gQ : ∀ h', IsZip h' zz ti tO (rawInt st.heap.objs.size) → IsPair h' tO x y → IterH ta h' ia la (ka + 1) → IterH tb h' ib lb (kb + 1) → IsPair h' st.heap.objs.size x y → h'.objs.size = st.heap.objs.size + 1 →
      (∀ c o, c ≠ zz → c ≠ tO → c ≠ ia → c ≠ ib → st.heap.get? c = some o → h'.get? c = some o) → Q (some (.ref st.heap.objs.size)) { st with heap := h' }) :
    wpAny (model prog w) A (pyNext (.ref zz)) Q E st := by
  have tz : st.TypeIs (.ref zz) "zip" := ⟨_, gz, rfl⟩
  unfold pyNext
  exact wpAny_bind (wpAny_attempt (wpAny_callSpecial?_slot (name := Str.ofString "__next__") tz F.slot_zip_next
    (wpAny_call_entry F.slot_zip_next tz F.entry_zip_next
      (zipG_item D gz gi gO ga gb sa sb ex ey fun h' a1 a2 a3 a4 a5 a6 a7 => wpAny_pure (gQ h' a1 a2 a3 a4 a5 a6 a7)) (F.args_zip_next_1 _))))
theorem pyNextG_end {ta tb : Bool} {zz ti tO ia ib la lb : Addr} {ka kb : Nat} {va vb : Array Value} {a b : Value} {Q : Option Value → Shared → Prop} (g0 : A.handled = none) (D : ZipApart zz ti tO ia ib la lb)
    (gz : IsZip st.heap zz ti tO .none) (gi : IsPair st.heap ti (.ref ia) (.ref ib)) (gO : IsPair st.heap tO a b)
    (ga : IterH ta st.heap ia la ka) (gb : IterH tb st.heap ib lb kb) (sa : SeqH ta st.heap la va) (sb : SeqH tb st.heap lb vb) (he : va[ka]? = none ∨ vb[kb]? = none)
    (gQ : ∀ h', (∀ c o, c ≠ zz → c ≠ tO → c ≠ ia → c ≠ ib → st.heap.get? c = some o → h'.get? c = some o) → Q none { st with heap := h' }) : wpAny (model prog w) A (pyNext (.ref zz)) Q E st := by
  have tz : st.TypeIs (.ref zz) "zip" := ⟨_, gz, rfl⟩
  unfold pyNext
  refine wpAny_bind (wpAny_attempt (wpAny_callSpecial?_slot (name := Str.ofString "__next__") tz F.slot_zip_next
    (wpAny_call_entry F.slot_zip_next tz F.entry_zip_next (zipG_end g0 D gz gi gO ga gb sa sb he fun h' e gk ge => ?_) (F.args_zip_next_1 _))))
  obtain ⟨o, go, gc⟩ := ge
  refine wpAny_bind (wpAny_isInstance (T := "StopIteration") (b := true) ⟨o, go, gc⟩ isSubtype_stop ?_)
  exact wpAny_pure (gQ _ gk)
end
abbrev gz1 (ta : Bool) (h : Heap) (la : Addr) : Heap := h.push (itObj ta la)
abbrev gz2 (ta tb : Bool) (h : Heap) (la lb : Addr) : Heap := (gz1 ta h la).push (itObj tb lb)
abbrev gz3 (ta tb : Bool) (h : Heap) (la lb : Addr) : Heap := (gz2 ta tb h la lb).push { cls := .type "tuple", data := .seq #[.ref h.objs.size, .ref (gz1 ta h la).objs.size] }
abbrev gz4 (ta tb : Bool) (h : Heap) (la lb : Addr) : Heap := (gz3 ta tb h la lb).push { cls := .type "tuple", data := .seq #[.none, .none] }
abbrev gz5 (ta tb : Bool) (h : Heap) (la lb : Addr) : Heap := (gz4 ta tb h la lb).push { cls := .type "zip", data := .fields #[.none, .bool false, .bool false, .ref (gz2 ta tb h la lb).objs.size, .ref (gz3 ta tb h la lb).objs.size] }
theorem meetsG (ta tb : Bool) (la lb : Addr) (va vb : Array Value) :
    Meets (Builtin.«zip.__new__» ⟨[.type "zip", .ref la, .ref lb], []⟩) (fun _ R s => SeqH ta s.heap la va ∧ SeqH tb s.heap lb vb ∧
      R (.ok (.ret (.ref (gz4 ta tb s.heap la lb).objs.size))) { s with heap := gz5 ta tb s.heap la lb }) :=
  .of_wp fun prog w A R s h => by
    obtain ⟨hp, g, d, tk, os⟩ := s
    obtain ⟨sa, sb, h⟩ := h
    have hsub := sub_zip
    have ha : SeqH ta (Shared.heap ⟨hp, g, d, tk, os⟩) la va := sa
    have hb : SeqH tb (Shared.heap ⟨hp.push (itObj ta la), g, d, tk, os⟩) lb vb := sb.psh _
    wp_walk using iterG ha, iterG hb
    exact ⟨_, rfl, h⟩
section
variable {prog : Program} {w : World} {A : Around} {E : Value → Shared → Prop} {st : Shared}
theorem callG {ta tb : Bool} {la lb : Addr} {va vb : Array Value} {Q : Value → Shared → Prop} (sa : SeqH ta st.heap la va) (sb : SeqH tb st.heap lb vb)
    (h : ∀ h', IsZip h' (st.heap.objs.size + 4) (st.heap.objs.size + 2) (st.heap.objs.size + 3) .none → IsPair h' (st.heap.objs.size + 2) (.ref st.heap.objs.size) (.ref (st.heap.objs.size + 1)) →
      IsPair h' (st.heap.objs.size + 3) .none .none → IterH ta h' st.heap.objs.size la 0 → IterH tb h' (st.heap.objs.size + 1) lb 0 → h'.objs.size = st.heap.objs.size + 5 →
      (∀ c o, st.heap.get? c = some o → h'.get? c = some o) → Q (.ref (st.heap.objs.size + 4)) { st with heap := h' }) :
    wpAny (model prog w) A (call (.type "zip") [.ref la, .ref lb]) Q E st := by
  refine callType_new F.called_zip (by decide) (F.typeCall_zip_2 _ _) (F.newCall_zip_2 _ _) (fun obj => F.args_object_init_3 obj _ _) F.entry_zip_new
    (meetsG ta tb la lb va vb) ⟨sa, sb, ?_⟩
  have z1 : (gz1 ta st.heap la).objs.size = st.heap.objs.size + 1 := Heap.size_push ..
  have z2 : (gz2 ta tb st.heap la lb).objs.size = st.heap.objs.size + 2 := by rw [Heap.size_push, z1]
  have z3 : (gz3 ta tb st.heap la lb).objs.size = st.heap.objs.size + 3 := by rw [Heap.size_push, z2]
  have z4 : (gz4 ta tb st.heap la lb).objs.size = st.heap.objs.size + 4 := by rw [Heap.size_push, z3]
  have z5 : (gz5 ta tb st.heap la lb).objs.size = st.heap.objs.size + 5 := by rw [Heap.size_push, z4]
  have g5 : (gz5 ta tb st.heap la lb).get? (gz4 ta tb st.heap la lb).objs.size = some _ := Heap.get?_push_size _ rfl
  have g4 : (gz5 ta tb st.heap la lb).get? (gz3 ta tb st.heap la lb).objs.size = some _ := Heap.get?_push_of_some _ (Heap.get?_push_size _ rfl)
  have g3 : (gz5 ta tb st.heap la lb).get? (gz2 ta tb st.heap la lb).objs.size = some _ := Heap.get?_push_of_some _ (Heap.get?_push_of_some _ (Heap.get?_push_size _ rfl))
  have g2 : (gz5 ta tb st.heap la lb).get? (gz1 ta st.heap la).objs.size = some _ := Heap.get?_push_of_some _ (Heap.get?_push_of_some _ (Heap.get?_push_of_some _ (Heap.get?_push_size _ (by rfl))))
  have g1 : (gz5 ta tb st.heap la lb).get? st.heap.objs.size = some _ := Heap.get?_push_of_some _ (Heap.get?_push_of_some _ (Heap.get?_push_of_some _ (Heap.get?_push_of_some _ (Heap.get?_push_size _ (by rfl)))))
  show _ ∧ _
  rw [z2, z3, z4] at g5
  rw [z1, z2] at g3
  rw [z3] at g4
  rw [z1] at g2
  rw [z4]
  exact ⟨⟨_, g5, rfl⟩, h _ g5 g3 g4 (IterH.fresh ta g1) (IterH.fresh tb g2) z5 fun c o x =>
    Heap.get?_push_of_some _ (Heap.get?_push_of_some _ (Heap.get?_push_of_some _ (Heap.get?_push_of_some _ (Heap.get?_push_of_some _ x))))⟩
end
/-! ### at the layer's level -/
def SqG : Bool → PySem.W.Frag → Hp → Addr → List V → Prop
  | true, K, H, a, xs => SqT K H a xs
  | false, K, H, a, xs => SqL K H a xs
theorem SqG.inv {X : Cx} {pins : List (Addr × Obj)} {σ : L2.St} {H : Hp} {s : Shared} {t : Bool} {a : Addr} {xs : List V} (q : SqG t X.K H a xs) (I : Inv X pins σ H s) : ∃ its : List Value, Vals xs its ∧ SeqH t s.heap a its.toArray := by
  cases t
  · obtain ⟨its, rv, p, _⟩ := I.list q
    exact ⟨its, rv, p.isList⟩
  · obtain ⟨its, rv, p, _⟩ := I.tuple q
    exact ⟨its, rv, p⟩
theorem SqG.inj {X : Cx} {pins : List (Addr × Obj)} {σ : L2.St} {H : Hp} {s : Shared} {t : Bool} {a : Addr} {xs ys : List V} (q : SqG t X.K H a xs) (q' : SqG t X.K H a ys) (I : Inv X pins σ H s) : xs = ys := by
  cases t
  · exact I.list_inj q q'
  · exact I.tuple_inj q q'
theorem SeqH.lt {t : Bool} {h : Heap} {l : Addr} {xs : Array Value} (q : SeqH t h l xs) : l < h.objs.size := by
  cases t
  · obtain ⟨_, e⟩ := q
    first | exact Heap.lt_size e.1 | exact Heap.lt_size e.choose_spec.1
  · obtain ⟨_, e, _⟩ := q
    exact Heap.lt_size e
/-- what stands at a and at b, of the kinds ta and tb, in new pairs -/
def ItG (K : PySem.W.Frag) (ta tb : Bool) (a b : Addr) : It :=
  ⟨fun i H => ∃ (xs ys : List V) (x y : V), SqG ta K H a xs ∧ SqG tb K H b ys ∧ xs[i]? = some x ∧ ys[i]? = some y,
    fun i H v H' => ∃ T x y, v = .ref T ∧ H T = none ∧ H' = upd H T (.tup [x, y]) ∧ (∀ xs, SqG ta K H a xs → xs[i]? = some x) ∧ ∀ ys, SqG tb K H b ys → ys[i]? = some y,
    fun i H => ∃ xs ys : List V, SqG ta K H a xs ∧ SqG tb K H b ys ∧ (xs.length ≤ i ∨ ys.length ≤ i)⟩
theorem turnG {P : Program} {w : World} {K : PySem.W.Frag} {elts : List Expr} {kk : Nat} {tpos : Pos} {ta tb : Bool} {a b zz ti tO ia ib : Addr} (D : ZipApart zz ti tO ia ib a b) :
    Turn P w K (.Tuple elts kk tpos) (ItG K ta tb a b) [zz, ti, tO, ia, ib] zz (fun i h => IsZip h zz ti tO .none ∧ IsPair h ti (.ref ia) (.ref ib) ∧ (∃ x y, IsPair h tO x y) ∧ IterH ta h ia a i ∧ IterH tb h ib b i) where
  mem := by simp
  obj := fun i h st c hc => by
    obtain ⟨gz, gi, ⟨x, y, gO⟩, ga, gb⟩ := st
    have e' : c = zz ∨ c = ti ∨ c = tO ∨ c = ia ∨ c = ib := by simpa using hc
    rcases e' with q | q | q | q | q
    · subst q; exact ⟨_, gz, fun v q => nomatch q⟩
    · subst q; exact ⟨_, gi, fun v q => nomatch q⟩
    · subst q; exact ⟨_, gO, fun v q => nomatch q⟩
    · subst q; exact ga.plain
    · subst q; exact gb.plain
  keep := fun i h h' st k => by
    obtain ⟨gz, gi, ⟨x, y, gO⟩, ga, gb⟩ := st
    exact ⟨k zz (by simp) _ gz, k ti (by simp) _ gi, ⟨x, y, k tO (by simp) _ gO⟩, ga.to fun o q => k ia (by simp) o q, gb.to fun o q => k ib (by simp) o q⟩
  item := by
    intro X hP hw hK hc i pins s σ H E I hf st hg
    subst hP hw hK
    obtain ⟨gz, gi, ⟨x0, y0, gO⟩, ga, gb⟩ := st
    obtain ⟨xs, ys, x, y, qx, qy, ex, ey⟩ := hg
    obtain ⟨its, rv, p⟩ := qx.inv I
    obtain ⟨its2, rv2, p2⟩ := qy.inv I
    obtain ⟨u, hu, ru⟩ := rv.get ex
    obtain ⟨u2, hu2, ru2⟩ := rv2.get ey
    have lz : zz < s.heap.objs.size := Heap.lt_size gz
    refine pyNextG_item D gz gi gO ga gb p p2 (x := u) (y := u2) (by simpa using hu) (by simpa using hu2) fun h' z' o' a' b' hT hsz hk => ?_
    refine ⟨_, rfl, wpAny_letOwnedTupleGo_zip (s := { s with heap := h' }) z' fun h'' z'' sb => ?_⟩
    have hT2 : h''.get? s.heap.objs.size = some { cls := .type "tuple", data := .seq #[u, u2] } := (sb.2 _ (Nat.ne_of_gt lz)).trans hT
    have new : ObjOk X.prog X.w (upd H s.heap.objs.size (.tup [x, y])) h'' s.heap.objs.size (.tup [x, y]) :=
      ⟨(by decide : 2 ≤ sizeLine), [u, u2], .cons ru (.cons ru2 .nil), ⟨_, hT2, rfl, _, rfl⟩⟩
    have I1 : Inv X pins σ (upd H s.heap.objs.size (.tup [x, y])) { s with heap := h'' } :=
      I.turnedNew (t' := s.toks) (ch := [zz, ti, tO, ia, ib]) (fun c o hb q => (sb.2 c (fun q' => hb (by simp [q']))).trans (hk c o (fun q' => hb (by simp [q'])) (fun q' => hb (by simp [q'])) (fun q' => hb (by simp [q'])) (fun q' => hb (by simp [q'])) q)) hf (Nat.le_refl _) new
    refine ⟨.ref s.heap.objs.size, _, I1, rfl, ⟨_, x, y, rfl, I.hok.fresh (Nat.le_refl _), rfl, fun l hl => by rw [SqG.inj hl qx I]; exact ex, fun l hl => by rw [SqG.inj hl qy I]; exact ey⟩, ⟨z'', ?_, ⟨u, u2, ?_⟩, ?_, ?_⟩, fun c hcm => ?_⟩
    · exact (sb.2 _ D.TIz).trans (hk _ _ D.TIz D.TITO D.TIi1 D.TIi2 gi)
    · exact (sb.2 _ D.TOz).trans o'
    · exact a'.to fun o q => (sb.2 _ D.i1z).trans q
    · exact b'.to fun o q => (sb.2 _ D.i2z).trans q
    · have lc : c < s.heap.objs.size := by
        have e' : c = zz ∨ c = ti ∨ c = tO ∨ c = ia ∨ c = ib := by simpa using hcm
        rcases e' with q | q | q | q | q
        · subst q; exact lz
        · subst q; exact Heap.lt_size gi
        · subst q; exact Heap.lt_size gO
        · subst q; exact ga.lt
        · subst q; exact gb.lt
      rw [upd_ne (Nat.ne_of_lt lc)]
      exact (hf c hcm).1
  done := by
    intro X hP hw hK hc i pins s σ H E I hf st hg
    subst hP hw hK
    obtain ⟨gz, gi, ⟨x0, y0, gO⟩, ga, gb⟩ := st
    obtain ⟨xs, ys, qx, qy, hend⟩ := hg
    obtain ⟨its, rv, p⟩ := qx.inv I
    obtain ⟨its2, rv2, p2⟩ := qy.inv I
    have l1 := rv.length
    have l2 := rv2.length
    have he : its.toArray[i]? = none ∨ its2.toArray[i]? = none := by
      rcases hend with q | q
      · left; simp; omega
      · right; simp; omega
    exact pyNextG_end (I.ok.hd hc) D gz gi gO ga gb p p2 he fun h' hk => ⟨rfl, I.turnedL (t' := s.toks) (ch := [zz, ti, tO, ia, ib]) (fun c o hb q =>
      hk c o (fun q' => hb (by simp [q'])) (fun q' => hb (by simp [q'])) (fun q' => hb (by simp [q'])) (fun q' => hb (by simp [q'])) q) hf⟩
  self := fun A i s Q E st h => wpAny_pyIter_zip st.1 h
def iZipG (K : PySem.W.Frag) (ta : TA) : TI := fun σ H R => ta σ H fun vs H1 => ∃ t1 t2 a b xs ys, vs = [.ref a, .ref b] ∧ SqG t1 K H1 a xs ∧ SqG t2 K H1 b ys ∧ R (ItG K t1 t2 a b) H1
theorem pi_zipG {X : Cx} {e e2 : Expr} {ta : TA} {p pos tpos : Pos} {elts : List Expr} {kk : Nat} (hg : Gl X "zip") (hm : X.mg "zip" = none) (ha : PA X [e, e2] ta)
    (hs : starEach [e, e2] X.env = (false, eval e X.env) :: starEach [e2] X.env := by rfl) (hpl : (backTo pos (starEach [e2] X.env)).any (fun z => z.1) = false := by rfl) :
    PI X (.Tuple elts kk tpos) (.Call (.Name "zip" p) [e, e2] [] pos) (iZipG X.K ta) := by
  refine ⟨fun pins s σ H R I h => ?_⟩
  refine Call_ (ld_blt I hg hm PyProof.Rows.boot_zip (PyProof.Rows.callWith_type1 (thn (ha.run pos pins s σ H _ I h) fun us s1 ⟨vs, H1, I1, r1, q1⟩ => ?_) hs hpl))
  obtain ⟨t1, t2, a, b, xs, ys, ez, qx, qy, q⟩ := q1
  subst ez
  cases r1 with
  | cons r rr =>
    cases rr with
    | cons r' rr =>
      cases rr
      cases r
      cases r'
      obtain ⟨its, rv, p1⟩ := qx.inv I1
      obtain ⟨its2, rv2, p2⟩ := qy.inv I1
      refine callG p1 p2 fun h' gz gi gO ga gb hsz hk => wpAny_pyIter_zip gz ?_
      have I2 : Inv X pins σ H1 { s1 with heap := h' } := I1.kept (t' := s1.toks) hk
      refine ⟨s1.heap.objs.size + 4, [s1.heap.objs.size + 4, s1.heap.objs.size + 2, s1.heap.objs.size + 3, s1.heap.objs.size, s1.heap.objs.size + 1], _, _, H1, rfl, I2, turnG (PySem.W.ktu_apart s1.heap.objs.size a b p1.lt p2.lt), ⟨gz, gi, ⟨_, _, gO⟩, ga, gb⟩, fun c hcm => ?_, q⟩
      have e' : c = s1.heap.objs.size + 4 ∨ c = s1.heap.objs.size + 2 ∨ c = s1.heap.objs.size + 3 ∨ c = s1.heap.objs.size ∨ c = s1.heap.objs.size + 1 := by simpa using hcm
      have le : s1.heap.objs.size ≤ c := by
        rcases e' with q | q | q | q | q <;> rw [q] <;> first | exact Nat.le_add_right _ _ | exact Nat.le_refl _
      exact I1.fpOk le (I1.hok.fresh le)
theorem walkG {K : PySem.W.Frag} {ta tb : Bool} {a b : Addr} {xs ys : List V} {n : Nat} (hn : n = min xs.length ys.length) : Walk (ItG K ta tb a b) n (fun H => SqG ta K H a xs ∧ SqG tb K H b ys) (YPair (fun i => xs[i]?) (fun i => ys[i]?)) := by
  subst hn
  refine ⟨fun i H hi q => ?_, fun H q => ⟨xs, ys, q.1, q.2, by omega⟩, fun i H v H' hi q y => ?_⟩
  · have g1 : i < xs.length := by omega
    have g2 : i < ys.length := by omega
    exact ⟨xs, ys, xs[i], ys[i], q.1, q.2, by simp [g1], by simp [g2]⟩
  · obtain ⟨T, x, z, e1, e2, e3, e4, e5⟩ := y
    exact ⟨T, x, z, e1, e2, e3, e4 xs q.1, e5 ys q.2⟩
end ZG

namespace ZG
open PySem PySem.Spec PyProof.Rows L2
theorem mul_one (l : Addr) (its : Array Value) (n : Nat) (dd : Option Addr) (sl : Array (Option Value)) (u : Tok) :
    Meets (Builtin.«tuple.__mul__» ⟨[.ref l, .int 1 u], []⟩) (fun _ R s => s.heap.get? l = some { cls := .type "tuple", dict := dd, data := .seq its n, slots := sl } ∧
      R (.ok (.ret (Value.ref l))) s) :=
  .of_wp fun prog w A R s h => by
    obtain ⟨hp, g, d, tk, os⟩ := s
    obtain ⟨hl, h⟩ := h
    have f1 := AutoSeq1.idx_int
    wp_walk using wpAny_loadPart' hl
    exact ⟨_, rfl, h⟩
theorem mul_none (l : Addr) (its : Array Value) (n : Nat) (dd : Option Addr) (sl : Array (Option Value)) (x : Int) (u : Tok) (c0 : (decide (x < -(2 ^ 63)) || decide (x ≥ 2 ^ 63)) = false) (c1 : (its.isEmpty || x == 1) = false) (c2 : (decide (x ≤ 0) || its.isEmpty) = true) :
    Meets (Builtin.«tuple.__mul__» ⟨[.ref l, .int x u], []⟩) (fun _ R s => s.heap.get? l = some { cls := .type "tuple", dict := dd, data := .seq its n, slots := sl } ∧
      R (.ok (.ret (Value.ref s.heap.objs.size))) { s with heap := s.heap.push { cls := Value.type "tuple", data := Data.seq #[] }, toks := s.toks }) :=
  .of_wp fun prog w A R s h => by
    obtain ⟨hp, g, d, tk, os⟩ := s
    obtain ⟨hl, h⟩ := h
    have f1 := AutoSeq1.idx_int
    wp_walk using wpAny_loadPart' hl
    repeat (first
      | (refine wpAny_ite_false (decide_eq_false (by rw [c0]; exact Bool.noConfusion)) ?_; wp_walk using wpAny_loadPart' hl)
      | (refine wpAny_ite_false (decide_eq_false (by rw [c1]; exact Bool.noConfusion)) ?_; wp_walk using wpAny_loadPart' hl)
      | (refine wpAny_ite_true (decide_eq_true c2) ?_; wp_walk using wpAny_loadPart' hl))
    exact ⟨_, rfl, h⟩
def rRepA (K : PySem.W.Frag) : R2 := fun x y H Q => ∃ l k xs, x = .ref l ∧ y = .int k ∧ SqT K H l xs ∧ xs ≠ [] ∧ -1000 ≤ k ∧ k ≤ 1000 ∧ xs.length ≤ 1000 ∧ (k = 1 → Q (.ref l) H) ∧ (k ≠ 1 → ∀ p, H p = none → Q (.ref p) (upd H p (.tup (List.replicate k.toNat xs).flatten)))
section
variable {X : Cx}
theorem op_repA : OpR X (binaryOp .Mult) (rRepA X.K) := by
  intro pins s σ H x y v u Q I rx ry h
  obtain ⟨l, k, xs, rfl, rfl, hT, hne, h0, h2, hz, q1, q2⟩ := h
  by_cases hk : 2 ≤ k
  · exact op_repT pins s σ H _ _ v u Q I rx ry ⟨l, k, xs, rfl, rfl, hT, hne, hk, h2, hz, q2 (by omega)⟩
  cases rx
  obtain ⟨t, rfl⟩ := ry
  obtain ⟨its, r, ⟨⟨cls, dd, data, sl⟩, ho, hc, n, hd⟩, hs⟩ := I.tuple hT
  simp only at hc hd
  subst hc hd
  have le : its.length = xs.length := r.length.symm
  have ne : its ≠ [] := fun e => hne (List.eq_nil_of_length_eq_zero (by rw [← le, e]; rfl))
  have ie : its.toArray.isEmpty = false := by
    cases its with
    | nil => exact absurd rfl ne
    | cons a b => rfl
  by_cases e1 : k = 1
  · subst e1
    exact wpAny_binaryOp_repeat_ref (T := "tuple") (U := "int") (by decide) ⟨_, ho, rfl⟩ (fun s' => typeIs_int s' 1 t) noFill_tuple_mul F.fills_int_mul F.slot_int_rmul repeat_tuple F.slot_int_index.lookup
      (call_meets F.slot_int_rmul (typeIs_int s 1 t) F.entry_int_rmul (F.args_int_rmul_2 _ _) (int_rmul_tuple 1 t l its.toArray n dd sl)
        ⟨ho, rfl, ⟨_, ho, rfl⟩, call_meets F.slot_tuple_mul ⟨_, ho, rfl⟩ F.entry_tuple_mul (F.args_tuple_mul_2 _ _) (mul_one l its.toArray n dd sl t) ⟨ho, ⟨.ref l, H, I, rfl, q1 rfl⟩⟩⟩)
  · have c0 : (decide (k < -(2 ^ 63)) || decide (k ≥ 2 ^ 63)) = false := by
      rw [decide_eq_false (by omega), decide_eq_false (by omega)]
      rfl
    have c1 : (its.toArray.isEmpty || k == 1) = false := by
      rw [ie, Bool.false_or]
      exact beq_eq_false_iff_ne.mpr e1
    have c2 : (decide (k ≤ 0) || its.toArray.isEmpty) = true := by
      rw [decide_eq_true (by omega)]
      rfl
    refine wpAny_binaryOp_repeat_ref (T := "tuple") (U := "int") (by decide) ⟨_, ho, rfl⟩ (fun s' => typeIs_int s' k t) noFill_tuple_mul F.fills_int_mul F.slot_int_rmul repeat_tuple F.slot_int_index.lookup
      (call_meets F.slot_int_rmul (typeIs_int s k t) F.entry_int_rmul (F.args_int_rmul_2 _ _) (int_rmul_tuple k t l its.toArray n dd sl)
        ⟨ho, rfl, ⟨_, ho, rfl⟩, call_meets F.slot_tuple_mul ⟨_, ho, rfl⟩ F.entry_tuple_mul (F.args_tuple_mul_2 _ _) (mul_none l its.toArray n dd sl k t c0 c1 c2) ⟨ho, ?_⟩⟩)
    have ek : (List.replicate k.toNat xs).flatten = [] := by
      rw [show k.toNat = 0 by omega]
      rfl
    have q3 := q2 e1
    rw [ek] at q3
    refine ⟨.ref s.heap.objs.size, _, I.laid (t' := s.toks) (o := .tup []) (fun b ob q => Heap.get?_push_of_some _ q) (Nat.le_refl _) ?_, rfl, q3 _ (I.hok.fresh (Nat.le_refl _))⟩
    exact ⟨(by decide : 0 ≤ sizeLine), [], .nil, IsTup.new _ _⟩
end
end ZG

/-! defs that are called while an exception is handled, and raise nothing; the exception asked for its class -/
namespace HU
open PySem PySem.Spec PyProof.Rows L2
/-- what such a def promises of the exception p that is handled -/
structure FnU (P : Program) (w : World) (K : PySem.W.Frag) (mg : Str → Option Value) (base : Heap) (k : Nat) (f : Addr) (fd : FuncData) (ps : List Str) (sp : Addr × Obj → Sp) : Prop where
  len : ∀ p vs H Q E, sp p vs H Q E → vs.length = ps.length
  run : ∀ (p : Addr × Obj) (A : Around) (outer : List Env) (s : Shared) (H : Hp) (args : Args) (us : List Value) (vs : List V) (Q : VK) (E : XK), L2H.RoomH k A → L2H.PinOk outer H s p → Env0 P w K mg base A outer s H → BindsTo s fd args (ps.zip us) → Vals vs us → sp p vs H Q E →
    codeAny (model P w) A (.call (.ref f) args) (CR CX0 outer P w H s Q E) s
theorem fn_ofU {P : Program} {w : World} {K : PySem.W.Frag} {mg : Str → Option Value} {base : Heap} {k : Nat} {f : Addr} {name qual : Str} {params : Arguments} {body : List Stmt} {scope : Scope} {dV kV doc pm cdv ct oc : Value} {an od : Option Addr}
    {osl : Array (Option Value)} {N ps : List Str} {sp : Addr × Obj → Sp} (lk : K.lookup f = some ⟨oc, od, .func (PySem.W.fnOf name qual params body scope dV kV doc pm an cdv ct), osl⟩) (cdk : PySem.W.codeIn K cdv qual = true) (S : FnScope N ps scope)
    (len : ∀ p vs H Q E, sp p vs H Q E → vs.length = ps.length)
    (hb : ∀ (p : Addr × Obj) (A : Around) (outer : List Env) (s : Shared) (H : Hp) (vs : List V) (Q : VK) (E : XK), L2H.RoomH k (A.deeper (envOfC qual scope s.heap.objs.size f cdv)) → sp p vs H Q E →
      ∃ t, PSs (L2H.cxH CX0 P w K mg base N qual scope f cdv A outer s H E p) body t ∧ t { nx := fun _ H' => Q .non H', rt := Q } (L2.start N vs) H) :
    FnU P w K mg base (k + 1) f (PySem.W.fnOf name qual params body scope dV kV doc pm an cdv ct) ps sp := by
  refine ⟨len, fun p A outer s H args us vs Q E hr pin e0 bd r hs => ?_⟩
  have el := len _ _ _ _ _ hs
  have KX : K.In s.heap := e0.mod.kin.keeps fun b o e => (e0.bs b o e).1
  have lim : s.heap.NoLimit := e0.mod.nolimit.keeps fun b o e => (e0.bs b o e).1
  have kinds : ∀ y ∈ ps.zip us, scope.names.lookup y.1 = some .local ∨ (scope.names.lookup y.1 = some .cell ∧ ((cellsFrom (s.heap.objs.size + 1) scope.names []).lookup y.1).isSome = true) := fun ⟨n, v⟩ hy => by
    rcases S.par n (List.of_mem_zip hy).1 with q | q
    · exact .inl q
    · exact .inr ⟨q, PySem.W.cellsFrom_some _ _ _ (.inl q)⟩
  refine codeAny_call_function hr.depth (KX _ _ lk) rfl S.co S.gen rfl (PySem.W.codeRec_of KX cdk) (bd _ _ _ _ ?_)
  refine wpAny_newFunctionEnv_cells S.kind kinds fun env he s1 x => ?_
  subst he
  refine ⟨lim.keeps x.toInCall.keep, codeAny_func ?_⟩
  obtain ⟨t, ht, hq⟩ := hb p A outer s H vs Q E (hr.deeper _) hs
  have I : Inv (L2H.cxH CX0 P w K mg base N qual scope f cdv A outer s H E p) [] (L2.start N vs) H s1 := L2H.inv_startH S pin e0 el r x
  refine wpAny_mono (ht.run [] s1 (L2.start N vs) H _ I hq) (fun fl s' h => ?_) fun e s' h => h
  have fin : ∀ {σ' : L2.St} {H' : Hp} {v : V} {u : Value}, Inv (L2H.cxH CX0 P w K mg base N qual scope f cdv A outer s H E p) [] σ' H' s' → L2.RelV v u → Q v H' → CE outer P w H s Q u s' :=
    fun {σ' H' v u} J rv q => ⟨v, H', J.os, J.bare, J.base, J.hok, rv, q⟩
  cases fl with
  | ret u =>
    obtain ⟨v, σ', H', J, rv, q⟩ := h
    exact fin J rv q
  | next =>
    obtain ⟨σ', H', J, q⟩ := h
    exact fin (v := V.non) (u := Value.none) J rfl q
  | brk =>
    obtain ⟨_, _, _, q⟩ := h
    exact q.elim
  | cont =>
    obtain ⟨_, _, _, q⟩ := h
    exact q.elim
theorem okU {P : Program} {w : World} {K : PySem.W.Frag} {mg : Str → Option Value} {base : Heap} {x qual : Str} {st : Stmt} {f : Addr} {fd : FuncData} {N ps : List Str} {k : Nat} {sp : Addr × Obj → Sp} (F : Fun K x qual st f fd) (S : FnScope N ps (defScope st)) (len : ∀ p vs H Q E, sp p vs H Q E → vs.length = ps.length)
    (hb : ∀ (cdv : Value) (p : Addr × Obj) (A : Around) (outer : List Env) (s : Shared) (H : Hp) (vs : List V) (Q : VK) (E : XK), L2H.RoomH k (A.deeper (envOfC qual (defScope st) s.heap.objs.size f cdv)) → sp p vs H Q E →
      ∃ t, PSs (L2H.cxH CX0 P w K mg base N qual (defScope st) f cdv A outer s H E p) (defBody st) t ∧ t { nx := fun _ H' => Q .non H', rt := Q } (L2.start N vs) H) : FnU P w K mg base (k + 1) f fd ps sp := by
  obtain ⟨oc, od, kV, doc, pm, an, cdv, ct, osl, rfl, lk, hcd⟩ := F.ex
  exact fn_ofU lk hcd S len fun p A outer s H vs Q E hr h => hb cdv p A outer s H vs Q E hr h
section
variable {X : Cx} {k : Nat} {f : Addr} {fd : FuncData} {ps : List Str} {sp : Addr × Obj → Sp} {p : Addr × Obj} {x : Str} {q pos : Pos} {e : Expr} {es : List Expr} {t : TA}
theorem run_fnU {pins : List (Addr × Obj)} {σ : L2.St} {H : Hp} {s : Shared} {Q : VK} {us : List Value} {vs : List V} (F : FnU X.prog X.w X.K X.mg X.base k f fd ps sp) (hr : L2H.RoomH k X.A) (hp : p ∈ X.pn) (hb : L2.Binds X.K fd ps [])
    (I : Inv X pins σ H s) (r : Vals vs us) (h : sp p vs H Q E0) : wpAny (model X.prog X.w) X.A (call (.ref f) us) (EP X pins σ Q) X.xe s := by
  have hl : us.length = ps.length := by rw [← r.length]; exact F.len _ _ _ _ _ h
  have b := hb s us I.kIn (by rw [List.append_nil]; exact hl)
  rw [List.append_nil] at b
  have P1 := I.pin p (List.mem_append_left _ hp)
  have pin : L2H.PinOk X.stack H s p := ⟨P1.1, P1.2.1, fun hm => (List.mem_cons.mp (I.stkSub p.1 hm)).elim P1.2.2.1 P1.2.2.2.1, P1.2.2.2.2⟩
  refine wpAny_call (codeAny_mono (F.run p X.A X.stack s H ⟨us, []⟩ us vs Q E0 hr pin I.env0 b r h) fun r s' hq => ?_)
  cases r with
  | error e => exact (show False from hq).elim
  | ok fl =>
    cases fl with
    | ret u => exact I.after hq
    | next => exact False.elim hq
    | brk => exact False.elim hq
    | cont => exact False.elim hq
theorem pe_callU (F : FnU X.prog X.w X.K X.mg X.base k f fd ps sp) (hr : L2H.RoomH k X.A) (hp : p ∈ X.pn) (hg : Gl X x) (hm : X.mg x = some (.ref f)) (hk : PySem.W.keepIn X.K (.ref f) = true) (hb : L2.Binds X.K fd ps [])
    (ha : PA X (e :: es) t) (hdb : (x == ("__debug__" : Str)) = false := by decide) (he : starEach (e :: es) X.env = (false, eval e X.env) :: starEach es X.env := by rfl) (hpl : (backTo pos (starEach es X.env)).any (fun z => z.1) = false := by rfl) :
    PE X (.Call (.Name x q) (e :: es) [] pos) (fun σ H Q => t σ H fun vs H1 => sp p vs H1 Q E0) := by
  refine ⟨fun pins s σ H Q I h => ?_⟩
  refine wpAny_Call_Name_kw (ld_glob I hg hm ?_ hdb)
  refine PySem.W.callWith_K (h₀ := X.base) I.ok.mod.kin hk (thn (ha.run pos pins s σ H _ I h) fun us s1 ⟨vs, H1, I1, r, z⟩ => ⟨I1.kIn, ?_⟩) he hpl
  exact run_fnU F hr hp hb I1 r z
/-- isinstance(e, c), e a pinned exception of the class at D -/
theorem call_isU {D : Addr} (hp : p ∈ X.pn) (C : ExcC X.K D) (hz : Zc (.ref D) none p.2) (hf : ∃ vs, p.2.data = .fields vs) : CallR X (.builtin "isinstance") (rIsE X.K D p.1) := by
  intro pins s σ H xs us Q I r h
  obtain ⟨c, cv, b, rfl, hcv, e, q⟩ := h
  cases r with
  | cons rx rr =>
    cases rr with
    | cons rt rr =>
      cases rr
      cases rx
      have ec := hcv _ rt
      subst ec
      have gp := (I.pin p (List.mem_append_left _ hp)).1
      obtain ⟨vs, hv⟩ := hf
      obtain ⟨pa, oc, od, oda, osl⟩ := p
      obtain ⟨h1, h2⟩ := hz
      dsimp only at h1 h2 hv gp
      subst h1 h2 hv
      have J : PySem.W.InstAt s.heap pa _ D none := ⟨gp, rfl, rfl, trivial⟩
      exact PySem.W.kia_one (PySem.W.handS_kitx_exc C.hg C.hk C.hs C.hd C.ha C.hn C.ht C.hm) I.kIn J e (fun z => nomatch z) fun tk => ⟨.bl b, H, I.kept (t' := tk) fun _ _ z => z, rfl, q⟩
theorem count_vals {y : V} : ∀ {ys : List V} {its : List Value}, Vals ys its → ys.all flatV = true → its.countP (eqU y) = ys.countP (fun z => eqV z y)
  | _, _, .nil, _ => rfl
  | z :: ys, u :: its, .cons r t, f => by
    rw [List.all_cons, Bool.and_eq_true] at f
    rw [List.countP_cons, List.countP_cons, count_vals t f.2, eqU_of r f.1]
def rCntF (K : PySem.W.Frag) : V → List V → Hp → VK → Prop := fun x xs H Q => ∃ (a : Addr) (ys : List V) (y : V), x = .ref a ∧ xs = [y] ∧ SqL K H a ys ∧ flatV y = true ∧ ys.all flatV = true ∧ Q (.int (ys.countP (fun z => eqV z y) : Nat)) H
theorem mt_countF : MtR X "list.count" (rCntF X.K) := by
  intro pins s σ H x xs v us Q I rx rxs h
  obtain ⟨a, ys, y, rfl, rfl, hs, fy, fys, q⟩ := h
  cases rx
  cases rxs with
  | cons ry rt =>
    rename_i uy ut
    cases rt
    obtain ⟨its, rv, ⟨⟨cls, dd, data, sl⟩, n, ho, hc, hdn, hd⟩, hlen⟩ := I.list hs
    simp only at hc hd
    subst hc hd
    refine call_meets PySem.F.slot_list_count ⟨_, ho, rfl⟩ PySem.F.entry_list_count (PySem.F.args_list_count_2 _ _)
      (SeqAt.list_countAt a its.toArray n dd sl uy (eqU y)) ⟨ho, fun u' hu' => mem_eqAt ry fy rv fys u' (by simpa using hu'), ?_⟩
    have ec : its.toArray.toList.countP (eqU y) = ys.countP (fun z => eqV z y) := count_vals rv fys
    rw [ec]
    exact ⟨.int (ys.countP (fun z => eqV z y) : Nat), H, I.tok _, ⟨_, rfl⟩, q⟩
end
end HU

namespace HU
open PySem PySem.Spec PyProof.Rows L2
/-! an except clause with five classes, and one behind it, both by a name -/
section
variable {M : Model} {K : PySem.W.Frag}
open PySem.W in
theorem exm5 {c1 c2 c3 c4 c5 cls : Value} {tp e : Addr} {b : Bool} {h : Heap} (X : K.In h) (LT : Looks M h (typeOf (.ref e)) cls) (hp : h.get? tp = some { cls := .type "tuple", data := .seq [c1, c2, c3, c4, c5].toArray }) (hx : exmAny K cls [c1, c2, c3, c4, c5] = some b) :
    Looks M h (excMatches (.ref e) (.ref tp)) b := by
  intro A Q E st k₀ q
  obtain ⟨hh, g, d, tk, os⟩ := st
  have k : ∀ b o, h.get? b = some o → hh.get? b = some o := k₀
  have IT : Looks M h (isInstance (.ref tp) (.type "tuple")) true := ((Looks.ld hp).andThen .now).andThen (Looks.of_pure isSubtype_tuple_tuple)
  obtain ⟨b1, d1, x1, y1, z1⟩ := exmAny_cons hx
  obtain ⟨b2, d2, x2, y2, z2⟩ := exmAny_cons y1
  obtain ⟨b3, d3, x3, y3, z3⟩ := exmAny_cons y2
  obtain ⟨b4, d4, x4, y4, z4⟩ := exmAny_cons y3
  obtain ⟨b5, d5, x5, y5, z5⟩ := exmAny_cons y4
  have l5 : some false = some d5 := y5
  cases l5
  obtain ⟨e1, T1⟩ := exm_cls (M := M) X x1
  obtain ⟨e2, T2⟩ := exm_cls (M := M) X x2
  obtain ⟨e3, T3⟩ := exm_cls (M := M) X x3
  obtain ⟨e4, T4⟩ := exm_cls (M := M) X x4
  obtain ⟨e5, T5⟩ := exm_cls (M := M) X x5
  have e1 := e1.keeps k
  have e2 := e2.keeps k
  have e3 := e3.keeps k
  have e4 := e4.keeps k
  have e5 := e5.keeps k
  have T1 := T1.keeps k
  have T2 := T2.keeps k
  have T3 := T3.keeps k
  have T4 := T4.keeps k
  have T5 := T5.keeps k
  have LT := LT.keeps k
  have IT := IT.keeps k
  have hp2 := k _ _ hp
  subst z1 z2 z3 z4 z5
  unfold excMatches
  refine wpAny_bind (IT.at ?_)
  dsimp only
  rw [if_pos rfl]
  first
    | refine wpAny_bind (wpAny_seqItems hp2 rfl ?_)
    | refine wpAny_bind (wpAny_bind (wpAny_seqItems hp2 rfl (wpAny_pure ?_)))
  dsimp only [Option.getD_some, Option.getD]
  cases b1 <;> cases b2 <;> cases b3 <;> cases b4 <;> cases b5 <;> ((repeat (first | simp only [List.forIn_cons, List.forIn_nil, Bool.not_true, Bool.false_eq_true, if_false, if_true] | lk)); exact q)
end
theorem fly_keeps {B h g : Heap} {l : List Env} {a : Addr} {Z : Obj → Prop} (x : HandSPX.FlyingZ B l a Z h) (k : ∀ b o, h.get? b = some o → g.get? b = some o) : HandSPX.FlyingZ B l a Z g := by
  obtain ⟨f1, f2, f3, oe, ws, T, oT, ts, he, hc, hd, h1, hn, hne, hT, hdT, h3⟩ := x
  exact ⟨fun b o q => k b o (f1 b o q), f2, f3.of_keeps fun b o q _ => ⟨o, k b o q, rfl⟩, oe, ws, T, oT, ts, k _ _ he, hc, hd, h1, hn, hne, k _ _ hT, hdT, h3⟩
/-- what a suite behind 'as n' (slot i) is asked -/
def wSu (i : Nat) (ts : Addr → Value → Option Addr → TS) (D : Ends) (cls : Value) (d : Option Addr) (σ : L2.St) (H : Hp) : Prop :=
  ∀ a, H a = none → ts a cls d { nx := fun σ' H' => D.nx (σ'.set i none) H', rt := D.rt, bk := fun σ' H' => D.bk (σ'.set i none) H', ct := fun σ' H' => D.ct (σ'.set i none) H' } (σ.set i (some (.ref a))) H
def wHow (K : PySem.W.Frag) (cs : List Value) (c : Value) (i : Nat) (t1 t2 : Addr → Value → Option Addr → TS) (D : Ends) : WX := fun cls d σ H =>
  ∃ b, PySem.W.exmAny K cls cs = some b ∧ (b = true → wSu i t1 D cls d σ H) ∧ (b = false → PySem.W.exmOne K cls c = some true ∧ wSu i t2 D cls d σ H)
section
variable {X : Cx} {x1 x2 x3 x4 x5 x n : Str} {c1 c2 c3 c4 c5 c : Value} {i kk : Nat} {body u1 u2 : List Stmt} {w1 w2 : Stmt} {n1 n2 n3 n4 n5 tp np pos pos1 pos2 : Pos} {tb : WX → TS} {t1 t2 : Addr → Value → Option Addr → TS}
theorem ps_try_how (hs : X.stack = X.env :: X.outer) (hf : X.env.frame = some X.env.locals) (hN : X.N.Nodup) (hi : X.N[i]? = some n) (hln : X.env.kindOf n = some .local)
    (k1 : Names X x1 c1) (k2 : Names X x2 c2) (k3 : Names X x3 c3) (k4 : Names X x4 c4) (k5 : Names X x5 c5) (kc : Names X x c)
    (hb : ∀ (W : WX) (pn : List (Addr × Obj)) (xe : Value → Shared → Prop), Takes (X.tr pn xe) W → PassesOwn (model X.prog X.w) X.A X.env xe → PSs (X.tr pn xe) body (tb W))
    (h1 : ∀ (a : Addr) (oe : Obj) (cls : Value) (d : Option Addr) (pn : List (Addr × Obj)), Zc cls d oe → (∃ vs, oe.data = .fields vs) → PSs (X.suite a ((a, oe) :: pn)) (w1 :: u1) (t1 a cls d))
    (h2 : ∀ (a : Addr) (oe : Obj) (cls : Value) (d : Option Addr) (pn : List (Addr × Obj)), Zc cls d oe → (∃ vs, oe.data = .fields vs) → PSs (X.suite a ((a, oe) :: pn)) (w2 :: u2) (t2 a cls d)) :
    PS X (.Try body [.ExceptHandler (some (.Tuple [.Name x1 n1, .Name x2 n2, .Name x3 n3, .Name x4 n4, .Name x5 n5] kk tp)) (some n) (w1 :: u1) pos1, .ExceptHandler (some (.Name x np)) (some n) (w2 :: u2) pos2] [] [] pos)
      (fun D σ H => tb (wHow X.K [c1, c2, c3, c4, c5] c i t1 t2 D) D σ H) := by
  refine ⟨fun pins s σ H D I h => ?_⟩
  have ok := I.ok
  have fr : X.A.frames = some (X.env :: X.outer) := by rw [ok.frames, hs]
  have loc : Loc X.env.scope n := .inl hln
  refine wpAny_Try_except ?_
  refine wpAny_mono ((hb (wHow X.K [c1, c2, c3, c4, c5] c i t1 t2 D) (X.pn ++ pins) (fun e s₁ => wpAny (model X.prog X.w) X.A (noteFrame e X.env) (fun _ s₂ => wpAny (model X.prog X.w) X.A (setFlight e none) (fun _ s₃ =>
    wpAny (model X.prog X.w) X.A (handleBy e X.env [.ExceptHandler (some (.Tuple [.Name x1 n1, .Name x2 n2, .Name x3 n3, .Name x4 n4, .Name x5 n5] kk tp)) (some n) (w1 :: u1) pos1, .ExceptHandler (some (.Name x np)) (some n) (w2 :: u2) pos2]) (SP X pins D) X.xe s₃) X.xe s₂) X.xe s₁) (fun u s' xx => ?_) PassesOwn.looking).run [] s σ H D (I.toTry _) h) (fun f s1 hsp => ?_) (fun e s1 he => he)
  · obtain ⟨a, B, sI, pins', σ', H', cls, d, rfl, J', nb, up, sky, na, os, ag, b, eb, yes, no⟩ := xx
    have J : Inv X pins σ' H' sI := J'.ofTry ok
    have sky2 : Sky B (X.env :: X.outer) a (Zc cls d) X.env.locals s'.heap := by rw [← hs]; exact sky
    show wpAny (model X.prog X.w) X.A (noteFrame (.ref a) X.env) _ _ _
    refine Sky.land Zc.steady fr hf sky2 fun g3 fl3 up3 => ?_
    have J3 : Inv X pins σ' H' { s' with heap := g3 } := J.landed nb fl3.1 (up.trans up3) os ag
    obtain ⟨oe3, vs3, he3, hz3, hd3⟩ := fl3.there
    have notFr : ∀ {h : Heap} {o : Obj} {vs : Array Value}, h.FunFrames B (X.env :: X.outer) → h.get? a = some o → o.data = .fields vs → a ∉ frs (X.env :: X.outer) := fun {h o vs} ff e dd hm => by
      obtain ⟨_, o', e', hnf⟩ := ff.mem hm
      rw [e] at e'
      cases e'
      exact hnf _ dd
    have nfr := notFr fl3.2.2.1 he3 hd3
    have nL : a ≠ X.env.locals := fun z => nfr (List.mem_filterMap.mpr ⟨X.env, List.mem_cons_self, by rw [hf, z]⟩)
    have nF : a ∉ X.fs := fun hm => by
      obtain ⟨e, he, q⟩ := List.mem_filterMap.mp hm
      exact nfr (List.mem_filterMap.mpr ⟨e, List.mem_cons_of_mem _ he, q⟩)
    have S3 := J3.suite he3 hd3 na nL nF
    -- a class's name is looked up
    have nm : ∀ {y : Str} {cv : Value} {yp : Pos} {Q : Value → Shared → Prop} {E : Value → Shared → Prop}, Names X y cv → Q cv { s' with heap := g3 } → wpAny (model X.prog X.w) (X.A.mark (some (.ref a))) (eval (.Name y yp) X.env) Q E { s' with heap := g3 } := fun {y cv yp Q E} hy q => by
      obtain ⟨hg, hdbg, hm | ⟨hm, hv, hnn⟩⟩ := hy
      · exact ld_glob (X := X.suite a ((a, oe3) :: (X.pn ++ pins))) S3 hg hm q hdbg
      · exact ld_blt (X := X.suite a ((a, oe3) :: (X.pn ++ pins))) S3 hg hm hv q hnn hdbg
    -- a suite is done
    have goS : ∀ {g : Heap} {ts : Addr → Value → Option Addr → TS} {ws : Stmt} {us : List Stmt} {ps : Pos}, HandSPX.FlyingZ B (X.env :: X.outer) a (Zc cls d) g → sI.heap.UpToSlots g →
        (∀ (a : Addr) (oe : Obj) (cls : Value) (d : Option Addr) (pn : List (Addr × Obj)), Zc cls d oe → (∃ vs, oe.data = .fields vs) → PSs (X.suite a ((a, oe) :: pn)) (ws :: us) (ts a cls d)) → wSu i ts D cls d σ' H' →
        codeAny (model X.prog X.w) (X.A.mark (some (.ref a))) (.handlers (.ref a) [.ExceptHandler none (some n) (ws :: us) ps] X.env) (fun r s₂ => match r with
          | .ok f => wpAny (model X.prog X.w) X.A (do bindName X.env n .none; unbindBehindTheSuite X.env n ps) (fun _ s₃ => SP X pins D f s₃) X.xe s₂
          | .error x => cameBackBy (model X.prog X.w) X.A X.env X.xe x s₂) { s' with heap := g } := by
      intro g ts ws us ps fl up' hsu hw
      refine codeAny_handlers_suite_as ?_
      refine HandSPX.lands_againZ fl fun g4 fl4 up4 => ?_
      have J4 : Inv X pins σ' H' { s' with heap := g4 } := J.landed nb fl4.1 (up'.trans up4) os ag
      obtain ⟨oe4, vs4, he4, hz4, hd4⟩ := fl4.there
      have S4 := J4.suite he4 hd4 na nL nF
      refine store_ok (X := X.suite a ((a, oe4) :: (X.pn ++ pins))) (v := .ref a) S4 hN hi loc rfl (fun s5 S5 => ?_) (.inr hln)
      refine wpAny_mono ((hsu a oe4 cls d (X.pn ++ pins) hz4 ⟨_, hd4⟩).run [] s5 _ H' _ S5 (hw a na)) (fun f s6 hsp => ?_) (fun _ _ z => False.elim z)
      have done : ∀ {σ6 : L2.St} {H6 : Hp} {Q : Shared → Prop}, Inv (X.suite a ((a, oe4) :: (X.pn ++ pins))) [] σ6 H6 s6 → (∀ s7, Inv X pins (σ6.set i none) H6 s7 → Q s7) →
          wpAny (model X.prog X.w) X.A (do bindName X.env n .none; unbindBehindTheSuite X.env n ps) (fun _ s7 => Q s7) X.xe s6 := fun {σ6 H6 Q} S6 hq => gone_ok (S6.unsuite ok) hN hi hln hq
      cases f with
      | next =>
        obtain ⟨σ6, H6, S6, q6⟩ := hsp
        exact done S6 fun s7 J7 => ⟨_, _, J7, q6⟩
      | brk =>
        obtain ⟨σ6, H6, S6, q6⟩ := hsp
        exact done S6 fun s7 J7 => ⟨_, _, J7, q6⟩
      | cont =>
        obtain ⟨σ6, H6, S6, q6⟩ := hsp
        exact done S6 fun s7 J7 => ⟨_, _, J7, q6⟩
      | ret u =>
        obtain ⟨v6, σ6, H6, S6, r6, q6⟩ := hsp
        exact done S6 fun s7 J7 => ⟨_, _, _, J7, r6, q6⟩
    have LT : PySem.W.Looks (model X.prog X.w) g3 (typeOf (.ref a)) cls := fun A Q E s k q => wpAny_typeOf_ref (k _ _ he3) (by rw [hz3.1]; exact q)
    refine wpAny_handleBy_cons (codeAny_handlers_test ?_) (by intro q; cases q)
    refine wpAny_Tuple ?_
    refine wpAny_items_cons (nm k1 ?_)
    refine wpAny_items_cons (nm k2 ?_)
    refine wpAny_items_cons (nm k3 ?_)
    refine wpAny_items_cons (nm k4 ?_)
    refine wpAny_items_cons (nm k5 ?_)
    refine wpAny_items_nil ⟨by size_fits, ?_⟩
    have kp : ∀ q o, g3.get? q = some o → (g3.push { cls := .type "tuple", data := .seq [c1, c2, c3, c4, c5].toArray }).get? q = some o := fun _ _ z => Heap.get?_push_of_some _ z
    refine (exm5 (J3.kIn.keeps kp) (LT.keeps kp) (Heap.get?_push_size g3 rfl) eb).here ?_
    have fl4 := fly_keeps fl3 kp
    have up4 := (up.trans up3).trans (Heap.UpToSlots.of_keeps kp)
    cases b with
    | true => exact goS fl4 up4 h1 (yes rfl)
    | false =>
      obtain ⟨ec, w2'⟩ := no rfl
      show wpAny _ X.A (handleBy (.ref a) X.env [.ExceptHandler (some (.Name x np)) (some n) (w2 :: u2) pos2]) _ _ _
      have J4 : Inv X pins σ' H' { s' with heap := g3.push { cls := .type "tuple", data := .seq [c1, c2, c3, c4, c5].toArray } } := J.landed nb fl4.1 up4 os ag
      obtain ⟨oe4, vs4, he4, hz4, hd4⟩ := fl4.there
      have S4 := J4.suite he4 hd4 na nL nF
      refine wpAny_handleBy_cons (codeAny_handlers_test ?_) (by intro q; cases q)
      have LM := PySem.W.exm_one (M := model X.prog X.w) (J4.kIn) (LT.keeps kp) ec
      have t2' : ∀ {Q : Value → Shared → Prop} {E : Value → Shared → Prop}, Q c { s' with heap := g3.push { cls := .type "tuple", data := .seq [c1, c2, c3, c4, c5].toArray } } → wpAny (model X.prog X.w) (X.A.mark (some (.ref a))) (eval (.Name x np) X.env) Q E { s' with heap := g3.push { cls := .type "tuple", data := .seq [c1, c2, c3, c4, c5].toArray } } := fun {Q E} q => by
        obtain ⟨hg, hdbg, hm | ⟨hm, hv, hnn⟩⟩ := kc
        · exact ld_glob (X := X.suite a ((a, oe4) :: (X.pn ++ pins))) S4 hg hm q hdbg
        · exact ld_blt (X := X.suite a ((a, oe4) :: (X.pn ++ pins))) S4 hg hm hv q hnn hdbg
      refine t2' (LM.here ?_)
      exact goS fl4 up4 h2 w2'
  · cases f with
    | next =>
      obtain ⟨σ', H', J', q⟩ := hsp
      exact wpAny_execs_nil ⟨σ', H', J'.ofTry ok, q⟩
    | brk =>
      obtain ⟨σ', H', J', q⟩ := hsp
      exact ⟨σ', H', J'.ofTry ok, q⟩
    | cont =>
      obtain ⟨σ', H', J', q⟩ := hsp
      exact ⟨σ', H', J'.ofTry ok, q⟩
    | ret u =>
      obtain ⟨v, σ', H', J', r, q⟩ := hsp
      exact ⟨v, σ', H', J'.ofTry ok, r, q⟩
end
end HU

namespace HU
open PySem PySem.Spec PyProof.Rows L2
def repS (z : Str) (k : Int) : Str := if k < 1 then Str.empty else if (k == 1 || z.length == 0) = true then z else ⟨(List.replicate k.toNat z.cps).foldl (fun a b => a ++ b) #[]⟩
theorem ten_text : ∀ k : _root_.Fin 31, PySem.intText? (("1" : Str) ++ repS "0" (k.val : Int)) = some ((10 : Int) ^ k.val) ∧ (("1" : Str) ++ repS "0" (k.val : Int)).length ≤ 640 ∧ (repS "0" (k.val : Int)).length ≤ sizeLine ∧ ("1" : Str).length + (repS "0" (k.val : Int)).length ≤ sizeLine ∧ ((10 : Int) ^ k.val).natAbs < 2 ^ 110 := by decide +kernel
section
variable {X : Cx}
theorem op_mul_str : OpR X (binaryOp .Mult) (fun x y H Q => ∃ z k, x = .str z ∧ y = .int k ∧ 0 ≤ k ∧ k ≤ 1000 ∧ z.length ≤ 1000 ∧ (repS z k).length ≤ sizeLine ∧ Q (.str (repS z k)) H) := by
  intro pins s σ H x y v u Q I rx ry h
  obtain ⟨z, k, rfl, rfl, k0, k1, hz, hzl, q⟩ := h
  obtain ⟨t, rfl⟩ := rx
  obtain ⟨t', rfl⟩ := ry
  refine PySem.P.mul_str ?_ (fun h1 _ => ?_) (fun h1 _ => ?_) ?_
  · rw [decide_eq_false (by omega), decide_eq_false (by omega)]
    rfl
  · have h2 : (1000 : Int) ≤ (2 ^ 63 - 1) / k := by
      refine (Int.le_ediv_iff_mul_le (by omega)).mpr ?_
      omega
    omega
  · have h3 : z.length * k.toNat ≤ 1000 * 1000 := Nat.mul_le_mul hz (by omega)
    unfold Builtin.Str.tooLong
    rw [sizeLine_eq]
    exact decide_eq_false (by omega)
  · unfold repS at q hzl
    by_cases h1 : k < 1
    · rw [if_pos h1] at q hzl ⊢
      exact ⟨by decide, .str Str.empty, H, I.tok _, ⟨_, rfl⟩, q⟩
    · rw [if_neg h1] at q hzl ⊢
      by_cases h2 : (k == 1 || z.length == 0) = true
      · rw [if_pos h2] at q hzl ⊢
        exact ⟨.str z, H, I.tok _, ⟨_, rfl⟩, q⟩
      · rw [if_neg h2] at q hzl ⊢
        exact ⟨hzl, .str _, H, I.tok _, ⟨_, rfl⟩, q⟩
end
end HU

namespace PF
open PySem PySem.Spec PyProof.Rows L2 ZG
def topS (i : Nat) : Stmt := PySem.Challenge.pw_paperrows_k03_forms_led.main.body.getD i (.Pass ⟨0, 0, 0, 0⟩)
abbrev sWhole : Stmt := topS 16
abbrev sSeqn : Stmt := topS 17
abbrev sIsForm : Stmt := topS 18
theorem scWhole : FnScope ["thing"] ["thing"] (defScope sWhole) := ⟨rfl, rfl, rfl, by decide +kernel, rfl, by decide +kernel, by decide +kernel⟩
theorem scSeqn : FnScope ["thing"] ["thing"] (defScope sSeqn) := ⟨rfl, rfl, rfl, by decide +kernel, rfl, by decide +kernel, by decide +kernel⟩
theorem scIsForm : FnScope ["thing", "number"] ["thing"] (defScope sIsForm) := ⟨rfl, rfl, rfl, by decide +kernel, rfl, by decide +kernel, by decide +kernel⟩
/-- the built-ins' names are not taken -/
structure Txt (mg : Str → Option Value) : Prop where
  isi : mg "isinstance" = none
  int : mg "int" = none
  bool : mg "bool" = none
  tuple : mg "tuple" = none
  list : mg "list" = none
  len : mg "len" = none
  all : mg "all" = none
  zip : mg "zip" = none
  range : mg "range" = none
  sum : mg "sum" = none
  abs : mg "abs" = none
  max : mg "max" = none
  min : mg "min" = none
theorem same_new {H : Hp} {p : Addr} {o : HO} (h : H p = none) : Same H (upd H p o) := fun b x e => by
  rw [upd_ne (ne_of_none e h)]
  exact e
theorem Same.tup {K : PySem.W.Frag} {H H' : Hp} {a : Addr} {xs : List V} (e : Same H H') (h : SqT K H a xs) : SqT K H' a xs := by
  rcases h with (h | ⟨o, h⟩) | h
  · exact .inl (.inl (e _ _ h))
  · exact .inl (.inr ⟨o, e _ _ h⟩)
  · exact .inr h
theorem ty_tup {K : PySem.W.Frag} {H : Hp} {a : Addr} {xs : List V} (h : SqT K H a xs) : TyX K H (.ref a) (.type "tuple") := by
  rcases h with (h | ⟨o, h⟩) | ⟨o, its, n, hk, hc, _⟩
  · exact .base (.tup h)
  · exact .fTuple h
  · exact .kTuple hk hc
theorem ty_lst {K : PySem.W.Frag} {H : Hp} {a : Addr} {xs : List V} (h : SqL K H a xs) : TyX K H (.ref a) (.type "list") := by
  rcases h with (h | ⟨o, h⟩) | ⟨o, its, n, hk, hc, _⟩
  · exact .base (.lst h)
  · exact .base (.frz h)
  · exact .kList hk hc
section
variable {P : Program} {w : World} {K : PySem.W.Frag} {mg : Str → Option Value} {base : Heap}
/-- the kinds of things that are asked about -/
def kinds : List String := ["int", "bool", "NoneType", "str", "tuple", "list", "dict"]
def isInt (n : String) : Bool := n == "int"
def spWhole (K : PySem.W.Frag) : Sp := fun vs H Q _ => ∃ (x : V) (n : String), vs = [x] ∧ TyX K H x (.type n) ∧ n ∈ kinds ∧ Q (.bl (isInt n)) H
theorem ok_whole {f : Addr} {fd : FuncData} (F : Fun K "is_whole" "is_whole" sWhole f fd) (T : Txt mg) : FnOk P w K mg base CX0 1 f fd ["thing"] (spWhole K) := by
  refine F.ok scWhole (fun vs H Q E h => ?_) (fun cdv A outer s H vs Q E hr h => ?_)
  · obtain ⟨x, n, rfl, _⟩ := h
    rfl
  · obtain ⟨x, n, rfl, ty, hn, q⟩ := h
    refine ⟨_, pss_one (ps_ret (pe_and (pe_callB call_isi (by rfl) T.isi (by decide +kernel) (pa_cons (pv 0) (pa_cons (pe_bltn (v := .ty "int") (by rfl) T.int (by decide +kernel) rfl) pa_nil)))
      (pe_one (pe_not (pe_callB call_isi (by rfl) T.isi (by decide +kernel) (pa_cons (pv 0) (pa_cons (pe_bltn (v := .ty "bool") (by rfl) T.bool (by decide +kernel) rfl) pa_nil))))))), ?_⟩
    simp only [kinds, List.mem_cons, List.mem_nil_iff, or_false] at hn
    rcases hn with rfl | rfl | rfl | rfl | rfl | rfl | rfl
    · exact ⟨_, rfl, _, _, _, _, true, rfl, .ty "int", ty, kit_ty (by decide +kernel), true, rfl, iteT ⟨_, rfl, _, _, _, _, false, rfl, .ty "bool", ty, kit_ty (by decide +kernel), false, rfl, q⟩⟩
    · exact ⟨_, rfl, _, _, _, _, true, rfl, .ty "int", ty, kit_ty (by decide +kernel), true, rfl, iteT ⟨_, rfl, _, _, _, _, true, rfl, .ty "bool", ty, kit_ty (by decide +kernel), true, rfl, q⟩⟩
    all_goals exact ⟨_, rfl, _, _, _, _, false, rfl, .ty "int", ty, kit_ty (by decide +kernel), false, rfl, iteF q⟩
def isSeq (n : String) : Bool := n == "list" || n == "tuple"
def spSeqn (K : PySem.W.Frag) : Sp := fun vs H Q _ => ∃ (x : V) (n : String), vs = [x] ∧ TyX K H x (.type n) ∧ n ∈ kinds ∧ ∀ H', Same H H' → Q (.bl (isSeq n)) H'
theorem TyX.same {H H' : Hp} (e : Same H H') {x : V} {t : Value} (h : TyX K H x t) : TyX K H' x t := by
  cases h with
  | base b =>
    refine .base ?_
    cases b with
    | non => exact .non
    | bl y => exact .bl y
    | int i => exact .int i
    | str y => exact .str y
    | flt y => exact .flt y
    | lst q => exact .lst (e _ _ q)
    | frz q => exact .frz (e _ _ q)
    | tup q => exact .tup (e _ _ q)
    | dK q => exact .dK (e _ _ q)
    | dT q => exact .dT (e _ _ q)
    | ins q a b c d f => exact .ins (e _ _ q) a b c d f
  | byt b => exact .byt b
  | set q => exact .set (e _ _ q)
  | kList q c => exact .kList q c
  | kTuple q c => exact .kTuple q c
  | kDict q c => exact .kDict q c
  | fTuple q => exact .fTuple (e _ _ q)
  | fDict q => exact .fDict (e _ _ q)
theorem ok_seqn {f : Addr} {fd : FuncData} (F : Fun K "is_sequence" "is_sequence" sSeqn f fd) (T : Txt mg) : FnOk P w K mg base CX0 1 f fd ["thing"] (spSeqn K) := by
  refine F.ok scSeqn (fun vs H Q E h => ?_) (fun cdv A outer s H vs Q E hr h => ?_)
  · obtain ⟨x, n, rfl, _⟩ := h
    rfl
  · obtain ⟨x, n, rfl, ty, hn, q⟩ := h
    refine ⟨_, pss_one (ps_ret (pe_callB call_isiT (by rfl) T.isi (by decide +kernel) (pa_cons (pv 0) (pa_cons (pe_tup (pa_cons (pe_bltn (v := .ty "list") (by rfl) T.list (by decide +kernel) rfl) (pa_cons (pe_bltn (v := .ty "tuple") (by rfl) T.tuple (by decide +kernel) rfl) pa_nil))) pa_nil)))), ?_⟩
    refine ⟨_, rfl, (by decide : 2 ≤ sizeLine), fun p hp => ?_⟩
    have s1 := same_new (o := .tup [.ty "list", .ty "tuple"]) hp
    have ty' := TyX.same s1 ty
    have pr : Paired ClsV [.ty "list", .ty "tuple"] [.type "list", .type "tuple"] := .cons (.ty _) (.cons (.ty _) .nil)
    refine ⟨x, p, _, _, _, isSeq n, rfl, upd_same, pr, ty', ?_, q _ s1⟩
    simp only [kinds, List.mem_cons, List.mem_nil_iff, or_false] at hn
    rcases hn with rfl | rfl | rfl | rfl | rfl | rfl | rfl
    all_goals first
      | exact kitAny_cons (b := true) (kit_ty (by decide +kernel)) (fun z => nomatch z) (fun _ => rfl)
      | exact kitAny_cons (b := false) (kit_ty (by decide +kernel)) (fun _ => kitAny_cons (b := true) (kit_ty (by decide +kernel)) (fun z => nomatch z) (fun _ => rfl)) (fun z => nomatch z)
      | exact kitAny_cons (b := false) (kit_ty (by decide +kernel)) (fun _ => kitAny_cons (b := false) (kit_ty (by decide +kernel)) (fun _ => kitAny_nil) (fun z => nomatch z)) (fun z => nomatch z)
/-- what stands in a row, by its kinds -/
def Tys (K : PySem.W.Frag) (H : Hp) (xs : List V) (ns : List String) : Prop := xs.length = ns.length ∧ ∀ (i : Nat) (x : V) (n : String), xs[i]? = some x → ns[i]? = some n → TyX K H x (.type n) ∧ n ∈ kinds
theorem Tys.same {H H' : Hp} {xs : List V} {ns : List String} (e : Same H H') (h : Tys K H xs ns) : Tys K H' xs ns := ⟨h.1, fun i x n a b => ⟨TyX.same e (h.2 i x n a b).1, (h.2 i x n a b).2⟩⟩
/-- a thing that may be asked whether it is a form, and the answer -/
def Formy (K : PySem.W.Frag) (H : Hp) (x : V) (b : Bool) : Prop :=
  (∃ a xs ns, x = .ref a ∧ SqT K H a xs ∧ xs.length ≤ 1000 ∧ Tys K H xs ns ∧ b = (!xs.isEmpty && ns.all isInt)) ∨ (∃ n, TyX K H x (.type n) ∧ n ∈ kinds ∧ n ≠ "tuple" ∧ b = false)
def spIsForm (K : PySem.W.Frag) : Sp := fun vs H Q _ => ∃ (x : V) (b : Bool), vs = [x] ∧ Formy K H x b ∧ ∀ H', Same H H' → Q (.bl b) H'
theorem kit_tup {K : PySem.W.Frag} {n : String} (hn : n ∈ kinds) : PySem.W.kitOne K (.type n) (.type "tuple") = some (n == "tuple") := by
  simp only [kinds, List.mem_cons, List.mem_nil_iff, or_false] at hn
  rcases hn with rfl | rfl | rfl | rfl | rfl | rfl | rfl <;> exact kit_ty (by decide +kernel)
theorem ok_isForm {f f1 : Addr} {fd fd1 : FuncData} (F : Fun K "is_form" "is_form" sIsForm f fd) (F1 : Fun K "is_whole" "is_whole" sWhole f1 fd1) (b1 : Binds K fd1 ["thing"] []) (m1 : mg "is_whole" = some (.ref f1)) (T : Txt mg) :
    FnOk P w K mg base CX0 2 f fd ["thing"] (spIsForm K) := by
  have G1 : FnOk P w K mg base CX0 1 f1 fd1 ["thing"] (spWhole K) := ok_whole F1 T
  refine F.ok scIsForm (fun vs H Q E h => ?_) (fun cdv A outer s H vs Q E hr h => ?_)
  · obtain ⟨x, b, rfl, _⟩ := h
    rfl
  · obtain ⟨x, b, rfl, hf, q⟩ := h
    refine ⟨_, pss_one (ps_ret (pe_and (pe_callB call_isi (by rfl) T.isi (by decide +kernel) (pa_cons (pv 0) (pa_cons (pe_bltn (v := .ty "tuple") (by rfl) T.tuple (by decide +kernel) rfl) pa_nil)))
      (pe_and (pe_cmpR op_gt (pe_callB call_len_seq (by rfl) T.len PySem.boot_len (pa_cons (pv 0) pa_nil)) pe_int (nomark _))
      (pe_one (pe_callB (cr_all rfl) (by rfl) T.all (by decide +kernel) (pa_cons (pe_lc (own := [("number", 1)]) (g := gName 1) (tt := tYes) rfl scIsForm.nd (pi_tup (pv 0)) (blkOk_by (N := ["thing", "number"]) (sc := defScope sIsForm) (by decide +kernel))
        (fun _ _ _ _ _ => pg_name (i := 1) scIsForm.nd rfl (Or.inl rfl)) (fun _ _ _ _ _ => pts_nil)
        (fun _ _ _ _ _ => pe_call G1 hr (by rfl) m1 F1.kp b1 .nil pass0 (pa_cons (pv 1) pa_nil))) pa_nil)))))), ?_⟩
    rcases hf with ⟨a, xs, ns, rfl, hT, hl, ts, rfl⟩ | ⟨n, ty, hn, ne, rfl⟩
    · refine ⟨_, rfl, _, _, _, _, true, rfl, .ty "tuple", ty_tup hT, kit_tup (by decide), true, rfl, iteT ?_⟩
      refine ⟨_, rfl, a, xs, rfl, .inr hT, _, _, rfl, rfl, _, rfl, ?_⟩
      cases xs with
      | nil => exact iteF (q H (Same.refl H))
      | cons x0 r =>
        refine ite2 (fun _ => ?_) (fun z => absurd (decide_eq_true (by rw [List.length_cons]; omega)) z)
        refine ⟨_, rfl, a, rfl, ⟨_, hT⟩, fun D hD => ?_⟩
        refine lc_it (walk_tup (xs := x0 :: r)) (fun i H' => Same H H' ∧ H' D = some (.lst (((ns.map isInt).take i).map V.bl))) ⟨same_new hD, upd_same⟩ (fun i H' _ p => Same.tup p.1 hT) ?_ ?_
        · rintro i x H1 H2 hi ⟨s1, e1⟩ ⟨rfl, hx⟩
          have hi2 : i < ns.length := by rw [← ts.1]; exact hi
          have hn := List.getElem?_eq_getElem hi2
          have t := ts.2 i x _ hx hn
          refine ⟨rfl, ?_⟩
          refine ⟨x, rfl, x, _, rfl, TyX.same s1 t.1, t.2, _, e1, ?_, fun b o e => ?_, ?_⟩
          · rw [List.length_map, List.length_take]
            exact Nat.lt_of_le_of_lt (Nat.le_trans (Nat.min_le_left _ _) (by omega)) (small1000 hl)
          · rw [upd_ne (ne_of_none e hD)]
            exact s1 b o e
          · rw [upd_same, List.take_add_one, List.getElem?_map, hn, List.map_append]
            rfl
        · rintro H1 ⟨s1, e1⟩
          rw [show (x0 :: r).length = (ns.map isInt).length by rw [ts.1, List.length_map], List.take_length] at e1
          refine ⟨D, ns.map isInt, rfl, SqL.of e1, ?_⟩
          have := q H1 s1
          rw [List.all_map]
          exact this
    · refine ⟨_, rfl, _, _, _, _, (n == "tuple"), rfl, .ty "tuple", ty, kit_tup hn, _, rfl, ?_⟩
      rw [show (n == "tuple") = false from beq_eq_false_iff_ne.mpr ne]
      exact iteF (q H (Same.refl H))
end
end PF

namespace PF
open PySem PySem.Spec PyProof.Rows L2 ZG
/-! a walk over what may be a list or a tuple -/
def ItS : Bool → PySem.W.Frag → Addr → It
  | true, K, a => Itt K a
  | false, K, a => Itl K a
def iSeqV (K : PySem.W.Frag) (i : Nat) : TI := fun σ H R => ∃ t a xs, σ[i]? = some (some (.ref a)) ∧ SqG t K H a xs ∧ R (ItS t K a) H
theorem pi_seqV {X : Cx} {tg e : Expr} {i : Nat} (h : PE X e (tVar i)) : PI X tg e (iSeqV X.K i) := by
  refine ⟨fun pins s σ H R I q => ?_⟩
  obtain ⟨t, a, xs, e, g, r⟩ := q
  cases t
  · exact (pi_list h).run pins s σ H R I ⟨_, e, a, rfl, ⟨xs, g⟩, r⟩
  · exact (pi_tup h).run pins s σ H R I ⟨_, e, a, rfl, ⟨xs, g⟩, r⟩
theorem walkS {K : PySem.W.Frag} {t : Bool} {a : Addr} {xs : List V} : Walk (ItS t K a) xs.length (fun H => SqG t K H a xs) (YAt xs) := by
  cases t
  · exact walk_list
  · exact walk_tup
theorem Same.sq {K : PySem.W.Frag} {H H' : Hp} {t : Bool} {a : Addr} {xs : List V} (e : Same H H') (h : SqG t K H a xs) : SqG t K H' a xs := by
  cases t
  · exact Same.seq e h
  · exact Same.tup e h
theorem SqG.lt {K : PySem.W.Frag} {H : Hp} {t : Bool} {a : Addr} {xs : List V} (h : SqG t K H a xs) : SqL K H a xs ∨ SqT K H a xs := by
  cases t
  · exact .inl h
  · exact .inr h
theorem SqG.ty {K : PySem.W.Frag} {H : Hp} {t : Bool} {a : Addr} {xs : List V} (h : SqG t K H a xs) : ∃ n, TyX K H (.ref a) (.type n) ∧ n ∈ kinds ∧ isSeq n = true := by
  cases t
  · exact ⟨"list", ty_lst h, by decide, rfl⟩
  · exact ⟨"tuple", ty_tup h, by decide, rfl⟩
/-! forms -/
def FAt (K : PySem.W.Frag) (H : Hp) (a : Addr) (f : List Int) : Prop := SqT K H a (f.map V.int)
theorem Same.f {K : PySem.W.Frag} {H H' : Hp} {a : Addr} {f : List Int} (e : Same H H') (h : FAt K H a f) : FAt K H' a f := Same.tup e h
theorem FAt.new {K : PySem.W.Frag} {H : Hp} {a : Addr} {f : List Int} (h : H a = some (.tup (f.map V.int))) : FAt K H a f := .inl (.inl h)
theorem ints_tys {K : PySem.W.Frag} {H : Hp} (f : List Int) : Tys K H (f.map V.int) (f.map fun _ => "int") := by
  refine ⟨by simp, fun i x n hx hn => ?_⟩
  rw [List.getElem?_map] at hx hn
  cases e : f[i]? with
  | none =>
    rw [e] at hx
    cases hx
  | some v =>
    rw [e] at hx hn
    cases hx
    cases hn
    exact ⟨.base (.int v), (by decide : "int" ∈ kinds)⟩
theorem ints_all (f : List Int) : (f.map fun _ => "int").all isInt = true := by
  rw [List.all_map]
  exact List.all_eq_true.mpr fun _ _ => rfl
theorem FAt.formy {K : PySem.W.Frag} {H : Hp} {a : Addr} {f : List Int} (h : FAt K H a f) (hl : f.length ≤ 1000) (h0 : f ≠ []) : Formy K H (.ref a) true := by
  refine .inl ⟨a, f.map V.int, f.map fun _ => "int", rfl, h, by rw [List.length_map]; exact hl, ints_tys f, ?_⟩
  rw [ints_all]
  cases f with
  | nil => exact absurd rfl h0
  | cons x r => rfl
abbrev sLook : Stmt := topS 24
theorem scLook : FnScope ["form"] ["form"] (defScope sLook) := ⟨rfl, rfl, rfl, by decide +kernel, rfl, by decide +kernel, by decide +kernel⟩
end PF

namespace PF
open PySem PySem.Spec PyProof.Rows L2 ZG HU
abbrev sKind : Stmt := topS 32
abbrev sHow : Stmt := topS 33
theorem scKind : FnScope ["e", "some", "kinds"] ["e"] (defScope sKind) := ⟨rfl, rfl, rfl, by decide +kernel, rfl, by decide +kernel, by decide +kernel⟩
theorem scHow : FnScope ["deed", "e"] ["deed"] (defScope sHow) := ⟨rfl, rfl, rfl, by decide +kernel, rfl, by decide +kernel, by decide +kernel⟩
/-- the classes by name, and which of them an error of the class at D is of -/
structure KF (K : PySem.W.Frag) (mg : Str → Option Value) (D cW : Addr) (c : Fin 13 → Addr) : Prop where
  qV : PySem.W.kitOne K (.ref D) (.type "ValueError") = some true
  mV : mg "ValueError" = none
  ex : ExcC K D
  mW : mg "Wrong" = some (.ref cW)
  eW : PySem.W.exmOne K (.ref D) (.ref cW) = some true
  m0 : mg "NoArea" = some (.ref (c 0))
  q0 : PySem.W.kitOne K (.ref D) (.ref (c 0)) = some false
  m1 : mg "NoClaims" = some (.ref (c 1))
  q1 : PySem.W.kitOne K (.ref D) (.ref (c 1)) = some false
  m2 : mg "NoDeeds" = some (.ref (c 2))
  q2 : PySem.W.kitOne K (.ref D) (.ref (c 2)) = some false
  m3 : mg "NoForm" = some (.ref (c 3))
  q3 : PySem.W.kitOne K (.ref D) (.ref (c 3)) = some true
  m4 : mg "NoNames" = some (.ref (c 4))
  q4 : PySem.W.kitOne K (.ref D) (.ref (c 4)) = some false
  m5 : mg "NoNumber" = some (.ref (c 5))
  q5 : PySem.W.kitOne K (.ref D) (.ref (c 5)) = some false
  m6 : mg "NoPapers" = some (.ref (c 6))
  q6 : PySem.W.kitOne K (.ref D) (.ref (c 6)) = some false
  m7 : mg "NoPass" = some (.ref (c 7))
  q7 : PySem.W.kitOne K (.ref D) (.ref (c 7)) = some false
  m8 : mg "NoRows" = some (.ref (c 8))
  q8 : PySem.W.kitOne K (.ref D) (.ref (c 8)) = some false
  m9 : mg "NoRule" = some (.ref (c 9))
  q9 : PySem.W.kitOne K (.ref D) (.ref (c 9)) = some false
  m10 : mg "NoSaying" = some (.ref (c 10))
  q10 : PySem.W.kitOne K (.ref D) (.ref (c 10)) = some false
  m11 : mg "NoStart" = some (.ref (c 11))
  q11 : PySem.W.kitOne K (.ref D) (.ref (c 11)) = some false
  m12 : mg "NoText" = some (.ref (c 12))
  q12 : PySem.W.kitOne K (.ref D) (.ref (c 12)) = some false
theorem cat_rd {H : Hp} {l b : Addr} {xs zs : List V} {Q : VK} (hl : H l = some (.lst xs)) (hb : H b = some (.lst zs)) (hz : xs.length + zs.length ≤ sizeLine) (q : ∀ H' p, Same H H' → H' p = some (.lst (xs ++ zs)) → Q (.ref p) H') : rCat (.ref l) (.ref b) H Q :=
  ⟨l, b, xs, zs, rfl, rfl, hl, hb, hz, fun p np => q _ p (same_new np) upd_same⟩
def spKind (D : Addr) (word : Str) : Addr × Obj → Sp := fun p vs H Q _ => vs = [.ref p.1] ∧ Zc (.ref D) none p.2 ∧ (∃ us, p.2.data = .fields us) ∧ ∀ H', Same H H' → Q (.str word) H'
section
variable {P : Program} {w : World} {K : PySem.W.Frag} {mg : Str → Option Value} {base : Heap}
theorem ok_kind {f D cW : Addr} {fd : FuncData} {c : Fin 13 → Addr} (F : Fun K "_law_kind" "_law_kind" sKind f fd) (T : Txt mg) (A : KF K mg D cW c) : FnU P w K mg base 1 f fd ["e"] (spKind D "!NoForm") := by
  refine okU F scKind (fun p vs H Q E h => ?_) (fun cdv p Ar outer s H vs Q E hr h => ?_)
  · obtain ⟨rfl, _⟩ := h
    rfl
  · obtain ⟨rfl, hz, hf, q⟩ := h
    refine ⟨_, pss_cons (ps_set (i := 1) scKind.nd rfl (.inl rfl) (pe_lst (pa_cons (pe_callB (call_isU (p := p) (List.mem_cons_self ..) A.ex hz hf) (by rfl) T.isi (by decide +kernel) (pa_cons (pv 0) (pa_cons (pe_glob (v := .ref (c 0)) rfl A.m0 rfl) pa_nil))) (pa_cons (pe_callB (call_isU (p := p) (List.mem_cons_self ..) A.ex hz hf) (by rfl) T.isi (by decide +kernel) (pa_cons (pv 0) (pa_cons (pe_glob (v := .ref (c 1)) rfl A.m1 rfl) pa_nil))) (pa_cons (pe_callB (call_isU (p := p) (List.mem_cons_self ..) A.ex hz hf) (by rfl) T.isi (by decide +kernel) (pa_cons (pv 0) (pa_cons (pe_glob (v := .ref (c 2)) rfl A.m2 rfl) pa_nil))) (pa_cons (pe_callB (call_isU (p := p) (List.mem_cons_self ..) A.ex hz hf) (by rfl) T.isi (by decide +kernel) (pa_cons (pv 0) (pa_cons (pe_glob (v := .ref (c 3)) rfl A.m3 rfl) pa_nil))) pa_nil))))))
      (pss_cons (ps_set (i := 1) scKind.nd rfl (.inl rfl) (pe_op op_cat (pv 1) (pe_lst (pa_cons (pe_callB (call_isU (p := p) (List.mem_cons_self ..) A.ex hz hf) (by rfl) T.isi (by decide +kernel) (pa_cons (pv 0) (pa_cons (pe_glob (v := .ref (c 4)) rfl A.m4 rfl) pa_nil))) (pa_cons (pe_callB (call_isU (p := p) (List.mem_cons_self ..) A.ex hz hf) (by rfl) T.isi (by decide +kernel) (pa_cons (pv 0) (pa_cons (pe_glob (v := .ref (c 5)) rfl A.m5 rfl) pa_nil))) (pa_cons (pe_callB (call_isU (p := p) (List.mem_cons_self ..) A.ex hz hf) (by rfl) T.isi (by decide +kernel) (pa_cons (pv 0) (pa_cons (pe_glob (v := .ref (c 6)) rfl A.m6 rfl) pa_nil))) (pa_cons (pe_callB (call_isU (p := p) (List.mem_cons_self ..) A.ex hz hf) (by rfl) T.isi (by decide +kernel) (pa_cons (pv 0) (pa_cons (pe_glob (v := .ref (c 7)) rfl A.m7 rfl) pa_nil))) pa_nil)))))))
      (pss_cons (ps_set (i := 1) scKind.nd rfl (.inl rfl) (pe_op op_cat (pv 1) (pe_lst (pa_cons (pe_callB (call_isU (p := p) (List.mem_cons_self ..) A.ex hz hf) (by rfl) T.isi (by decide +kernel) (pa_cons (pv 0) (pa_cons (pe_glob (v := .ref (c 8)) rfl A.m8 rfl) pa_nil))) (pa_cons (pe_callB (call_isU (p := p) (List.mem_cons_self ..) A.ex hz hf) (by rfl) T.isi (by decide +kernel) (pa_cons (pv 0) (pa_cons (pe_glob (v := .ref (c 9)) rfl A.m9 rfl) pa_nil))) (pa_cons (pe_callB (call_isU (p := p) (List.mem_cons_self ..) A.ex hz hf) (by rfl) T.isi (by decide +kernel) (pa_cons (pv 0) (pa_cons (pe_glob (v := .ref (c 10)) rfl A.m10 rfl) pa_nil))) (pa_cons (pe_callB (call_isU (p := p) (List.mem_cons_self ..) A.ex hz hf) (by rfl) T.isi (by decide +kernel) (pa_cons (pv 0) (pa_cons (pe_glob (v := .ref (c 11)) rfl A.m11 rfl) pa_nil))) pa_nil)))))))
      (pss_cons (ps_set (i := 1) scKind.nd rfl (.inl rfl) (pe_op op_cat (pv 1) (pe_lst (pa_cons (pe_callB (call_isU (p := p) (List.mem_cons_self ..) A.ex hz hf) (by rfl) T.isi (by decide +kernel) (pa_cons (pv 0) (pa_cons (pe_glob (v := .ref (c 12)) rfl A.m12 rfl) pa_nil))) pa_nil))))
      (pss_cons (ps_set (i := 2) scKind.nd rfl (.inl rfl) (pe_lst (pa_cons pe_str (pa_cons pe_str (pa_cons pe_str (pa_cons pe_str (pa_cons pe_str (pa_cons pe_str (pa_cons pe_str (pa_cons pe_str (pa_cons pe_str (pa_cons pe_str pa_nil))))))))))))
      (pss_cons (ps_set (i := 2) scKind.nd rfl (.inl rfl) (pe_op op_cat (pv 2) (pe_lst (pa_cons pe_str (pa_cons pe_str (pa_cons pe_str pa_nil))))))
      (pss_cons (ps_if (PW.pt (pw_or (pt_cmpR op_ne (pe_bm PySem.F.plainAttrs_list PySem.F.slot_list_count PySem.F.type_list_count mt_countF (pv 1) (pa_cons pe_bl pa_nil)) pe_int (nomark _)) (pw_or1 (pt_not (pt_val (pe_callB (call_isU (p := p) (List.mem_cons_self ..) A.ex hz hf) (by rfl) T.isi (by decide +kernel) (pa_cons (pv 0) (pa_cons (pe_bltn (v := .ty "ValueError") (by rfl) A.mV (by decide +kernel) rfl) pa_nil)))))))) (pss_one ps_never) pss_nil)
      (pss_one (ps_ret (pe_op op_add_str pe_str (pe_ix ix_list (pv 2) (pe_bm PySem.F.plainAttrs_list PySem.F.slot_list_index PySem.F.type_list_index mt_index (pv 1) (pa_cons pe_bl pa_nil)) (fun _ _ => rfl))))))))))), ?_⟩
    refine ⟨_, rfl, _, _, false, rfl, (fun _ z => z), A.q0, _, rfl, _, _, false, rfl, (fun _ z => z), A.q1, _, rfl, _, _, false, rfl, (fun _ z => z), A.q2, _, rfl, _, _, true, rfl, (fun _ z => z), A.q3, (by decide : 4 ≤ sizeLine), fun l1 n1 => ?_⟩
    have s1 : Same H (upd H l1 (.lst [.bl false, .bl false, .bl false, .bl true])) := same_new n1
    have e1 : (upd H l1 (.lst [.bl false, .bl false, .bl false, .bl true])) l1 = some (.lst [.bl false, .bl false, .bl false, .bl true]) := upd_same
    revert s1 e1
    generalize upd H l1 (.lst [.bl false, .bl false, .bl false, .bl true]) = H1
    intro s1 e1
    refine ⟨_, rfl, _, rfl, _, _, false, rfl, (fun _ z => z), A.q4, _, rfl, _, _, false, rfl, (fun _ z => z), A.q5, _, rfl, _, _, false, rfl, (fun _ z => z), A.q6, _, rfl, _, _, false, rfl, (fun _ z => z), A.q7, (by decide : 4 ≤ sizeLine), fun a1 na1 => ?_⟩
    have t1 := same_new (o := .lst [.bl false, .bl false, .bl false, .bl false]) na1
    have f1 : (upd H1 a1 (.lst [.bl false, .bl false, .bl false, .bl false])) a1 = some (.lst [.bl false, .bl false, .bl false, .bl false]) := upd_same
    revert t1 f1
    generalize upd H1 a1 (.lst [.bl false, .bl false, .bl false, .bl false]) = G1
    intro t1 f1
    refine cat_rd (t1 _ _ e1) f1 (by decide) fun H2 l2 s2' e2 => ?_
    have s2 := s1.trans (t1.trans s2')
    refine ⟨_, rfl, _, rfl, _, _, false, rfl, (fun _ z => z), A.q8, _, rfl, _, _, false, rfl, (fun _ z => z), A.q9, _, rfl, _, _, false, rfl, (fun _ z => z), A.q10, _, rfl, _, _, false, rfl, (fun _ z => z), A.q11, (by decide : 4 ≤ sizeLine), fun a2 na2 => ?_⟩
    have t2 := same_new (o := .lst [.bl false, .bl false, .bl false, .bl false]) na2
    have f2 : (upd H2 a2 (.lst [.bl false, .bl false, .bl false, .bl false])) a2 = some (.lst [.bl false, .bl false, .bl false, .bl false]) := upd_same
    revert t2 f2
    generalize upd H2 a2 (.lst [.bl false, .bl false, .bl false, .bl false]) = G2
    intro t2 f2
    refine cat_rd (t2 _ _ e2) f2 (by decide) fun H3 l3 s3' e3 => ?_
    have s3 := s2.trans (t2.trans s3')
    refine ⟨_, rfl, _, rfl, _, _, false, rfl, (fun _ z => z), A.q12, (by decide : 1 ≤ sizeLine), fun a3 na3 => ?_⟩
    have t3 := same_new (o := .lst [.bl false]) na3
    have f3 : (upd H3 a3 (.lst [.bl false])) a3 = some (.lst [.bl false]) := upd_same
    revert t3 f3
    generalize upd H3 a3 (.lst [.bl false]) = G3
    intro t3 f3
    refine cat_rd (t3 _ _ e3) f3 (by decide) fun H4 l4 s4' e4 => ?_
    have s4 := s3.trans (t3.trans s4')
    refine ⟨(by decide : 10 ≤ sizeLine), fun b1 nb1 => ?_⟩
    have t5 := same_new (o := .lst [.str "NoArea", .str "NoClaims", .str "NoDeeds", .str "NoForm", .str "NoNames", .str "NoNumber", .str "NoPapers", .str "NoPass", .str "NoRows", .str "NoRule"]) nb1
    have f5 : (upd H4 b1 (.lst [.str "NoArea", .str "NoClaims", .str "NoDeeds", .str "NoForm", .str "NoNames", .str "NoNumber", .str "NoPapers", .str "NoPass", .str "NoRows", .str "NoRule"])) b1 = some (.lst [.str "NoArea", .str "NoClaims", .str "NoDeeds", .str "NoForm", .str "NoNames", .str "NoNumber", .str "NoPapers", .str "NoPass", .str "NoRows", .str "NoRule"]) := upd_same
    revert t5 f5
    generalize upd H4 b1 (.lst [.str "NoArea", .str "NoClaims", .str "NoDeeds", .str "NoForm", .str "NoNames", .str "NoNumber", .str "NoPapers", .str "NoPass", .str "NoRows", .str "NoRule"]) = G5
    intro t5 f5
    refine ⟨_, rfl, (by decide : 3 ≤ sizeLine), fun b2 nb2 => ?_⟩
    have t6 := same_new (o := .lst [.str "NoSaying", .str "NoStart", .str "NoText"]) nb2
    have f6 : (upd G5 b2 (.lst [.str "NoSaying", .str "NoStart", .str "NoText"])) b2 = some (.lst [.str "NoSaying", .str "NoStart", .str "NoText"]) := upd_same
    revert t6 f6
    generalize upd G5 b2 (.lst [.str "NoSaying", .str "NoStart", .str "NoText"]) = G6
    intro t6 f6
    refine cat_rd (t6 _ _ f5) f6 (by decide) fun H7 b3 s7' e7 => ?_
    have s7 := s4.trans (t5.trans (t6.trans s7'))
    have e4' := s7' _ _ (t6 _ _ (t5 _ _ e4))
    refine ⟨_, rfl, .inl ⟨rfl, _, SqL.of e4'⟩, l4, _, .bl true, rfl, rfl, SqL.of e4', rfl, by decide, rfl, _, rfl, ?_⟩
    refine iteNS rfl ?_
    refine ⟨_, rfl, _, _, true, rfl, (fun _ z => z), A.qV, true, rfl, iteF ?_⟩
    refine ⟨_, rfl, _, rfl, .inl ⟨rfl, _, SqL.of e4'⟩, l4, _, .bl true, 3, .bl true, rfl, rfl, SqL.of e4', rfl, by decide, rfl, rfl, fun m z' hm hz' => ?_, ?_⟩
    · match m, hm, hz' with
      | 0, _, hz' => cases hz'; rfl
      | 1, _, hz' => cases hz'; rfl
      | 2, _, hz' => cases hz'; rfl
    refine ⟨b3, _, 3, .str "NoForm", rfl, rfl, SqL.of e7, atI_nat (j := 3) rfl, _, _, rfl, rfl, by decide, ?_⟩
    exact q H7 s7
end
end PF

namespace PF
open PySem PySem.Spec PyProof.Rows L2 ZG HU
/-- what _law_how makes of what it is handed -/
def THow (D : Addr) : (XK → Hp → VK → Prop) → Hp → VK → Prop := fun tl H Q =>
  tl (fun cls d H' => cls = .ref D ∧ d = none ∧ ∀ H2 l, Same H' H2 → H' l = none → H2 l = some (.lst [.str "!NoForm"]) → Q (.ref l) H2) H (fun v H' => 2 ≤ sizeLine ∧ ∀ l, H' l = none → Q (.ref l) (upd H' l (.lst [.str "told", v])))
theorem how_gives {X : Cx} {g D cW fK : Addr} {cdg : Value} {q : Str} {dK : FuncData} {c : Fin 13 → Addr} {k : Nat} (A : KF X.K X.mg D cW c) (T : Txt X.mg) (GK : FnU X.prog X.w X.K X.mg X.base 1 fK dK ["e"] (spKind D "!NoForm")) (kK : PySem.W.keepIn X.K (.ref fK) = true) (bK : L2.Binds X.K dK ["e"] []) (mK : X.mg "_law_kind" = some (.ref fK))
    (eA : PySem.W.exmAny X.K (.ref D) [.ref (c 0), .ref (c 1), .ref (c 2), .ref (c 7), .ref (c 8)] = some false) (hr : Room (k + 4) X.A) :
    LamX.GivesTo X ["deed", "e"] "_law_how" (defScope sHow) g cdg (defBody sHow) "deed" q (THow D) := by
  intro f c' s H Q tl act hc h
  have hrd : Room (k + 3) (X.A.deeper (envOfC "_law_how" (defScope sHow) s.heap.objs.size g cdg)) := hr.deeper _
  refine ⟨_, pss_one (ps_try_how (X := (cxOf C8.CX0 X.prog X.w X.K X.mg X.base ["deed", "e"] "_law_how" (defScope sHow) g cdg X.A X.stack s H C8.E0).nox) (i := 1)
      (tb := fun W D' σ H => ∃ Ech : XK, (∀ cls d σ' H', Ech cls d H' → W cls d σ' H') ∧ σ[0]? = some (some (.ref f)) ∧ H c' = some (LamX.CodeO c' q) ∧ tl Ech H (fun v H1 => 2 ≤ sizeLine ∧ ∀ l, H1 l = none → D'.rt (.ref l) (upd H1 l (.lst [.str "told", v]))))
      (t1 := fun _ _ _ => tNever) (t2 := fun a cls d D' σ H => cls = .ref D ∧ d = none ∧ (∃ σ0 : L2.St, σ = σ0.set 1 (some (.ref a))) ∧ ∀ H' l, Same H H' → H l = none → H' l = some (.lst [.str "!NoForm"]) → D'.rt (.ref l) H')
      rfl rfl scHow.nd rfl rfl ⟨by rfl, by decide, .inl A.m0⟩ ⟨by rfl, by decide, .inl A.m1⟩ ⟨by rfl, by decide, .inl A.m2⟩ ⟨by rfl, by decide, .inl A.m7⟩ ⟨by rfl, by decide, .inl A.m8⟩ ⟨by rfl, by decide, .inl A.mW⟩
      (fun W pn xe tk _ => ?_) (fun _ _ _ _ _ _ _ => pss_never) (fun a oe cls d pn hz hf => ?_)), ?_⟩
  · refine ⟨fun pins s' σ H' D' I h' => ?_⟩
    obtain ⟨Ech, hW, h1, h2, h3⟩ := h'
    exact PSs.run (pss_one (ps_ret (pe_lst (pa_cons pe_str (pa_cons (act W pn xe Ech _ _ tk hW) pa_nil))))) pins s' σ H' D' I ⟨h1, h2, h3⟩
  · refine ⟨fun pins s' σ H' D' I h' => ?_⟩
    obtain ⟨e1, e2, ⟨σ0, e3'⟩, h3⟩ := h'
    subst e1 e2
    have e3 : σ[1]? = some (some (V.ref a)) := by
      have hl : σ.length = 2 := I.len
      rw [e3'] at hl ⊢
      rw [List.length_set] at hl
      rw [List.getElem?_set_self (by omega)]
    have rm : L2H.RoomH 1 _ := ⟨(hrd.mono (show 1 ≤ k + 3 by omega)).dp, (hrd.mono (show 1 ≤ k + 3 by omega)).un⟩
    refine PSs.run (pss_one (ps_ret (pe_lst (pa_cons (pe_callU (X := (cxOf C8.CX0 X.prog X.w X.K X.mg X.base ["deed", "e"] "_law_how" (defScope sHow) g cdg X.A X.stack s H C8.E0).nox.suite a ((a, oe) :: pn)) (p := (a, oe)) GK ⟨rm.dp, rm.un⟩ (List.mem_cons_self ..) (by rfl) mK kK bK (pa_cons (pv 1) pa_nil)) pa_nil)))) pins s' σ H' D' I ⟨_, e3, rfl, hz, hf, fun H2 s2 => ⟨(by decide : 1 ≤ sizeLine), fun l hl => ?_⟩⟩
    exact h3 _ l (s2.trans (same_new hl)) (s2.free hl) upd_same
  · refine ⟨fun cls d H' => cls = .ref D ∧ d = none ∧ ∀ H2 l, Same H' H2 → H' l = none → H2 l = some (.lst [.str "!NoForm"]) → Q (.ref l) H2, fun cls d σ' H' hh => ?_, rfl, hc, ?_⟩
    · obtain ⟨rfl, rfl, hh⟩ := hh
      refine ⟨false, eA, fun z => (nomatch z), fun _ => ⟨A.eW, fun a na => ⟨rfl, rfl, ⟨_, rfl⟩, hh⟩⟩⟩
    · exact h
end PF

namespace PF
open PySem PySem.Spec PyProof.Rows L2 ZG HU
/-- the class at D may be raised -/
structure EF (K : PySem.W.Frag) (mg : Str → Option Value) (D : Addr) : Prop where
  g : mg "NoForm" = some (.ref D)
  x : PySem.W.excIn K D [.type "ValueError", .type "Exception", .type "BaseException", .type "object"] "ValueError.__new__" = true
  k : PySem.W.keepIn K (.ref D) = true
  b : PySem.W.subIn K (.ref D) (.type "BaseException") = some true
  t : PySem.W.typeIn K (.ref D) = some (.type "type")
section
variable {P : Program} {w : World} {K : PySem.W.Frag} {mg : Str → Option Value} {base : Heap}
def spLookX (K : PySem.W.Frag) (D : Addr) : Sp := fun vs H Q E => ∃ (x : V) (b : Bool), vs = [x] ∧ Formy K H x b ∧ (b = true → ∀ H', Same H H' → Q .non H') ∧ (b = false → ∀ H', Same H H' → E (.ref D) none H')
theorem ok_lookX {f f1 D : Addr} {fd fd1 : FuncData} (F : Fun K "_look_form" "_look_form" sLook f fd) (G1 : FnOk P w K mg base CX0 2 f1 fd1 ["thing"] (spIsForm K)) (k1 : PySem.W.keepIn K (.ref f1) = true) (b1 : Binds K fd1 ["thing"] []) (m1 : mg "is_form" = some (.ref f1)) (A : EF K mg D) :
    FnOk P w K mg base (L2.CX P w) 3 f fd ["form"] (spLookX K D) := by
  refine F.okX scLook (fun vs H Q E h => ?_) (fun cdv Ar outer s H vs Q E hr h => ?_)
  · obtain ⟨x, b, rfl, _⟩ := h
    rfl
  · obtain ⟨x, b, rfl, hf, q1, q2⟩ := h
    refine ⟨_, pss_one (ps_if (pt_not (pt_val (pe_call G1 hr (by rfl) m1 k1 b1 .nil pass0 (pa_cons (pv 0) pa_nil)))) (pss_one (ps_raise rfl (takes_of rfl rfl rfl rfl) (pmk_own PySem.F.excBase_ValueError A.x A.g A.k (raises_own A.b A.t) rfl))) pss_nil), ?_⟩
    refine ⟨x, rfl, x, b, rfl, hf, fun H' s1 => ⟨b, rfl, ?_⟩⟩
    cases b with
    | true => exact iteF (q1 rfl H' s1)
    | false => exact iteT (q2 rfl H' s1)
/-- things that may be asked whether they are worths: a row, or something else -/
def Wsy (K : PySem.W.Frag) (H : Hp) (y : V) (o : Option (List String)) : Prop :=
  (∃ t b ys ns, y = .ref b ∧ SqG t K H b ys ∧ ys.length ≤ 1000 ∧ Tys K H ys ns ∧ o = some ns) ∨ (∃ n, TyX K H y (.type n) ∧ n ∈ kinds ∧ isSeq n = false ∧ o = none)
def dotW : List Int → List Int → Int
  | n :: ns, v :: vs => n * v + dotW ns vs
  | _, _ => 0
def worthF : List Int → List Int → Int
  | x :: ns, vs => x + dotW ns vs
  | [], _ => 0
/-- a form of the length n + 1 and what is no right row of worths for it -/
def BadW (K : PySem.W.Frag) (H : Hp) (x y : V) : Prop := Formy K H x false ∨
  ∃ a xs, x = .ref a ∧ SqT K H a xs ∧ Formy K H x true ∧ ((∃ n, TyX K H y (.type n) ∧ n ∈ kinds ∧ isSeq n = false) ∨
    (∃ t b ys ns, y = .ref b ∧ SqG t K H b ys ∧ ys.length ≤ 1000 ∧ Tys K H ys ns ∧ (ns.all isInt = false ∨ ys.length + 1 ≠ xs.length)))
def spWorth (K : PySem.W.Frag) (D : Addr) : Sp := fun vs H Q E => ∃ x y : V, vs = [x, y] ∧
  ((∃ t a b f ws, x = .ref a ∧ y = .ref b ∧ FAt K H a f ∧ SqG t K H b (ws.map V.int) ∧ f.length = ws.length + 1 ∧ f.length ≤ 1000 ∧ (∀ v ∈ ws, v.natAbs ≤ 1000000) ∧ ∀ H', Same H H' → Q (.int (worthF f ws)) H') ∨
   (BadW K H x y ∧ ∀ H', Same H H' → E (.ref D) none H'))
abbrev sWorth : Stmt := topS 20
theorem scWorth : FnScope ["form", "worths", "number", "its_worth"] ["form", "worths"] (defScope sWorth) := ⟨rfl, rfl, rfl, by decide +kernel, rfl, by decide +kernel, by decide +kernel⟩
theorem iteNF {c A B : Prop} [Decidable c] (hc : ¬ c) (h : A) : if (!decide c) = true then A else B := by
  rw [decide_eq_false hc]
  exact iteT h
theorem cut_one (xs : List V) : cutV xs (some 1) none = xs.drop 1 := by
  unfold cutV
  rw [show HT.sIx xs.length 0 (some 1) = min 1 xs.length from HT.sIx_nat xs.length 0 1, HT.sIx_none]
  cases xs with
  | nil => rfl
  | cons x r =>
    rw [show min 1 (x :: r).length = 1 by rw [List.length_cons]; omega]
    show List.take ((x :: r).length - 1) r = r
    exact List.take_of_length_le (by rw [List.length_cons]; omega)
theorem not_whole {x : V} {r : List V} : ¬ (HT.sIx (x :: r).length 0 (some 1) = 0 ∧ HT.sIx (x :: r).length (x :: r).length none = (x :: r).length) := fun z => by
  have e := z.1
  rw [show HT.sIx (x :: r).length 0 (some 1) = min 1 (x :: r).length from HT.sIx_nat _ 0 1, List.length_cons] at e
  omega
theorem int_at {f : List Int} {i : Nat} {x : V} (h : (f.map V.int)[i]? = some x) : ∃ n, x = .int n ∧ f[i]? = some n := by
  rw [List.getElem?_map] at h
  cases e : f[i]? with
  | none =>
    rw [e] at h
    cases h
  | some v =>
    rw [e] at h
    exact ⟨v, (Option.some.inj h).symm, rfl⟩
theorem dotW_snoc : ∀ (ns vs : List Int) (i : Nat) (n v : Int), ns[i]? = some n → vs[i]? = some v → (List.zipWith (fun a b => a * b) ns vs)[i]? = some (n * v)
  | ns, vs, i, n, v, h1, h2 => by
    rw [List.getElem?_zipWith, h1, h2]
theorem dotW_sum : ∀ (ns vs : List Int), (List.zipWith (fun a b => a * b) ns vs).sum = dotW ns vs
  | [], vs => by cases vs <;> rfl
  | n :: ns, [] => rfl
  | n :: ns, v :: vs => by
    show (n * v :: List.zipWith (fun a b => a * b) ns vs).sum = n * v + dotW ns vs
    rw [List.sum_cons, dotW_sum ns vs]
theorem ok_worth {f fL fS fW D : Addr} {fd dL dS dW : FuncData} (F : Fun K "worth" "worth" sWorth f fd)
    (GL : FnOk P w K mg base (L2.CX P w) 3 fL dL ["form"] (spLookX K D)) (kL : PySem.W.keepIn K (.ref fL) = true) (bL : Binds K dL ["form"] []) (mL : mg "_look_form" = some (.ref fL))
    (GS : FnOk P w K mg base CX0 1 fS dS ["thing"] (spSeqn K)) (kS : PySem.W.keepIn K (.ref fS) = true) (bS : Binds K dS ["thing"] []) (mS : mg "is_sequence" = some (.ref fS))
    (GW : FnOk P w K mg base CX0 1 fW dW ["thing"] (spWhole K)) (kW : PySem.W.keepIn K (.ref fW) = true) (bW : Binds K dW ["thing"] []) (mW : mg "is_whole" = some (.ref fW)) (T : Txt mg) (A : EF K mg D) :
    FnOk P w K mg base (L2.CX P w) 4 f fd ["form", "worths"] (spWorth K D) := by
  refine F.okX scWorth (fun vs H Q E h => ?_) (fun cdv Ar outer s H vs Q E hr h => ?_)
  · obtain ⟨x, y, rfl, _⟩ := h
    rfl
  · obtain ⟨x, y, rfl, h⟩ := h
    have hr1 : Room 1 _ := hr.mono (by decide)
    refine ⟨_, pss_cons (ps_expr (pe_call GL hr (by rfl) mL kL bL .nil (passes_call (takes_of rfl rfl rfl rfl) fun _ _ _ _ h => h) (pa_cons (pv 0) pa_nil)))
      (pss_cons (ps_if (PW.pt (pw_or (pt_not (pt_val (pe_call GS hr1 (by rfl) mS kS bS .nil pass0 (pa_cons (pv 1) pa_nil))))
          (pw_or1 (pt_not (pt_val (pe_callB (cr_all rfl) (by rfl) T.all (by decide +kernel) (pa_cons (pe_lc (own := [("number", 2)]) (g := gName 2) (tt := tYes) rfl scWorth.nd (pi_seqV (pv 1)) (blkOk_by (N := ["form", "worths", "number", "its_worth"]) (sc := defScope sWorth) (by decide +kernel))
            (fun _ _ _ _ _ => pg_name (i := 2) scWorth.nd rfl (Or.inl rfl)) (fun _ _ _ _ _ => pts_nil) (fun _ _ _ _ _ => pe_call GW hr1 (by rfl) mW kW bW .nil pass0 (pa_cons (pv 2) pa_nil))) pa_nil)))))))
          (pss_one (ps_raise rfl (takes_of rfl rfl rfl rfl) (pmk_own PySem.F.excBase_ValueError A.x A.g A.k (raises_own A.b A.t) rfl))) pss_nil)
      (pss_cons (ps_if (pt_cmpR op_ne (pe_callB call_len_seq (by rfl) T.len PySem.boot_len (pa_cons (pv 1) pa_nil)) (pe_op op_sub (pe_callB call_len_seq (by rfl) T.len PySem.boot_len (pa_cons (pv 0) pa_nil)) pe_int) (nomark _))
          (pss_one (ps_raise rfl (takes_of rfl rfl rfl rfl) (pmk_own PySem.F.excBase_ValueError A.x A.g A.k (raises_own A.b A.t) rfl))) pss_nil)
      (pss_one (ps_ret (pe_op op_add (pe_ix ix_tup (pv 0) pe_int (fun _ _ => rfl)) (pe_callB (cr_sum rfl) (by rfl) T.sum (by decide +kernel) (pa_cons (pe_lc (own := [("number", 2), ("its_worth", 3)]) (g := gTup _ 2 (gCons (gName 2) (gCons (gName 3) gNil))) (tt := tYes) rfl scWorth.nd
        (pi_zipG (by rfl) T.zip (pa_cons (pe_slice sl_tupA (pv 0) (po_some pe_int) po_none) (pa_cons (pv 1) pa_nil))) (blkOk_by (N := ["form", "worths", "number", "its_worth"]) (sc := defScope sWorth) (by decide +kernel))
        (fun _ _ _ _ _ => pg_tup rfl (pgs_cons (pg_name (i := 2) scWorth.nd rfl (Or.inl rfl)) (pgs_cons (pg_name (i := 3) scWorth.nd rfl (Or.inl rfl)) pgs_nil))) (fun _ _ _ _ _ => pts_nil) (fun _ _ _ _ _ => pe_op op_mul (pv 2) (pv 3))) pa_nil))))))), ?_⟩
    have three : (Formy K H x false ∧ ∀ H', Same H H' → E (.ref D) none H') ∨ ((Formy K H x true ∧ ∃ n, TyX K H y (.type n) ∧ n ∈ kinds ∧ isSeq n = false) ∧ ∀ H', Same H H' → E (.ref D) none H') ∨
        (∃ a xs t b ys ns, x = .ref a ∧ SqT K H a xs ∧ Formy K H x true ∧ y = .ref b ∧ SqG t K H b ys ∧ ys.length ≤ 1000 ∧ Tys K H ys ns ∧
          (((ns.all isInt = false ∨ ys.length + 1 ≠ xs.length) ∧ ∀ H', Same H H' → E (.ref D) none H') ∨ (∃ f ws, xs = f.map V.int ∧ ys = ws.map V.int ∧ ns.all isInt = true ∧ f.length = ws.length + 1 ∧ f.length ≤ 1000 ∧ (∀ v ∈ ws, v.natAbs ≤ 1000000) ∧ ∀ H', Same H H' → Q (.int (worthF f ws)) H'))) := by
      rcases h with ⟨t, a, b, f, ws, rfl, rfl, ha, hb, hl, h9, hw, q⟩ | ⟨bad, q⟩
      · exact .inr (.inr ⟨a, f.map V.int, t, b, ws.map V.int, ws.map fun _ => "int", rfl, ha, ha.formy h9 (fun z => by rw [z] at hl; simp at hl), rfl, hb, by rw [List.length_map]; omega, ints_tys ws, .inr ⟨f, ws, rfl, rfl, ints_all ws, hl, h9, hw, q⟩⟩)
      · rcases bad with bad | ⟨a, xs, rfl, hT, hf, bad | ⟨t, b, ys, ns, rfl, hb, h9, ht, bad⟩⟩
        · exact .inl ⟨bad, q⟩
        · exact .inr (.inl ⟨⟨hf, bad⟩, q⟩)
        · exact .inr (.inr ⟨a, xs, t, b, ys, ns, rfl, hT, hf, rfl, hb, h9, ht, .inl ⟨bad, q⟩⟩)
    rcases three with ⟨hf, q⟩ | ⟨⟨hf, n, ty, hn, hs⟩, q⟩ | ⟨a, xs, t, b, ys, ns, rfl, hT, hf, rfl, hb, h9, ht, q⟩
    · exact ⟨_, rfl, x, false, rfl, hf, (fun z => nomatch z), fun _ H' s1 => q H' s1⟩
    · refine ⟨_, rfl, x, true, rfl, hf, (fun _ H1 s1 => ?_), fun z => nomatch z⟩
      refine ⟨_, rfl, y, n, rfl, TyX.same s1 ty, hn, fun H2 s2 => ⟨_, rfl, ?_⟩⟩
      rw [hs]
      exact iteT (q H2 (s1.trans s2))
    · refine ⟨_, rfl, _, true, rfl, hf, (fun _ H1 s1 => ?_), fun z => nomatch z⟩
      obtain ⟨n, ty, hn, hq⟩ := SqG.ty (Same.sq s1 hb)
      refine ⟨_, rfl, _, n, rfl, ty, hn, fun H2 s2 => ⟨_, rfl, ?_⟩⟩
      rw [hq]
      refine iteF ?_
      have s12 := s1.trans s2
      refine ⟨t, b, ys, rfl, Same.sq s12 hb, fun L hL => ?_⟩
      refine lc_it walkS (fun i H' => Same H2 H' ∧ H' L = some (.lst (((ns.map isInt).take i).map V.bl))) ⟨same_new hL, upd_same⟩ (fun i H' _ p => Same.sq (s12.trans p.1) hb) ?_ ?_
      · rintro i v H3 H4 hi ⟨s3, e3⟩ ⟨rfl, hx⟩
        have hi2 : i < ns.length := by rw [← ht.1]; exact hi
        have hni := List.getElem?_eq_getElem hi2
        have tv := ht.2 i v _ hx hni
        refine ⟨rfl, ?_⟩
        refine ⟨v, rfl, v, _, rfl, TyX.same (s12.trans s3) tv.1, tv.2, _, e3, ?_, fun c o e => ?_, ?_⟩
        · rw [List.length_map, List.length_take]
          exact Nat.lt_of_le_of_lt (Nat.le_trans (Nat.min_le_left _ _) (by omega)) (small1000 h9)
        · rw [upd_ne (ne_of_none e hL)]
          exact s3 c o e
        · rw [upd_same, List.take_add_one, List.getElem?_map, hni, List.map_append]
          rfl
      rintro H3 ⟨s3, e3⟩
      rw [show ys.length = (ns.map isInt).length by rw [ht.1, List.length_map], List.take_length] at e3
      have s13 := s12.trans s3
      refine ⟨L, ns.map isInt, rfl, SqL.of e3, _, rfl, ?_⟩
      rw [List.all_map]
      show if (!(ns.all isInt)) = true then _ else _
      rcases q with ⟨bad, q⟩ | ⟨f, ws, rfl, rfl, hall, hl, hl9, hw, q⟩
      · cases hal : ns.all isInt with
        | false => exact iteT (q H3 s13)
        | true =>
          refine iteF ?_
          refine ⟨_, rfl, b, ys, rfl, SqG.lt (Same.sq s13 hb), _, rfl, a, xs, rfl, .inr (Same.tup s13 hT), _, _, rfl, rfl, rfl, _, rfl, ?_⟩
          have ne : ys.length + 1 ≠ xs.length := by
            rcases bad with z | z
            · rw [hal] at z
              cases z
            · exact z
          refine iteNF (fun z => ?_) (q H3 s13)
          have := V.int.inj z
          omega
      · rw [hall]
        refine iteF ?_
        refine ⟨_, rfl, b, _, rfl, SqG.lt (Same.sq s13 hb), _, rfl, a, _, rfl, .inr (Same.tup s13 hT), _, _, rfl, rfl, rfl, _, rfl, ?_⟩
        rw [List.length_map, List.length_map, hl]
        refine iteNS (congrArg V.int (by omega)) ?_
        obtain ⟨x0, nsF, rfl⟩ : ∃ x0 nsF, f = x0 :: nsF := by
          cases f with
          | nil => simp at hl
          | cons x r => exact ⟨x, r, rfl⟩
        have hlen : nsF.length = ws.length := by simpa using hl
        have hA := Same.tup s13 hT
        refine ⟨_, rfl, a, _, 0, .int x0, rfl, rfl, hA, atI_nat (j := 0) rfl, ?_⟩
        refine ⟨_, rfl, 1, rfl, a, _, rfl, hA, fun z => absurd z not_whole, fun _ u hu => ?_⟩
        have s4 := s13.trans (same_new (o := .tup (cutV ((x0 :: nsF).map V.int) (some 1) none)) hu)
        have hU : SqG true K (upd H3 u (.tup (cutV ((x0 :: nsF).map V.int) (some 1) none))) u (nsF.map V.int) := .inl (.inl (upd_same.trans (by rw [cut_one]; rfl)))
        have hB := Same.sq s4 hb
        refine ⟨_, rfl, true, t, u, b, _, _, rfl, hU, hB, fun M hM => ?_⟩
        generalize upd H3 u (.tup (cutV ((x0 :: nsF).map V.int) (some 1) none)) = H4 at *
        refine lc_it (walkG (xs := nsF.map V.int) (ys := ws.map V.int) (n := ws.length) (by simp; omega)) (fun i H' => Same H4 H' ∧ H' M = some (.lst (((List.zipWith (fun a b => a * b) nsF ws).take i).map V.int))) ⟨same_new hM, upd_same⟩ (fun i H' _ p => ⟨Same.sq p.1 hU, Same.sq p.1 hB⟩) ?_ ?_
        · rintro i v H5 H6 hi ⟨s5, e5⟩ ⟨U, vx, vy, rfl, hU6, rfl, hvx, hvy⟩
          obtain ⟨n1, rfl, hn1⟩ := int_at hvx
          obtain ⟨n2, rfl, hn2⟩ := int_at hvy
          refine ⟨U, [.int n1, .int n2], rfl, .inl (.inl upd_same), rfl, .int n1, [.int n2], rfl, .int n2, [], rfl, rfl, rfl, ?_⟩
          have ne : M ≠ U := ne_of_none e5 hU6
          refine ⟨_, rfl, _, rfl, n1, n2, rfl, rfl, ?_, _, Eq.trans (upd_ne ne) e5, ?_, fun c o e => ?_, ?_⟩
          · have := hw n2 (List.mem_of_getElem? hn2)
            exact .inr ⟨by omega, by omega⟩
          · rw [List.length_map, List.length_take]
            exact Nat.lt_of_le_of_lt (Nat.min_le_left _ _) (small1000 (by omega))
          · rw [upd_ne (ne_of_none e hM), upd_ne (ne_of_none (s5 c o e) hU6)]
            exact s5 c o e
          · rw [upd_same, List.take_add_one, dotW_snoc nsF ws i n1 n2 hn1 hn2, List.map_append]
            rfl
        · rintro H5 ⟨s5, e5⟩
          rw [show ws.length = (List.zipWith (fun a b => a * b) nsF ws).length by rw [List.length_zipWith]; omega, List.take_length] at e5
          refine ⟨M, _, rfl, SqL.of e5, _, _, rfl, rfl, ?_⟩
          rw [dotW_sum]
          exact q H5 (s4.trans s5)
end
end PF

namespace PF
open PySem PySem.Spec PyProof.Rows L2 ZG HU
abbrev sAdded : Stmt := topS 21
abbrev sOften : Stmt := topS 22
theorem scAdded : FnScope ["one", "other", "number", "further"] ["one", "other"] (defScope sAdded) := ⟨rfl, rfl, rfl, by decide +kernel, rfl, by decide +kernel, by decide +kernel⟩
theorem scOften : FnScope ["form", "many", "number"] ["form", "many"] (defScope sOften) := ⟨rfl, rfl, rfl, by decide +kernel, rfl, by decide +kernel, by decide +kernel⟩
/-- the sum, number by number -/
def addF (f g : List Int) : List Int := List.zipWith (fun x y => x + y) f g
theorem addF_len {f g : List Int} (h : f.length = g.length) : (addF f g).length = f.length := by
  unfold addF
  rw [List.length_zipWith]
  omega
theorem addF_get {f g : List Int} {i : Nat} {x y : Int} (hx : f[i]? = some x) (hy : g[i]? = some y) : (addF f g)[i]? = some (x + y) := by
  unfold addF
  rw [List.getElem?_zipWith, hx, hy]
/-- not too great -/
def Bnd (f : List Int) : Prop := ∀ x ∈ f, x.natAbs < 2 ^ 250
def oftF (f : List Int) (m : Int) : List Int := f.map fun x => x * m
theorem oftF_len (f : List Int) (m : Int) : (oftF f m).length = f.length := List.length_map ..
theorem Formy.same {K : PySem.W.Frag} {H H' : Hp} {x : V} {b : Bool} (e : Same H H') (h : Formy K H x b) : Formy K H' x b := by
  rcases h with ⟨a, xs, ns, h1, h2, h3, h4, h5⟩ | ⟨n, h1, h2⟩
  · exact .inl ⟨a, xs, ns, h1, Same.tup e h2, h3, Tys.same e h4, h5⟩
  · exact .inr ⟨n, TyX.same e h1, h2⟩
section
variable {P : Program} {w : World} {K : PySem.W.Frag} {mg : Str → Option Value} {base : Heap}
def BadA (K : PySem.W.Frag) (H : Hp) (x y : V) : Prop := Formy K H x false ∨ (Formy K H x true ∧ Formy K H y false) ∨
  ∃ a b xs ys, x = .ref a ∧ y = .ref b ∧ SqT K H a xs ∧ SqT K H b ys ∧ Formy K H x true ∧ Formy K H y true ∧ xs.length ≠ ys.length
def spAdded (K : PySem.W.Frag) (D : Addr) : Sp := fun vs H Q E => ∃ x y : V, vs = [x, y] ∧
  ((∃ (a b : Addr) (f g : List Int), x = .ref a ∧ y = .ref b ∧ FAt K H a f ∧ FAt K H b g ∧ f ≠ [] ∧ f.length ≤ 1000 ∧ f.length = g.length ∧ ∀ H' p, Same H H' → H p = none → H' p = some (.tup ((addF f g).map V.int)) → Q (.ref p) H') ∨
   (BadA K H x y ∧ ∀ H', Same H H' → E (.ref D) none H'))
theorem ok_added {f f1 D : Addr} {fd fd1 : FuncData} (F : Fun K "added" "added" sAdded f fd) (G1 : FnOk P w K mg base (L2.CX P w) 3 f1 fd1 ["form"] (spLookX K D)) (k1 : PySem.W.keepIn K (.ref f1) = true) (b1 : Binds K fd1 ["form"] []) (m1 : mg "_look_form" = some (.ref f1)) (T : Txt mg) (A : EF K mg D) :
    FnOk P w K mg base (L2.CX P w) 4 f fd ["one", "other"] (spAdded K D) := by
  refine F.okX scAdded (fun vs H Q E h => ?_) (fun cdv Ar outer s H vs Q E hr h => ?_)
  · obtain ⟨x, y, rfl, _⟩ := h
    rfl
  · obtain ⟨x, y, rfl, h⟩ := h
    refine ⟨_, pss_cons (ps_expr (pe_call G1 hr (by rfl) m1 k1 b1 .nil (passes_call (takes_of rfl rfl rfl rfl) fun _ _ _ _ h => h) (pa_cons (pv 0) pa_nil)))
      (pss_cons (ps_expr (pe_call G1 hr (by rfl) m1 k1 b1 .nil (passes_call (takes_of rfl rfl rfl rfl) fun _ _ _ _ h => h) (pa_cons (pv 1) pa_nil)))
      (pss_cons (ps_if (pt_cmpR op_ne (pe_callB call_len_seq (by rfl) T.len PySem.boot_len (pa_cons (pv 0) pa_nil)) (pe_callB call_len_seq (by rfl) T.len PySem.boot_len (pa_cons (pv 1) pa_nil)) (nomark _))
        (pss_one (ps_raise rfl (takes_of rfl rfl rfl rfl) (pmk_own PySem.F.excBase_ValueError A.x A.g A.k (raises_own A.b A.t) rfl))) pss_nil)
      (pss_one (ps_ret (pe_callTy call_tuple_of (by rfl) T.tuple (by decide +kernel) (pa_cons (pe_lc (own := [("number", 2), ("further", 3)]) (g := gTup _ 2 (gCons (gName 2) (gCons (gName 3) gNil))) (tt := tYes) rfl scAdded.nd (pi_zipG (by rfl) T.zip (pa_cons (pv 0) (pa_cons (pv 1) pa_nil))) (blkOk_by (N := ["one", "other", "number", "further"]) (sc := defScope sAdded) (by decide +kernel))
        (fun _ _ _ _ _ => pg_tup rfl (pgs_cons (pg_name (i := 2) scAdded.nd rfl (Or.inl rfl)) (pgs_cons (pg_name (i := 3) scAdded.nd rfl (Or.inl rfl)) pgs_nil))) (fun _ _ _ _ _ => pts_nil)
        (fun _ _ _ _ _ => pe_op op_add (pv 2) (pv 3))) pa_nil)))))), ?_⟩
    rcases h with ⟨a, b, f, g, rfl, rfl, ha, hb, h0, hl, he, q⟩ | ⟨bad, q⟩
    · have g0 : g ≠ [] := fun z => h0 (List.eq_nil_of_length_eq_zero (by rw [he, z]; rfl))
      refine ⟨_, rfl, _, true, rfl, ha.formy hl h0, (fun _ H1 s1 => ?_), fun z => nomatch z⟩
      refine ⟨_, rfl, _, true, rfl, (Same.f s1 hb).formy (by omega) g0, (fun _ H2 s2 => ?_), fun z => nomatch z⟩
      have s3 := s1.trans s2
      have hA : SqG true K H2 a (f.map V.int) := Same.f s3 ha
      have hB : SqG true K H2 b (g.map V.int) := Same.f s3 hb
      refine ⟨_, rfl, a, _, rfl, .inr hA, _, rfl, b, _, rfl, .inr hB, rfl, _, rfl, ?_⟩
      rw [List.length_map, List.length_map, he]
      refine iteNS rfl ?_
      refine ⟨_, rfl, _, rfl, true, true, a, b, _, _, rfl, hA, hB, fun L hL => ?_⟩
      refine lc_it (walkG (xs := f.map V.int) (ys := g.map V.int) (n := f.length) (by simp; omega)) (fun i H' => Same H2 H' ∧ H' L = some (.lst (((addF f g).take i).map V.int))) ⟨same_new hL, upd_same⟩ (fun i H' _ p => ⟨Same.sq p.1 hA, Same.sq p.1 hB⟩) ?_ ?_
      · rintro i v H3 H4 hi ⟨s4, e4⟩ ⟨U, x, y, rfl, hU, rfl, hx, hy⟩
        obtain ⟨n, rfl, hn⟩ := int_at hx
        obtain ⟨m, rfl, hm⟩ := int_at hy
        refine ⟨U, [.int n, .int m], rfl, .inl (.inl upd_same), rfl, .int n, [.int m], rfl, .int m, [], rfl, rfl, rfl, ?_⟩
        have ne : L ≠ U := ne_of_none e4 hU
        refine ⟨_, rfl, _, rfl, n, m, rfl, rfl, _, Eq.trans (upd_ne ne) e4, ?_, fun c o e => ?_, ?_⟩
        · rw [List.length_map, List.length_take]
          exact Nat.lt_of_le_of_lt (Nat.min_le_left _ _) (small1000 (by omega))
        · rw [upd_ne (ne_of_none e hL), upd_ne (ne_of_none (s4 c o e) hU)]
          exact s4 c o e
        · rw [upd_same, List.take_add_one, addF_get hn hm, List.map_append]
          rfl
      · rintro H3 ⟨s4, e4⟩
        rw [← addF_len he, List.take_length] at e4
        refine ⟨L, _, rfl, .inl ⟨SqL.of e4, fun l hl => ?_⟩⟩
        exact q _ l (s3.trans (s4.trans (same_new hl))) ((s3.trans s4).free hl) upd_same
    · rcases bad with hx | ⟨hx, hy⟩ | ⟨a, b, xs, ys, rfl, rfl, ha, hb, hx, hy, ne⟩
      · exact ⟨_, rfl, x, false, rfl, hx, (fun z => nomatch z), fun _ H1 s1 => q H1 s1⟩
      · exact ⟨_, rfl, x, true, rfl, hx, (fun _ H1 s1 => ⟨_, rfl, y, false, rfl, Formy.same s1 hy, (fun z => nomatch z), fun _ H2 s2 => q H2 (s1.trans s2)⟩), fun z => nomatch z⟩
      · refine ⟨_, rfl, _, true, rfl, hx, (fun _ H1 s1 => ⟨_, rfl, _, true, rfl, Formy.same s1 hy, (fun _ H2 s2 => ?_), fun z => nomatch z⟩), fun z => nomatch z⟩
        have s3 := s1.trans s2
        refine ⟨_, rfl, a, _, rfl, .inr (Same.tup s3 ha), _, rfl, b, _, rfl, .inr (Same.tup s3 hb), rfl, _, rfl, ?_⟩
        refine iteNF (fun z => ?_) (q H2 s3)
        have := V.int.inj z
        omega
def BadO (K : PySem.W.Frag) (H : Hp) (x y : V) : Prop := Formy K H x false ∨ (Formy K H x true ∧ ∃ n, TyX K H y (.type n) ∧ n ∈ kinds ∧ isInt n = false)
def spOften (K : PySem.W.Frag) (D : Addr) : Sp := fun vs H Q E => ∃ x y : V, vs = [x, y] ∧
  ((∃ (a : Addr) (f : List Int) (m : Int), x = .ref a ∧ y = .int m ∧ FAt K H a f ∧ f ≠ [] ∧ f.length ≤ 1000 ∧ Bnd f ∧ m.natAbs < 2 ^ 250 ∧ ∀ H' p, Same H H' → H p = none → H' p = some (.tup ((oftF f m).map V.int)) → Q (.ref p) H') ∨
   (BadO K H x y ∧ ∀ H', Same H H' → E (.ref D) none H'))
theorem ok_often {f f1 f2 D : Addr} {fd fd1 fd2 : FuncData} (F : Fun K "often" "often" sOften f fd) (G1 : FnOk P w K mg base (L2.CX P w) 3 f1 fd1 ["form"] (spLookX K D)) (k1 : PySem.W.keepIn K (.ref f1) = true) (b1 : Binds K fd1 ["form"] []) (m1 : mg "_look_form" = some (.ref f1))
    (G2 : FnOk P w K mg base CX0 1 f2 fd2 ["thing"] (spWhole K)) (k2 : PySem.W.keepIn K (.ref f2) = true) (b2 : Binds K fd2 ["thing"] []) (m2 : mg "is_whole" = some (.ref f2)) (T : Txt mg) (A : EF K mg D) :
    FnOk P w K mg base (L2.CX P w) 4 f fd ["form", "many"] (spOften K D) := by
  refine F.okX scOften (fun vs H Q E h => ?_) (fun cdv Ar outer s H vs Q E hr h => ?_)
  · obtain ⟨x, y, rfl, _⟩ := h
    rfl
  · obtain ⟨x, y, rfl, h⟩ := h
    refine ⟨_, pss_cons (ps_expr (pe_call G1 hr (by rfl) m1 k1 b1 .nil (passes_call (takes_of rfl rfl rfl rfl) fun _ _ _ _ h => h) (pa_cons (pv 0) pa_nil)))
      (pss_cons (ps_if (pt_not (pt_val (pe_call G2 (hr.mono (by decide)) (by rfl) m2 k2 b2 .nil pass0 (pa_cons (pv 1) pa_nil)))) (pss_one (ps_raise rfl (takes_of rfl rfl rfl rfl) (pmk_own PySem.F.excBase_ValueError A.x A.g A.k (raises_own A.b A.t) rfl))) pss_nil)
      (pss_one (ps_ret (pe_callTy call_tuple_of (by rfl) T.tuple (by decide +kernel) (pa_cons (pe_lc (own := [("number", 2)]) (g := gName 2) (tt := tYes) rfl scOften.nd (pi_tup (pv 0)) (blkOk_by (N := ["form", "many", "number"]) (sc := defScope sOften) (by decide +kernel))
        (fun _ _ _ _ _ => pg_name (i := 2) scOften.nd rfl (Or.inl rfl)) (fun _ _ _ _ _ => pts_nil)
        (fun _ _ _ _ _ => pe_op op_mulW (pv 2) (pv 1))) pa_nil))))), ?_⟩
    rcases h with ⟨a, f, m, rfl, rfl, ha, h0, hl, hb, hm, q⟩ | ⟨bad, q⟩
    · refine ⟨_, rfl, _, true, rfl, ha.formy hl h0, (fun _ H1 s1 => ?_), fun z => nomatch z⟩
      refine ⟨_, rfl, _, "int", rfl, .base (.int m), by decide, true, rfl, iteF ?_⟩
      have hA : SqT K H1 a (f.map V.int) := Same.f s1 ha
      refine ⟨_, rfl, a, rfl, ⟨_, hA⟩, fun L hL => ?_⟩
      refine lc_it (walk_tup (xs := f.map V.int)) (fun i H' => Same H1 H' ∧ H' L = some (.lst (((oftF f m).take i).map V.int))) ⟨same_new hL, upd_same⟩ (fun i H' _ p => Same.tup p.1 hA) ?_ ?_
      · rintro i v H3 H4 hi ⟨s4, e4⟩ ⟨rfl, hx⟩
        obtain ⟨n, rfl, hn⟩ := int_at hx
        refine ⟨rfl, ?_⟩
        have em : (oftF f m)[i]? = some (n * m) := by
          unfold oftF
          rw [List.getElem?_map, hn]
          rfl
        refine ⟨_, rfl, _, rfl, n, m, rfl, rfl, wide_mul (hb n (List.mem_of_getElem? hn)) hm (by decide) (by decide) (by decide), _, e4, ?_, fun c o e => ?_, ?_⟩
        · rw [List.length_map, List.length_take, oftF_len]
          exact Nat.lt_of_le_of_lt (Nat.min_le_right _ _) (small1000 (by omega))
        · rw [upd_ne (ne_of_none e hL)]
          exact s4 c o e
        · rw [upd_same, List.take_add_one, em, List.map_append]
          rfl
      · rintro H3 ⟨s4, e4⟩
        rw [List.length_map, ← oftF_len f m, List.take_length] at e4
        refine ⟨L, _, rfl, .inl ⟨SqL.of e4, fun l hl => ?_⟩⟩
        exact q _ l (s1.trans (s4.trans (same_new hl))) ((s1.trans s4).free hl) upd_same
    · rcases bad with hx | ⟨hx, n, ty, hn, hi⟩
      · exact ⟨_, rfl, x, false, rfl, hx, (fun z => nomatch z), fun _ H1 s1 => q H1 s1⟩
      · refine ⟨_, rfl, x, true, rfl, hx, (fun _ H1 s1 => ⟨_, rfl, y, n, rfl, TyX.same s1 ty, hn, _, rfl, ?_⟩), fun z => nomatch z⟩
        rw [hi]
        exact iteT (q H1 s1)
end
end PF

namespace PF
open PySem PySem.Spec PyProof.Rows L2 ZG HU
abbrev sLed : Stmt := topS 23
theorem scLed : FnScope ["form", "others", "other", "told", "number"] ["form", "others"] (defScope sLed) := ⟨rfl, rfl, rfl, by decide +kernel, rfl, by decide +kernel, by decide +kernel⟩
/-- forms in a row -/
def FsAt (K : PySem.W.Frag) (H : Hp) (xs : List V) (gs : List (List Int)) : Prop := xs.length = gs.length ∧ ∀ (i : Nat) (x : V), xs[i]? = some x → ∃ a g, x = .ref a ∧ gs[i]? = some g ∧ FAt K H a g
theorem FsAt.same {K : PySem.W.Frag} {H H' : Hp} {xs : List V} {gs : List (List Int)} (e : Same H H') (h : FsAt K H xs gs) : FsAt K H' xs gs :=
  ⟨h.1, fun i x hx => by
    obtain ⟨a, g, h1, h2, h3⟩ := h.2 i x hx
    exact ⟨a, g, h1, h2, Same.f e h3⟩⟩
def ledGo : List Int → List Int → List (List Int) → List Int
  | t, n :: ns, g :: gs => ledGo (addF t (oftF g n)) ns gs
  | t, [], _ => t
  | t, _ :: _, [] => t
theorem ledGo_snoc : ∀ (ns : List Int) (gs : List (List Int)) (t : List Int) (i : Nat) (n : Int) (g : List Int), ns[i]? = some n → gs[i]? = some g →
    ledGo t (ns.take (i + 1)) (gs.take (i + 1)) = addF (ledGo t (ns.take i) (gs.take i)) (oftF g n)
  | [], _, _, _, _, _, h, _ => by simp at h
  | _ :: _, [], _, _, _, _, _, h => by simp at h
  | a :: r, b :: q, t, 0, n, g, h1, h2 => by
    have e1 : a = n := Option.some.inj h1
    have e2 : b = g := Option.some.inj h2
    subst e1 e2
    show ledGo (addF t (oftF b a)) (r.take 0) (q.take 0) = _
    rw [List.take_zero, List.take_zero]
    rfl
  | a :: r, b :: q, t, i + 1, n, g, h1, h2 => ledGo_snoc r q (addF t (oftF b a)) i n g h1 h2
theorem ledGo_len : ∀ (ns : List Int) (gs : List (List Int)) (t : List Int), (∀ g ∈ gs, g.length = t.length) → (ledGo t ns gs).length = t.length
  | [], _, _, _ => by unfold ledGo; rfl
  | _ :: _, [], _, _ => rfl
  | n :: ns, g :: gs, t, h => by
    have e : t.length = (oftF g n).length := by rw [oftF_len]; exact (h g (List.mem_cons_self ..)).symm
    show (ledGo (addF t (oftF g n)) ns gs).length = t.length
    rw [ledGo_len ns gs _ fun g' h' => by rw [addF_len e]; exact h g' (List.mem_cons_of_mem _ h'), addF_len e]
def ledF : List Int → List (List Int) → List Int
  | x :: ns, g :: gs => ledGo (x :: List.replicate (g.length - 1) 0) ns (g :: gs)
  | f, [] => f
  | [], _ :: _ => []
theorem flat_zero (n : Nat) : (List.replicate n [V.int 0]).flatten = (List.replicate n (0 : Int)).map V.int := by
  induction n with
  | zero => rfl
  | succ n ih =>
    rw [List.replicate_succ, List.flatten_cons, ih, List.replicate_succ, List.map_cons]
    rfl
theorem rep_of {K : PySem.W.Frag} {H : Hp} {l : Addr} {k : Int} {xs : List V} {Q : VK} (h : SqT K H l xs) (ne : xs ≠ []) (h0 : -1000 ≤ k) (h1 : k ≤ 1000) (h2 : xs.length ≤ 1000)
    (q : ∀ H' u, Same H H' → SqT K H' u (List.replicate k.toNat xs).flatten → Q (.ref u) H') : rRepA K (.ref l) (.int k) H Q :=
  ⟨l, k, xs, rfl, rfl, h, ne, h0, h1, h2, fun e => q H l (Same.refl H) (by subst e; simpa using h), fun _ p np => q _ p (same_new np) (.inl (.inl upd_same))⟩
theorem cat_of {K : PySem.W.Frag} {H : Hp} {a b : Addr} {xs ys : List V} {Q : VK} (ha : SqT K H a xs) (hb : SqT K H b ys) (ne : xs ≠ []) (hl : xs.length + ys.length ≤ sizeLine)
    (q : ∀ H' u, Same H H' → SqT K H' u (xs ++ ys) → (u = a ∨ H u = none) → Q (.ref u) H') : rCatA K (.ref a) (.ref b) H Q :=
  ⟨a, b, xs, ys, rfl, rfl, ha, hb, hl, fun z => absurd z ne, fun _ z => q H a (Same.refl H) (by subst z; rw [List.append_nil]; exact ha) (.inl rfl), fun _ _ p np => q _ p (same_new np) (.inl (.inl upd_same)) (.inr np)⟩
section
variable {P : Program} {w : World} {K : PySem.W.Frag} {mg : Str → Option Value} {base : Heap}
/-- what is handed in for others, as it is asked about -/
inductive BadL (K : PySem.W.Frag) (H : Hp) (x y : V) : Prop
  | form (h : Formy K H x false)
  | kind (h : Formy K H x true) (n : String) (ty : TyX K H y (.type n)) (hn : n ∈ kinds) (hs : isSeq n = false)
  | many (h : Formy K H x true) (a : Addr) (xs : List V) (e : x = .ref a) (ha : SqT K H a xs) (t : Bool) (b : Addr) (ys : List V) (e2 : y = .ref b) (hb : SqG t K H b ys) (ne : ys.length + 1 ≠ xs.length)
  | item (h : Formy K H x true) (a : Addr) (xs : List V) (e : x = .ref a) (ha : SqT K H a xs) (t : Bool) (b : Addr) (ys : List V) (e2 : y = .ref b) (hb : SqG t K H b ys) (el : ys.length + 1 = xs.length) (bs : List Bool) (lb : bs.length = ys.length)
      (hi : ∀ (i : Nat) (v : V) (c : Bool), ys[i]? = some v → bs[i]? = some c → Formy K H v c) (nb : bs.all id = false)
  | unlike (a b : Addr) (f : List Int) (t : Bool) (xs : List V) (g0 : List Int) (gs : List (List Int)) (e : x = .ref a) (e2 : y = .ref b) (ha : FAt K H a f) (hb : SqG t K H b xs) (hx : FsAt K H xs (g0 :: gs)) (el : f.length = gs.length + 2) (hl : f.length ≤ 1000) (hf : Bnd f)
      (hg : ∀ g ∈ g0 :: gs, 1 ≤ g.length ∧ g.length ≤ 1000 ∧ Bnd g) (nb : ∃ g ∈ gs, g.length ≠ g0.length)
def spLed (K : PySem.W.Frag) (D : Addr) : Sp := fun vs H Q E => ∃ x y : V, vs = [x, y] ∧
  ((∃ (a b : Addr) (t : Bool) (f : List Int) (xs : List V) (gs : List (List Int)) (m : Nat), x = .ref a ∧ y = .ref b ∧ FAt K H a f ∧ SqG t K H b xs ∧ FsAt K H xs gs ∧ f.length = gs.length + 1 ∧ f.length ≤ 1000 ∧ Bnd f ∧
    (∀ g ∈ gs, g.length = m ∧ Bnd g) ∧ 1 ≤ m ∧ m ≤ 1000 ∧ ∀ H' p, Same H H' → FAt K H' p (ledF f gs) → Q (.ref p) H') ∨ (BadL K H x y ∧ ∀ H', Same H H' → E (.ref D) none H'))
theorem ok_led {f fL fS fA fO D : Addr} {fd dL dS dA dO : FuncData} (F : Fun K "led" "led" sLed f fd)
    (GL : FnOk P w K mg base (L2.CX P w) 3 fL dL ["form"] (spLookX K D)) (kL : PySem.W.keepIn K (.ref fL) = true) (bL : Binds K dL ["form"] []) (mL : mg "_look_form" = some (.ref fL))
    (GS : FnOk P w K mg base CX0 1 fS dS ["thing"] (spSeqn K)) (kS : PySem.W.keepIn K (.ref fS) = true) (bS : Binds K dS ["thing"] []) (mS : mg "is_sequence" = some (.ref fS))
    (GA : FnOk P w K mg base (L2.CX P w) 4 fA dA ["one", "other"] (spAdded K D)) (kA : PySem.W.keepIn K (.ref fA) = true) (bA : Binds K dA ["one", "other"] []) (mA : mg "added" = some (.ref fA))
    (GO : FnOk P w K mg base (L2.CX P w) 4 fO dO ["form", "many"] (spOften K D)) (kO : PySem.W.keepIn K (.ref fO) = true) (bO : Binds K dO ["form", "many"] []) (mO : mg "often" = some (.ref fO)) (T : Txt mg) (A : EF K mg D) :
    FnOk P w K mg base (L2.CX P w) 5 f fd ["form", "others"] (spLed K D) := by
  refine F.okX scLed (fun vs H Q E h => ?_) (fun cdv Ar outer s H vs Q E hr h => ?_)
  · obtain ⟨x, y, rfl, _⟩ := h
    rfl
  · obtain ⟨x, y, rfl, h⟩ := h
    have hr3 : Room 3 _ := hr.mono (by decide)
    refine ⟨_, pss_cons (ps_expr (pe_call GL hr3 (by rfl) mL kL bL .nil (passes_call (takes_of rfl rfl rfl rfl) fun _ _ _ _ h => h) (pa_cons (pv 0) pa_nil)))
      (pss_cons (ps_if (PW.pt (pw_or (pt_not (pt_val (pe_call GS (hr.mono (by decide)) (by rfl) mS kS bS .nil pass0 (pa_cons (pv 1) pa_nil))))
        (pw_or1 (pt_cmpR op_ne (pe_callB call_len_seq (by rfl) T.len PySem.boot_len (pa_cons (pv 1) pa_nil)) (pe_op op_sub (pe_callB call_len_seq (by rfl) T.len PySem.boot_len (pa_cons (pv 0) pa_nil)) pe_int) (nomark _))))) (pss_one (ps_raise rfl (takes_of rfl rfl rfl rfl) (pmk_own PySem.F.excBase_ValueError A.x A.g A.k (raises_own A.b A.t) rfl))) pss_nil)
      (pss_cons (ps_for (passes_of rfl) rfl (pi_seqV (pv 1)) (pg_name (i := 2) scLed.nd rfl (.inl rfl)) (pss_one (ps_expr (pe_call GL hr3 (by rfl) mL kL bL .nil (passes_call (takes_of rfl rfl rfl rfl) fun _ _ _ _ h => h) (pa_cons (pv 2) pa_nil)))))
      (pss_cons (ps_if (pt_cmpR op_eq (pe_callB call_len_seq (by rfl) T.len PySem.boot_len (pa_cons (pv 1) pa_nil)) pe_int (nomark _)) (pss_one (ps_ret (pv 0))) pss_nil)
      (pss_cons (ps_set (i := 3) scLed.nd rfl (.inl rfl) (pe_op op_catA (pe_tup (pa_cons (pe_ix ix_tup (pv 0) pe_int (fun _ _ => rfl)) pa_nil))
        (pe_op op_repA (pe_tup (pa_cons pe_int pa_nil)) (pe_op op_sub (pe_callB call_len_seq (by rfl) T.len PySem.boot_len (pa_cons (pe_ix ix_seq (pv 1) pe_int (fun _ _ => rfl)) pa_nil)) pe_int))))
      (pss_cons (ps_for (passes_of rfl) rfl (pi_zipG (by rfl) T.zip (pa_cons (pe_slice sl_tupA (pv 0) (po_some pe_int) po_none) (pa_cons (pv 1) pa_nil))) (pg_tup rfl (pgs_cons (pg_name (i := 4) scLed.nd rfl (.inl rfl)) (pgs_cons (pg_name (i := 2) scLed.nd rfl (.inl rfl)) pgs_nil)))
        (pss_one (ps_set (i := 3) scLed.nd rfl (.inl rfl) (pe_call GA hr (by rfl) mA kA bA .nil (passes_call (takes_of rfl rfl rfl rfl) fun _ _ _ _ h => h) (pa_cons (pv 3) (pa_cons (pe_call GO hr (by rfl) mO kO bO .nil (passes_call (takes_of rfl rfl rfl rfl) fun _ _ _ _ h => h) (pa_cons (pv 2) (pa_cons (pv 4) pa_nil))) pa_nil))))))
      (pss_one (ps_ret (pv 3)))))))), ?_⟩
    have three : (Formy K H x false ∧ ∀ H', Same H H' → E (.ref D) none H') ∨ ((Formy K H x true ∧ ∃ n, TyX K H y (.type n) ∧ n ∈ kinds ∧ isSeq n = false) ∧ ∀ H', Same H H' → E (.ref D) none H') ∨
        (∃ (a : Addr) (xs0 : List V) (t : Bool) (b : Addr) (ys : List V) (bs : List Bool), x = .ref a ∧ SqT K H a xs0 ∧ Formy K H x true ∧ y = .ref b ∧ SqG t K H b ys ∧
          ((ys.length + 1 ≠ xs0.length ∧ ∀ H', Same H H' → E (.ref D) none H') ∨ (ys.length + 1 = xs0.length ∧ bs.length = ys.length ∧ (∀ (i : Nat) (v : V) (c : Bool), ys[i]? = some v → bs[i]? = some c → Formy K H v c) ∧
            ((bs.all id = false ∧ ∀ H', Same H H' → E (.ref D) none H') ∨ (bs.all id = true ∧ ∃ (f : List Int) (gs : List (List Int)), xs0 = f.map V.int ∧ FsAt K H ys gs ∧ f.length = gs.length + 1 ∧ f.length ≤ 1000 ∧ Bnd f ∧ (∀ g ∈ gs, 1 ≤ g.length ∧ g.length ≤ 1000 ∧ Bnd g) ∧
              ((∃ (m : Nat), (∀ g ∈ gs, g.length = m) ∧ ∀ H' p, Same H H' → FAt K H' p (ledF f gs) → Q (.ref p) H') ∨ ((∃ (g0 : List Int) (gr : List (List Int)), gs = g0 :: gr ∧ ∃ g ∈ gr, g.length ≠ g0.length) ∧ ∀ H', Same H H' → E (.ref D) none H'))))))) := by
      have alltrue : ∀ n : Nat, (List.replicate n true).all id = true := fun n => List.all_eq_true.mpr fun b hb => (List.mem_replicate.mp hb).2
      have fits : ∀ (ys : List V) (gs : List (List Int)), FsAt K H ys gs → (∀ g ∈ gs, 1 ≤ g.length ∧ g.length ≤ 1000) → ∀ (i : Nat) (v : V) (c : Bool), ys[i]? = some v → (List.replicate ys.length true)[i]? = some c → Formy K H v c := by
        intro ys gs hx hg i v c hv hc
        obtain ⟨ag, g, rfl, gi, hgi⟩ := hx.2 i v hv
        have := hg g (List.mem_of_getElem? gi)
        have ec : c = true := (List.mem_replicate.mp (List.mem_of_getElem? hc)).2
        subst ec
        exact hgi.formy this.2 (fun z => by rw [z] at this; simp at this)
      rcases h with ⟨a, b, t, f, xs, gs, m, rfl, rfl, ha, hb, hx, hl, h9, hf, hg, m1, m2, q⟩ | ⟨bad, q⟩
      · have hg' : ∀ g ∈ gs, 1 ≤ g.length ∧ g.length ≤ 1000 ∧ Bnd g := fun g h => ⟨by rw [(hg g h).1]; exact m1, by rw [(hg g h).1]; exact m2, (hg g h).2⟩
        exact .inr (.inr ⟨a, _, t, b, xs, List.replicate xs.length true, rfl, ha, ha.formy h9 (fun z => by rw [z] at hl; simp at hl), rfl, hb, .inr ⟨by rw [List.length_map, hx.1]; omega, List.length_replicate, fits xs gs hx (fun g h => ⟨(hg' g h).1, (hg' g h).2.1⟩), .inr ⟨alltrue _, f, gs, rfl, hx, hl, h9, hf, hg', .inl ⟨m, fun g h => (hg g h).1, q⟩⟩⟩⟩)
      · cases bad with
        | form h => exact .inl ⟨h, q⟩
        | kind h n ty hn hs => exact .inr (.inl ⟨⟨h, n, ty, hn, hs⟩, q⟩)
        | many h a xs e ha t b ys e2 hb ne => exact .inr (.inr ⟨a, xs, t, b, ys, [], e, ha, h, e2, hb, .inl ⟨ne, q⟩⟩)
        | item h a xs e ha t b ys e2 hb el bs lb hi nb => exact .inr (.inr ⟨a, xs, t, b, ys, bs, e, ha, h, e2, hb, .inr ⟨el, lb, hi, .inl ⟨nb, q⟩⟩⟩)
        | unlike a b f t xs g0 gs e e2 ha hb hx el hl hf hg nb =>
          subst e e2
          exact .inr (.inr ⟨a, _, t, b, xs, List.replicate xs.length true, rfl, ha, ha.formy hl (fun z => by rw [z] at el; simp at el), rfl, hb, .inr ⟨by rw [List.length_map, hx.1, List.length_cons]; omega, List.length_replicate, fits xs _ hx (fun g h => ⟨(hg g h).1, (hg g h).2.1⟩), .inr ⟨alltrue _, f, g0 :: gs, rfl, hx, by rw [List.length_cons]; omega, hl, hf, hg, .inr ⟨⟨g0, gs, rfl, nb⟩, q⟩⟩⟩⟩)
    rcases three with ⟨hf, q⟩ | ⟨⟨hf, n, ty, hn, hs⟩, q⟩ | ⟨a, xs0, t, b, ys, bs, rfl, hT, hfy, rfl, hb, rest⟩
    · exact ⟨_, rfl, x, false, rfl, hf, (fun z => nomatch z), fun _ H' s1 => q H' s1⟩
    · refine ⟨_, rfl, x, true, rfl, hf, (fun _ H1 s1 => ?_), fun z => nomatch z⟩
      refine ⟨_, rfl, y, n, rfl, TyX.same s1 ty, hn, fun H2 s2 => ⟨_, rfl, ?_⟩⟩
      rw [hs]
      exact iteT (q H2 (s1.trans s2))
    refine ⟨_, rfl, _, true, rfl, hfy, (fun _ H1 s1 => ?_), fun z => nomatch z⟩
    obtain ⟨n, ty, hn, hq⟩ := SqG.ty (Same.sq s1 hb)
    refine ⟨_, rfl, _, n, rfl, ty, hn, fun H2 s2 => ⟨_, rfl, ?_⟩⟩
    rw [hq]
    refine iteF ?_
    have s02 := s1.trans s2
    refine ⟨_, rfl, b, ys, rfl, SqG.lt (Same.sq s02 hb), _, rfl, a, xs0, rfl, .inr (Same.tup s02 hT), _, _, rfl, rfl, rfl, _, rfl, ?_⟩
    rcases rest with ⟨ne, q⟩ | ⟨el, lb, hi, rest⟩
    · refine iteNF (fun z => ?_) (q H2 s02)
      have := V.int.inj z
      omega
    refine iteNS (congrArg V.int (by omega)) ?_
    -- for other in others
    refine ⟨t, b, ys, rfl, Same.sq s02 hb, ?_⟩
    refine for_it walkS (fun i σ H' => ∃ y2, σ = [some (.ref a), some (.ref b), y2, none, none] ∧ Same H H' ∧ ∀ j, j < i → bs[j]? = some true) ⟨none, rfl, s02, fun j hj => absurd hj (by omega)⟩ (fun i σ H' _ ⟨_, _, p, _⟩ => Same.sq p hb) ?_ ?_
    · rintro i v σ H3 H4 hi3 ⟨y2, rfl, s3, tr⟩ ⟨rfl, hv⟩
      have hib : i < bs.length := by omega
      have hc := List.getElem?_eq_getElem hib
      have fc := hi i v _ hv hc
      refine ⟨_, rfl, v, _, rfl, Formy.same s3 fc, (fun e1 H5 s5 => ⟨_, rfl, s3.trans s5, fun j hj => ?_⟩), fun e1 H5 s5 => ?_⟩
      · by_cases hji : j < i
        · exact tr j hji
        · have : j = i := by omega
          subst this
          rw [hc, e1]
      · rcases rest with ⟨_, q⟩ | ⟨al, _⟩
        · exact q H5 (s3.trans s5)
        · have := List.all_eq_true.mp al _ (List.mem_of_getElem? hc)
          rw [e1] at this
          cases this
    rintro σ H3 ⟨y2, rfl, s3, tr⟩
    rcases rest with ⟨nb, _⟩ | ⟨_, f, gs, rfl, hx, hlen, hl, hf, hg, fin⟩
    · have : bs.all id = true := List.all_eq_true.mpr fun c hc => by
        obtain ⟨j, hj, rfl⟩ := List.getElem_of_mem hc
        have := tr j (by omega)
        rw [List.getElem?_eq_getElem hj] at this
        exact Option.some.inj this
      rw [this] at nb
      cases nb
    obtain ⟨x0, ns, rfl⟩ : ∃ x0 ns, f = x0 :: ns := by
      cases f with
      | nil => simp at hlen
      | cons x r => exact ⟨x, r, rfl⟩
    have hns : ns.length = gs.length := by
      rw [List.length_cons] at hlen
      omega
    have ha : FAt K H a (x0 :: ns) := hT
    -- if len(others) == 0
    refine ⟨_, rfl, b, ys, rfl, SqG.lt (Same.sq s3 hb), rfl, _, rfl, ite2 (fun z => ?_) (fun z => ?_)⟩
    · have e0 : (ys.length : Int) = 0 := V.int.inj (of_decide_eq_true z)
      have eg : gs = [] := List.eq_nil_of_length_eq_zero (by rw [← hx.1]; omega)
      subst eg
      rcases fin with ⟨m, _, q⟩ | ⟨⟨g0, gr, e, _⟩, _⟩
      · exact ⟨_, rfl, q _ a s3 (Same.f s3 ha)⟩
      · cases e
    obtain ⟨g0, gr, rfl⟩ : ∃ g0 gr, gs = g0 :: gr := by
      cases gs with
      | nil =>
        refine absurd (decide_eq_true ?_) z
        rw [show ys.length = 0 from hx.1]
        rfl
      | cons x r => exact ⟨x, r, rfl⟩
    have hm0 := hg g0 (List.mem_cons_self ..)
    -- told
    have hA3 := Same.f s3 ha
    refine ⟨_, rfl, a, _, 0, .int x0, rfl, rfl, hA3, atI_nat (j := 0) rfl, (by decide : 1 ≤ sizeLine), fun t1 n1 => ?_⟩
    have s4 := s3.trans (same_new (o := .tup [.int x0]) n1)
    refine ⟨(by decide : 1 ≤ sizeLine), fun t2 n2 => ?_⟩
    have s24 : Same (upd H3 t1 (.tup [.int x0])) _ := same_new (o := .tup [.int 0]) n2
    have s5 := s4.trans s24
    have hx0 : 0 < ys.length := by rw [hx.1, List.length_cons]; omega
    obtain ⟨ag, g, e1, e2, e3⟩ := hx.2 0 _ (List.getElem?_eq_getElem hx0)
    have e2' : g0 = g := Option.some.inj e2
    subst e2'
    have at0 : atI ys 0 = some (.ref ag) := atI_nat (j := 0) ((List.getElem?_eq_getElem hx0).trans (congrArg some e1))
    have hix : ∀ (K' : PySem.W.Frag) (H' : Hp) (Q' : VK), SqG t K' H' b ys → Q' (.ref ag) H' → rIx K' (.ref b) (.int 0) H' Q' := fun K' H' Q' h1 h2 => by
      rcases SqG.lt h1 with h1 | h1
      · exact .inl ⟨b, ys, 0, _, rfl, rfl, h1, at0, h2⟩
      · exact .inr (.inl ⟨b, ys, 0, _, rfl, rfl, h1, at0, h2⟩)
    refine ⟨_, rfl, hix _ _ _ (Same.sq s5 hb) ?_⟩
    refine ⟨ag, _, rfl, .inr (Same.f s5 e3), _, _, rfl, rfl, ?_⟩
    rw [List.length_map]
    refine rep_of (xs := [.int 0]) (.inl (.inl upd_same)) (by simp) (by omega) (by omega) (by decide) fun H6 u s6 h6 => ?_
    have ez : (List.replicate ((g0.length : Int) - 1).toNat [V.int 0]).flatten = (List.replicate (g0.length - 1) (0 : Int)).map V.int := by
      rw [flat_zero, show ((g0.length : Int) - 1).toNat = g0.length - 1 by omega]
    rw [ez] at h6
    have s56 := s5.trans s6
    refine cat_of (xs := [.int x0]) (.inl (.inl (s6 _ _ (s24 _ _ upd_same)))) h6 (by simp) (by
      rw [List.length_map, List.length_replicate, List.length_singleton]
      exact Nat.le_of_lt (small1000 (by omega))) fun H7 v s7 h7 w7 => ?_
    have s57 := s56.trans s7
    have h7' : FAt K H7 v (x0 :: List.replicate (g0.length - 1) 0) := h7
    -- for number, other in zip(form[1:], others)
    refine ⟨_, rfl, 1, rfl, a, _, rfl, Same.f s57 ha, fun z => absurd z not_whole, fun _ u2 hu2 => ?_⟩
    have s8 := s57.trans (same_new (o := .tup (cutV ((x0 :: ns).map V.int) (some 1) none)) hu2)
    have hU : SqT K (upd H7 u2 (.tup (cutV ((x0 :: ns).map V.int) (some 1) none))) u2 (ns.map V.int) := .inl (.inl (upd_same.trans (by rw [cut_one]; rfl)))
    have hB8 := Same.sq s8 hb
    have h8 := Same.f (same_new (o := .tup (cutV ((x0 :: ns).map V.int) (some 1) none)) hu2) h7'
    generalize upd H7 u2 (.tup (cutV ((x0 :: ns).map V.int) (some 1) none)) = H8 at *
    refine ⟨_, rfl, true, t, u2, b, ns.map V.int, ys, rfl, hU, hB8, ?_⟩
    have l0 : (x0 :: List.replicate (g0.length - 1) (0 : Int)).length = g0.length := by
      rw [List.length_cons, List.length_replicate]
      omega
    refine for_it (walkG (xs := ns.map V.int) (ys := ys) (n := ns.length) (by rw [List.length_map, hx.1, hns]; omega))
      (fun i σ H' => ∃ y2 y4 p, σ = [some (.ref a), some (.ref b), y2, some (.ref p), y4] ∧ Same H8 H' ∧ FAt K H' p (ledGo (x0 :: List.replicate (g0.length - 1) 0) (ns.take i) ((g0 :: gr).take i)) ∧ ∀ g ∈ (g0 :: gr).take i, g.length = g0.length)
      ⟨_, _, v, rfl, Same.refl _, h8, fun g h => (nomatch h)⟩ (fun i σ H' _ ⟨_, _, _, _, p, _⟩ => ⟨Same.tup p hU, Same.sq p hB8⟩) ?_ ?_
    · rintro i z σ H9 H10 hi9 ⟨y2, y4, p, rfl, s9, hp, hlt⟩ ⟨U, x, y, rfl, hU9, rfl, hxi, hyi⟩
      obtain ⟨nn, rfl, hnn⟩ := int_at hxi
      obtain ⟨ai, gi, rfl, hgi, fai⟩ := hx.2 i y hyi
      have gb := hg gi (List.mem_of_getElem? hgi)
      have s10 := (s8.trans s9).trans (same_new (o := .tup [.int nn, .ref ai]) hU9)
      have gne : gi ≠ [] := fun z => by rw [z] at gb; simp at gb
      have tl : (ledGo (x0 :: List.replicate (g0.length - 1) 0) (ns.take i) ((g0 :: gr).take i)).length = g0.length := by
        rw [ledGo_len _ _ _ fun g' h' => (hlt g' h').trans l0.symm, l0]
      have tne : ledGo (x0 :: List.replicate (g0.length - 1) 0) (ns.take i) ((g0 :: gr).take i) ≠ [] := fun z => by rw [z] at tl; simp at tl; omega
      refine ⟨U, [.int nn, .ref ai], rfl, .inl (.inl upd_same), rfl, _, _, rfl, _, _, rfl, rfl, ?_⟩
      refine ⟨_, rfl, _, rfl, _, rfl, _, _, rfl, .inl ⟨ai, gi, nn, rfl, rfl, Same.f s10 fai, gne, gb.2.1, gb.2.2, hf nn (List.mem_cons_of_mem _ (List.mem_of_getElem? hnn)), fun H11 po s11 npo epo => ?_⟩⟩
      have s911 := (same_new (o := .tup [.int nn, .ref ai]) hU9).trans s11
      have hp11 := Same.f s911 hp
      have ol : (oftF gi nn).length = gi.length := oftF_len gi nn
      refine ⟨_, _, rfl, ?_⟩
      by_cases hgl : gi.length = g0.length
      · refine .inl ⟨p, po, _, _, rfl, rfl, hp11, .new epo, tne, by omega, by omega, fun H12 pa s12 npa epa => ?_⟩
        refine ⟨_, _, pa, rfl, s9.trans (s911.trans s12), .new ?_, fun g' h' => ?_⟩
        · rw [epa, ledGo_snoc ns (g0 :: gr) _ i nn gi hnn hgi]
        · rw [List.take_add_one, hgi] at h'
          rcases List.mem_append.mp h' with h' | h'
          · exact hlt g' h'
          · rw [Option.toList_some, List.mem_singleton] at h'
            subst h'
            exact hgl
      · refine .inr ⟨.inr (.inr ⟨p, po, _, _, rfl, rfl, hp11, .inl (.inl epo), hp11.formy (by omega) tne, FAt.formy (f := oftF gi nn) (.new epo) (by omega) (fun z => by rw [z] at ol; exact gne (List.eq_nil_of_length_eq_zero ol.symm)), by rw [List.length_map, List.length_map]; omega⟩), fun H12 s12 => ?_⟩
        rcases fin with ⟨m, hm, _⟩ | ⟨_, q⟩
        · exact absurd ((hm gi (List.mem_of_getElem? hgi)).trans (hm g0 (List.mem_cons_self ..)).symm) hgl
        · exact q H12 ((s8.trans s9).trans (s911.trans s12))
    · rintro σ H9 ⟨y2, y4, p, rfl, s9, hp, hlt⟩
      rw [show ns.length = (g0 :: gr).length from hns, List.take_length] at hlt
      rw [List.take_length, show ns.length = (g0 :: gr).length from hns, List.take_length] at hp
      rcases fin with ⟨m, _, q⟩ | ⟨⟨g0', gr', e, g, hg', ne⟩, _⟩
      · exact ⟨_, rfl, q H9 p (s8.trans s9) hp⟩
      · cases e
        exact absurd (hlt g (List.mem_cons_of_mem _ hg')) ne
end
end PF

namespace PF
open PySem PySem.Spec PyProof.Rows L2 ZG
abbrev sPurse : Stmt := topS 26
abbrev sTake : Stmt := topS 27
abbrev sForm : Stmt := topS 28
theorem scPurse : FnScope ["script", "at", "cell", "far"] ["script", "at"] (defScope sPurse) := ⟨rfl, rfl, rfl, by decide +kernel, rfl, by decide +kernel, by decide +kernel⟩
theorem scTake : FnScope ["purse", "many", "digit", "turn", "one", "other"] ["purse", "many"] (defScope sTake) := ⟨rfl, rfl, rfl, by decide +kernel, rfl, by decide +kernel, by decide +kernel⟩
theorem scForm : FnScope ["purse", "many", "most", "numbers", "nth"] ["purse", "many", "most"] (defScope sForm) := ⟨rfl, rfl, rfl, by decide +kernel, rfl, by decide +kernel, by decide +kernel⟩
/-- a purse of which at most n draws were mixed -/
def PAt (H : Hp) (p : Addr) (n : Nat) : Prop := ∃ x y z : Int, H p = some (.lst [.int x, .int y, .int z]) ∧ 0 ≤ x ∧ 0 ≤ y ∧ y < 2147483647 ∧ 0 ≤ z ∧ z ≤ (n : Int)
/-- all but p is as it was -/
def Sb (p : Addr) (H H' : Hp) : Prop := ∀ b o, b ≠ p → H b = some o → H' b = some o
theorem Sb.refl (p : Addr) (H : Hp) : Sb p H H := fun _ _ _ h => h
theorem Sb.trans {p : Addr} {H H1 H2 : Hp} (a : Sb p H H1) (b : Sb p H1 H2) : Sb p H H2 := fun c o n h => b c o n (a c o n h)
theorem Sb.of {p : Addr} {H H' : Hp} (e : Same H H') : Sb p H H' := fun b o _ h => e b o h
theorem Sb.upd {p : Addr} {H : Hp} {o : HO} : Sb p H (upd H p o) := fun b o n h => by rw [upd_ne n]; exact h
theorem Sb.free {p q : Addr} {H H' : Hp} (e : Sb p H H') (n : q ≠ p) (h : H' q = none) : H q = none := by
  cases z : H q with
  | none => rfl
  | some o =>
    rw [e q o n z] at h
    cases h
theorem PAt.mono {H : Hp} {p : Addr} {n m : Nat} (h : PAt H p n) (e : n ≤ m) : PAt H p m := by
  obtain ⟨x, y, z, h1, h2, h3, h4, h5, h6⟩ := h
  exact ⟨x, y, z, h1, h2, h3, h4, h5, by omega⟩
theorem PAt.same {H H' : Hp} {p : Addr} {n : Nat} (h : PAt H p n) (e : Same H H') : PAt H' p n := by
  obtain ⟨x, y, z, h1, h2, h3, h4, h5, h6⟩ := h
  exact ⟨x, y, z, e _ _ h1, h2, h3, h4, h5, h6⟩
theorem PAt.ne {H : Hp} {p q : Addr} {n : Nat} (h : PAt H p n) (e : H q = none) : q ≠ p := by
  obtain ⟨x, y, z, h1, _⟩ := h
  exact fun w => by rw [w, h1] at e; cases e
theorem b01 (b : Bool) : 0 ≤ (if b = true then (1 : Int) else 0) ∧ (if b = true then (1 : Int) else 0) ≤ 1 := by
  cases b <;> decide
section
variable {P : Program} {w : World} {K : PySem.W.Frag} {mg : Str → Option Value} {base : Heap}
def spPurse (K : PySem.W.Frag) : Sp := fun vs H Q _ => ∃ (a : Addr) (ns : List Int) (k : Int), vs = [.ref a, .int k] ∧ SqL K H a (ns.map V.int) ∧ 0 ≤ k ∧ k ≤ 1000 ∧
  ∀ H' p, Same H H' → H p = none → PAt H' p 0 → Q (.ref p) H'
theorem ok_purse {f : Addr} {fd : FuncData} (F : Fun K "_law_purse" "_law_purse" sPurse f fd) (T : Txt mg) : FnOk P w K mg base CX0 1 f fd ["script", "at"] (spPurse K) := by
  refine F.ok scPurse (fun vs H Q E h => ?_) (fun cdv A outer s H vs Q E hr h => ?_)
  · obtain ⟨a, ns, k, rfl, _⟩ := h
    rfl
  · obtain ⟨a, ns, k, rfl, hS, k0, k1, q⟩ := h
    refine ⟨_, pss_cons (ps_set (i := 2) scPurse.nd rfl (.inl rfl) pe_int)
      (C8.pss_cut (ps_if (pt_cmpR op_lt (pv 1) (pe_callB call_len_seq (by rfl) T.len PySem.boot_len (pa_cons (pv 0) pa_nil)) (nomark _)) (pss_one (ps_set (i := 2) scPurse.nd rfl (.inl rfl) (pe_ix ix_list (pv 0) (pv 1) (fun _ _ => rfl)))) pss_nil)
      (pss_cons (ps_set (i := 3) scPurse.nd rfl (.inl rfl) (pe_callB call_abs (by rfl) T.abs (by decide +kernel) (pa_cons (pv 2) pa_nil)))
      (pss_one (ps_ret (pe_lst (pa_cons (pe_op op_mul (pv 3) (pe_callTy call_int1 (by rfl) T.int (by decide +kernel) (pa_cons (pe_cmpR op_ge (pv 3) (pe_op op_pow pe_int pe_int) (nomark _)) pa_nil)))
        (pa_cons (pe_op op_mod (pe_op op_add (pe_op op_add (pe_op op_mod (pv 2) pe_int) (pe_op op_mul pe_int (pv 1))) pe_int) pe_int) (pa_cons pe_int pa_nil)))))))), ?_⟩
    refine ⟨fun σ' H' => ∃ c : Int, σ' = [some (.ref a), some (.int k), some (.int c), none] ∧ H' = H, ?_, ?_⟩
    · refine ⟨_, rfl, _, rfl, a, _, rfl, .inl hS, k, _, rfl, rfl, _, rfl, ite2 (fun z => ?_) (fun z => ⟨0, rfl, rfl⟩)⟩
      have lt : k < ((ns.map V.int).length : Int) := of_decide_eq_true z
      rw [List.length_map] at lt
      have hk : k.toNat < ns.length := by omega
      have e : (ns.map V.int)[k.toNat]? = some (.int ns[k.toNat]) := by rw [List.getElem?_map, List.getElem?_eq_getElem hk]; rfl
      have e2 : atI (ns.map V.int) k = some (.int ns[k.toNat]) := by
        have := atI_nat e
        rwa [Int.toNat_of_nonneg k0] at this
      exact ⟨_, rfl, _, rfl, a, _, k, _, rfl, rfl, hS, e2, _, rfl, rfl⟩
    · rintro σ' H' ⟨c, rfl, rfl⟩
      refine ⟨_, rfl, c, rfl, ?_⟩
      have habs : 0 ≤ (if c < 0 then -c else c) := by split <;> omega
      refine ⟨_, rfl, _, rfl, 10, 18, rfl, rfl, ⟨by decide, by decide, by decide⟩, _, _, rfl, rfl, .inr ⟨_, rfl, ?_⟩⟩
      refine ⟨_, _, rfl, rfl, .inr ?_, ?_⟩
      · exact ⟨Int.lt_of_lt_of_le (by decide) (b01 _).1, Int.lt_of_le_of_lt (b01 _).2 (by decide)⟩
      refine ⟨_, rfl, c, 2147483647, rfl, rfl, (by show (0 : Int) < 2147483647; decide), _, rfl, 7919, k, rfl, rfl, .inl ⟨by decide, by decide⟩, _, _, rfl, rfl, _, 17, rfl, rfl, _, 2147483647, rfl, rfl, (by show (0 : Int) < 2147483647; decide), ?_⟩
      refine ⟨(by decide : 3 ≤ sizeLine), fun p hp => q _ p (same_new hp) hp ⟨_, _, 0, upd_same, ?_, Int.emod_nonneg _ (by decide), Int.emod_lt_of_pos _ (by decide), by decide, by decide⟩⟩
      exact Int.mul_nonneg habs (b01 _).1
def spTake : Sp := fun vs H Q _ => ∃ (p : Addr) (m : Int) (n : Nat), vs = [.ref p, .int m] ∧ PAt H p n ∧ n ≤ 10000 ∧ 1 ≤ m ∧ m ≤ 1000 ∧ ∀ H' v, Sb p H H' → PAt H' p (n + 1) → 0 ≤ v → v < m → Q (.int v) H'
theorem sq_bound {t : Int} (h0 : 0 ≤ t) (h1 : t ≤ 10001) : 0 ≤ 48271 * t * t ∧ 48271 * t * t ≤ 4900000000000 := by
  have h2 : 0 ≤ 48271 * t := by omega
  have h3 : 48271 * t ≤ 482758271 := by omega
  refine ⟨Int.mul_nonneg h2 h0, ?_⟩
  have h4 : 48271 * t * t ≤ 482758271 * 10001 := Int.mul_le_mul h3 h1 h0 (by decide)
  omega
theorem pr_bound {o t : Int} (h0 : 0 ≤ t) (h1 : t ≤ 10001) (o0 : 0 ≤ o) (o1 : o < 2147483647) : 0 ≤ o * (2 * t + 30011) ∧ o * (2 * t + 30011) ≤ 120000000000000 := by
  refine ⟨Int.mul_nonneg o0 (by omega), ?_⟩
  have h4 : o * (2 * t + 30011) ≤ 2147483647 * 50013 := Int.mul_le_mul (by omega) (by omega) (by omega) (by decide)
  omega
theorem ok_take {f : Addr} {fd : FuncData} (F : Fun K "_law_take" "_law_take" sTake f fd) : FnOk P w K mg base CX0 1 f fd ["purse", "many"] spTake := by
  refine F.ok scTake (fun vs H Q E h => ?_) (fun cdv A outer s H vs Q E hr h => ?_)
  · obtain ⟨p, m, n, rfl, _⟩ := h
    rfl
  · obtain ⟨p, m, n, rfl, ⟨x, y, z, hp, x0, y0, y1, z0, z1⟩, hn, m0, m1, q⟩ := h
    refine ⟨_, pss_cons (ps_if (pt_cmpR op_gt (pe_ix ix_list (pv 0) pe_int (fun _ _ => rfl)) pe_int (nomark _))
        (pss_cons (ps_set (i := 2) scTake.nd rfl (.inl rfl) (pe_op op_mod (pe_ix ix_list (pv 0) pe_int (fun _ _ => rfl)) (pv 1)))
        (pss_cons (ps_asg (pe_op op_fdiv (pe_ix ix_list (pv 0) pe_int (fun _ _ => rfl)) (pv 1)) (pg_sub (pv 0) pe_int set_list))
        (pss_one (ps_ret (pv 2))))) pss_nil)
      (pss_cons (ps_asg (pe_op op_add (pe_ix ix_list (pv 0) pe_int (fun _ _ => rfl)) pe_int) (pg_sub (pv 0) pe_int set_list))
      (pss_cons (ps_set (i := 3) scTake.nd rfl (.inl rfl) (pe_ix ix_list (pv 0) pe_int (fun _ _ => rfl)))
      (pss_cons (ps_set (i := 4) scTake.nd rfl (.inl rfl) (pe_op op_mod (pe_op op_pow (pe_op op_add (pe_op op_add (pe_ix ix_list (pv 0) pe_int (fun _ _ => rfl)) (pe_op op_mul (pe_op op_mul pe_int (pv 3)) (pv 3))) pe_int) pe_int) pe_int))
      (pss_cons (ps_set (i := 5) scTake.nd rfl (.inl rfl) (pe_op op_mod (pe_op op_pow (pe_op op_add (pe_op op_mul (pv 4) (pe_op op_add (pe_op op_mul pe_int (pv 3)) pe_int)) (pv 3)) pe_int) pe_int))
      (pss_one (ps_ret (pe_op op_mod (pe_op op_fdiv (pe_op op_add (pe_op op_mul (pv 4) pe_int) (pv 5)) pe_int) (pv 1)))))))), ?_⟩
    have hL : SqL K H p [.int x, .int y, .int z] := SqL.of hp
    refine ⟨_, rfl, p, _, 0, .int x, rfl, rfl, hL, atI_nat (j := 0) rfl, x, 0, rfl, rfl, _, rfl, ite2 (fun c => ?_) (fun c => ?_)⟩
    · refine ⟨_, rfl, p, _, 0, .int x, rfl, rfl, hL, atI_nat (j := 0) rfl, _, rfl, x, m, rfl, rfl, (by omega : (0 : Int) < m), ?_⟩
      refine ⟨_, rfl, p, _, 0, .int x, rfl, rfl, hL, atI_nat (j := 0) rfl, _, rfl, x, m, rfl, rfl, ⟨by omega, by omega⟩, ?_⟩
      refine ⟨_, rfl, p, _, 0, 0, rfl, rfl, hp, rfl, ?_⟩
      exact ⟨_, rfl, q _ (x % m) Sb.upd ⟨x / m, y, z, upd_same, Int.ediv_nonneg x0 (by omega), y0, y1, z0, by omega⟩ (Int.emod_nonneg _ (by omega)) (Int.emod_lt_of_pos _ (by omega))⟩
    · refine ⟨_, rfl, p, _, 2, .int z, rfl, rfl, hL, atI_nat (j := 2) rfl, z, 1, rfl, rfl, ?_⟩
      refine ⟨_, rfl, p, _, 2, 2, rfl, rfl, hp, rfl, ?_⟩
      have h1 : (upd H p (.lst (([.int x, .int y, .int z] : List V).set 2 (.int (z + 1))))) p = some (.lst [.int x, .int y, .int (z + 1)]) := upd_same
      have hL1 := SqL.of (K := K) h1
      refine ⟨_, rfl, p, _, 2, .int (z + 1), rfl, rfl, hL1, atI_nat (j := 2) rfl, ?_⟩
      obtain ⟨t, rfl⟩ : ∃ t, t = z + 1 := ⟨_, rfl⟩
      have b1 := sq_bound (t := z + 1) (by omega) (by omega)
      refine ⟨_, rfl, p, _, 1, .int y, rfl, rfl, hL1, atI_nat (j := 1) rfl, _, rfl, 48271, z + 1, rfl, rfl, .inl ⟨by decide, by decide⟩, _, rfl, _, z + 1, rfl, rfl, .inr ⟨by omega, by omega⟩, y, _, rfl, rfl, _, 1, rfl, rfl, _, 5, rfl, rfl, ⟨by decide, by decide, by omega⟩, _, 2147483647, rfl, rfl, (by show (0 : Int) < 2147483647; decide), ?_⟩
      have o0 : 0 ≤ (y + 48271 * (z + 1) * (z + 1) + 1) ^ (5 : Int).toNat % 2147483647 := Int.emod_nonneg _ (by decide)
      have o1 : (y + 48271 * (z + 1) * (z + 1) + 1) ^ (5 : Int).toNat % 2147483647 < 2147483647 := Int.emod_lt_of_pos _ (by decide)
      have b2 := pr_bound (t := z + 1) (by omega) (by omega) o0 o1
      refine ⟨_, rfl, _, rfl, 2, z + 1, rfl, rfl, .inl ⟨by decide, by decide⟩, _, 30011, rfl, rfl, _, _, rfl, rfl, .inl ⟨by omega, by omega⟩, _, rfl, _, z + 1, rfl, rfl, _, 3, rfl, rfl, ⟨by decide, by decide, by omega⟩, _, 998244353, rfl, rfl, (by show (0 : Int) < 998244353; decide), ?_⟩
      refine ⟨_, rfl, _, 998244353, rfl, rfl, .inl ⟨by omega, by omega⟩, _, rfl, _, _, rfl, rfl, _, 1009, rfl, rfl, ⟨by decide, by decide⟩, _, rfl, _, m, rfl, rfl, (by omega : (0 : Int) < m), ?_⟩
      exact q _ _ Sb.upd ⟨x, y, z + 1, h1, x0, y0, y1, by omega, by omega⟩ (Int.emod_nonneg _ (by omega)) (Int.emod_lt_of_pos _ (by omega))
end
end PF

namespace PF
open PySem PySem.Spec PyProof.Rows L2 ZG
section
variable {P : Program} {w : World} {K : PySem.W.Frag} {mg : Str → Option Value} {base : Heap}
/-- small numbers -/
def Sml (m : Int) (f : List Int) : Prop := ∀ x ∈ f, -m ≤ x ∧ x ≤ m
def spForm : Sp := fun vs H Q _ => ∃ (p : Addr) (c : Nat) (m : Int) (n : Nat), vs = [.ref p, .int c, .int m] ∧ PAt H p n ∧ n ≤ 9000 ∧ 1 ≤ c ∧ c ≤ 20 ∧ 1 ≤ m ∧ m ≤ 100 ∧
  ∀ H' q f, Sb p H H' → PAt H' p (n + 3 * c) → H q = none → H' q = some (.tup (f.map V.int)) → f.length = c → Sml m f → Q (.ref q) H'
theorem pick3 {m a b j : Int} (hm : 1 ≤ m) (a0 : 0 ≤ a) (a1 : a < 3) (b0 : 0 ≤ b) (b1 : b < 2 * m + 1) (j0 : 0 ≤ j) (j1 : j < 3) :
    ∃ v, atI [V.int 0, V.int (a - 1), V.int (b - m)] j = some (.int v) ∧ -m ≤ v ∧ v ≤ m := by
  rcases (show j = 0 ∨ j = 1 ∨ j = 2 by omega) with rfl | rfl | rfl
  · exact ⟨0, rfl, by omega, by omega⟩
  · exact ⟨a - 1, rfl, by omega, by omega⟩
  · exact ⟨b - m, rfl, by omega, by omega⟩
theorem ok_form {f fT : Addr} {fd dT : FuncData} (F : Fun K "_law_form" "_law_form" sForm f fd) (GT : FnOk P w K mg base CX0 1 fT dT ["purse", "many"] spTake) (kT : PySem.W.keepIn K (.ref fT) = true) (bT : Binds K dT ["purse", "many"] []) (mT : mg "_law_take" = some (.ref fT)) (T : Txt mg) :
    FnOk P w K mg base CX0 2 f fd ["purse", "many", "most"] spForm := by
  refine F.ok scForm (fun vs H Q E h => ?_) (fun cdv A outer s H vs Q E hr h => ?_)
  · obtain ⟨p, c, m, n, rfl, _⟩ := h
    rfl
  · obtain ⟨p, c, m, n, rfl, hp, hn, c0, c1, m0, m1, q⟩ := h
    refine ⟨_, pss_cons (ps_set (i := 3) scForm.nd rfl (.inl rfl) (pe_lst pa_nil))
      (pss_cons (ps_for PassesOwn.never rfl (pi_range1 rfl T.range (pa_cons (pv 1) pa_nil)) (pg_name (i := 4) scForm.nd rfl (.inl rfl)) (pss_one (ps_expr (pe_bm PySem.F.plainAttrs_list PySem.F.slot_list_append PySem.F.type_list_append mt_append (pv 3)
        (pa_cons (pe_ix ix_list (pe_lst (pa_cons pe_int (pa_cons (pe_op op_sub (pe_call GT hr (by rfl) mT kT bT .nil pass0 (pa_cons (pv 0) (pa_cons pe_int pa_nil))) pe_int)
          (pa_cons (pe_op op_sub (pe_call GT hr (by rfl) mT kT bT .nil pass0 (pa_cons (pv 0) (pa_cons (pe_op op_add (pe_op op_mul pe_int (pv 2)) pe_int) pa_nil))) (pv 2)) pa_nil))))
          (pe_call GT hr (by rfl) mT kT bT .nil pass0 (pa_cons (pv 0) (pa_cons pe_int pa_nil))) (fun _ _ => rfl)) pa_nil)))))
      (pss_one (ps_ret (pe_callTy call_tuple_of (by rfl) T.tuple (by decide +kernel) (pa_cons (pv 3) pa_nil))))), ?_⟩
    refine ⟨Nat.zero_le _, fun l hl => ?_⟩
    refine ⟨_, rfl, (c : Int), rfl, by omega, by omega, ?_⟩
    have npl : l ≠ p := hp.ne hl
    refine for_it (walk_range (lo := 0) (n := c)) (fun i σ H' => ∃ y4 f, σ = [some (.ref p), some (.int c), some (.int m), some (.ref l), y4] ∧ Sb p H H' ∧ PAt H' p (n + 3 * i) ∧ H' l = some (.lst (f.map V.int)) ∧ f.length = i ∧ Sml m f)
      ⟨none, [], rfl, Sb.of (same_new hl), hp.same (same_new hl), upd_same, rfl, fun x hx => (nomatch hx)⟩ (fun _ _ _ _ _ => trivial) ?_ ?_
    · rintro i x σ H1 H2 hi ⟨y4, f, rfl, sb, pp, el, lf, sf⟩ ⟨rfl, rfl⟩
      refine ⟨_, rfl, .inl ⟨rfl, _, SqL.of el⟩, _, rfl, p, 3, n + 3 * i, rfl, pp, by omega, by decide, by decide, fun H3 a sb3 pp3 a0 a1 => ⟨a, 1, rfl, rfl, ?_⟩⟩
      refine ⟨_, rfl, _, rfl, 2, m, rfl, rfl, .inl ⟨by decide, by decide⟩, _, 1, rfl, rfl, p, 2 * m + 1, _, rfl, pp3, by omega, by omega, by omega, fun H4 b sb4 pp4 b0 b1 => ⟨_, rfl, b, m, rfl, rfl, ?_⟩⟩
      refine ⟨(by decide : 3 ≤ sizeLine), fun L hL => ?_⟩
      have sL := same_new (o := .lst [.int 0, .int (a - 1), .int (b - m)]) hL
      refine ⟨_, rfl, p, 3, _, rfl, pp4.same sL, by omega, by decide, by decide, fun H5 j sb5 pp5 j0 j1 => ?_⟩
      obtain ⟨v, hv, v0, v1⟩ := pick3 m0 a0 a1 b0 b1 j0 j1
      have nLp : L ≠ p := pp4.ne hL
      have eL : H5 L = some (.lst [.int 0, .int (a - 1), .int (b - m)]) := sb5 _ _ nLp upd_same
      refine ⟨L, _, j, .int v, rfl, rfl, SqL.of eL, hv, ?_⟩
      have el5 : H5 l = some (.lst (f.map V.int)) := sb5 _ _ npl (sL _ _ (sb4 _ _ npl (sb3 _ _ npl el)))
      have s5 : Sb p H2 H5 := ((sb3.trans sb4).trans (Sb.of sL)).trans sb5
      refine ⟨l, _, _, rfl, rfl, el5, ?_, ?_⟩
      · rw [List.length_map]
        exact small1000 (by omega)
      · refine ⟨_, f ++ [v], rfl, ?_, ?_, ?_, by simp [lf], ?_⟩
        · intro b' o nb e
          have nl : b' ≠ l := ne_of_none e hl
          rw [upd_ne nl]
          exact (sb.trans s5) b' o nb e
        · obtain ⟨x', y', z', e1, r⟩ := pp5
          refine ⟨x', y', z', ?_, r.1, r.2.1, r.2.2.1, r.2.2.2.1, by omega⟩
          rw [upd_ne npl.symm]
          exact e1
        · rw [upd_same, List.map_append]
          rfl
        · intro x hx
          rcases List.mem_append.mp hx with hx | hx
          · exact sf x hx
          · rw [List.mem_singleton] at hx
            subst hx
            exact ⟨v0, v1⟩
    · rintro σ H1 ⟨y4, f, rfl, sb, pp, el, lf, sf⟩
      refine ⟨_, rfl, l, _, rfl, .inl ⟨SqL.of el, fun t ht => ?_⟩⟩
      exact q _ t f (sb.trans (Sb.of (same_new ht))) (pp.same (same_new ht)) (sb.free (pp.ne ht) ht) upd_same lf sf
end
end PF

namespace PF
open PySem PySem.Spec PyProof.Rows L2 ZG HU
abbrev sLWorth : Stmt := topS 29
abbrev sLIsForm : Stmt := topS 31
theorem scLWorth : FnScope ["form", "at", "number", "other"] ["form", "at"] (defScope sLWorth) := ⟨rfl, rfl, rfl, by decide +kernel, rfl, by decide +kernel, by decide +kernel⟩
theorem scLIsForm : FnScope ["thing", "one"] ["thing"] (defScope sLIsForm) := ⟨rfl, rfl, rfl, by decide +kernel, rfl, by decide +kernel, by decide +kernel⟩
section
variable {P : Program} {w : World} {K : PySem.W.Frag} {mg : Str → Option Value} {base : Heap}
def spLWorth (K : PySem.W.Frag) : Sp := fun vs H Q _ => ∃ (a b : Addr) (f ws : List Int), vs = [.ref a, .ref b] ∧ FAt K H a f ∧ SqL K H b (ws.map V.int) ∧ f.length = ws.length + 1 ∧ f.length ≤ 1000 ∧ (∀ v ∈ ws, v.natAbs ≤ 1000000) ∧ ∀ H', Same H H' → Q (.int (worthF f ws)) H'
theorem ok_lworth {f : Addr} {fd : FuncData} (F : Fun K "_law_worth" "_law_worth" sLWorth f fd) (T : Txt mg) : FnOk P w K mg base CX0 1 f fd ["form", "at"] (spLWorth K) := by
  refine F.ok scLWorth (fun vs H Q E h => ?_) (fun cdv Ar outer s H vs Q E hr h => ?_)
  · obtain ⟨a, b, f, ws, rfl, _⟩ := h
    rfl
  · obtain ⟨a, b, f, ws, rfl, hA, hb, hl, h9, hw, q⟩ := h
    refine ⟨_, pss_one (ps_ret (pe_op op_add (pe_ix ix_tup (pv 0) pe_int (fun _ _ => rfl)) (pe_callB (cr_sum rfl) (by rfl) T.sum (by decide +kernel) (pa_cons (pe_lc (own := [("number", 2), ("other", 3)]) (g := gTup _ 2 (gCons (gName 2) (gCons (gName 3) gNil))) (tt := tYes) rfl scLWorth.nd
        (pi_zipG (by rfl) T.zip (pa_cons (pe_slice sl_tupA (pv 0) (po_some pe_int) po_none) (pa_cons (pv 1) pa_nil))) (blkOk_by (N := ["form", "at", "number", "other"]) (sc := defScope sLWorth) (by decide +kernel))
        (fun _ _ _ _ _ => pg_tup rfl (pgs_cons (pg_name (i := 2) scLWorth.nd rfl (Or.inl rfl)) (pgs_cons (pg_name (i := 3) scLWorth.nd rfl (Or.inl rfl)) pgs_nil))) (fun _ _ _ _ _ => pts_nil) (fun _ _ _ _ _ => pe_op op_mul (pv 2) (pv 3))) pa_nil)))), ?_⟩
    obtain ⟨x0, nsF, rfl⟩ : ∃ x0 nsF, f = x0 :: nsF := by
      cases f with
      | nil => simp at hl
      | cons x r => exact ⟨x, r, rfl⟩
    have hlen : nsF.length = ws.length := by simpa using hl
    refine ⟨_, rfl, a, _, 0, .int x0, rfl, rfl, hA, atI_nat (j := 0) rfl, ?_⟩
    refine ⟨_, rfl, 1, rfl, a, _, rfl, hA, fun z => absurd z not_whole, fun _ u hu => ?_⟩
    have s4 := same_new (o := .tup (cutV ((x0 :: nsF).map V.int) (some 1) none)) hu
    have hU : SqG true K (upd H u (.tup (cutV ((x0 :: nsF).map V.int) (some 1) none))) u (nsF.map V.int) := .inl (.inl (upd_same.trans (by rw [cut_one]; rfl)))
    have hB : SqG false K _ b (ws.map V.int) := Same.seq s4 hb
    refine ⟨_, rfl, true, false, u, b, _, _, rfl, hU, hB, fun M hM => ?_⟩
    generalize upd H u (.tup (cutV ((x0 :: nsF).map V.int) (some 1) none)) = H4 at *
    refine lc_it (walkG (xs := nsF.map V.int) (ys := ws.map V.int) (n := ws.length) (by simp; omega)) (fun i H' => Same H4 H' ∧ H' M = some (.lst (((List.zipWith (fun a b => a * b) nsF ws).take i).map V.int))) ⟨same_new hM, upd_same⟩ (fun i H' _ p => ⟨Same.sq p.1 hU, Same.sq p.1 hB⟩) ?_ ?_
    · rintro i v H5 H6 hi ⟨s5, e5⟩ ⟨U, vx, vy, rfl, hU6, rfl, hvx, hvy⟩
      obtain ⟨n1, rfl, hn1⟩ := int_at hvx
      obtain ⟨n2, rfl, hn2⟩ := int_at hvy
      refine ⟨U, [.int n1, .int n2], rfl, .inl (.inl upd_same), rfl, .int n1, [.int n2], rfl, .int n2, [], rfl, rfl, rfl, ?_⟩
      have ne : M ≠ U := ne_of_none e5 hU6
      refine ⟨_, rfl, _, rfl, n1, n2, rfl, rfl, ?_, _, Eq.trans (upd_ne ne) e5, ?_, fun c o e => ?_, ?_⟩
      · have := hw n2 (List.mem_of_getElem? hn2)
        exact .inr ⟨by omega, by omega⟩
      · rw [List.length_map, List.length_take]
        exact Nat.lt_of_le_of_lt (Nat.min_le_left _ _) (small1000 (by omega))
      · rw [upd_ne (ne_of_none e hM), upd_ne (ne_of_none (s5 c o e) hU6)]
        exact s5 c o e
      · rw [upd_same, List.take_add_one, dotW_snoc nsF ws i n1 n2 hn1 hn2, List.map_append]
        rfl
    · rintro H5 ⟨s5, e5⟩
      rw [show ws.length = (List.zipWith (fun a b => a * b) nsF ws).length by rw [List.length_zipWith]; omega, List.take_length] at e5
      refine ⟨M, _, rfl, SqL.of e5, _, _, rfl, rfl, ?_⟩
      rw [dotW_sum]
      exact q H5 (s4.trans s5)
theorem dp_ints {K : PySem.W.Frag} {H : Hp} : ∀ f : List Int, DpAll K H (f.map V.int) (f.map PyData.int)
  | [] => .nil
  | x :: r => .cons (.int x) (dp_ints r)
theorem dp_f {K : PySem.W.Frag} {H : Hp} {a : Addr} {f : List Int} (h : FAt K H a f) : Dp K H (.ref a) (.tuple (f.map PyData.int)) := .tup h (dp_ints f)
theorem lay_ints : ∀ f : List Int, PyData.canLayAll0 (f.map PyData.int) = true ∧ PyData.depthAll (f.map PyData.int) = 0
  | [] => ⟨rfl, rfl⟩
  | x :: r => by
    obtain ⟨h1, h2⟩ := lay_ints r
    refine ⟨?_, ?_⟩
    · show (true && PyData.canLayAll0 (r.map PyData.int)) = true
      rw [h1]
      rfl
    · show max 0 (PyData.depthAll (r.map PyData.int)) = 0
      rw [h2]
      rfl
theorem lay_f (f : List Int) : PyData.canLay0 (.tuple (f.map PyData.int)) = true := (lay_ints f).1
theorem sh_f (f : List Int) : SeqAt.shaped (.tuple (f.map PyData.int)) = true := by
  unfold SeqAt.shaped
  rw [lay_f f, Bool.true_and]
  refine decide_eq_true ?_
  show PyData.depthAll (f.map PyData.int) + 1 ≤ 64
  rw [(lay_ints f).2]
  decide
def spLIsForm (K : PySem.W.Frag) : Sp := fun vs H Q _ => ∃ (a : Addr) (f : List Int), vs = [.ref a] ∧ FAt K H a f ∧ f ≠ [] ∧ f.length ≤ 1000 ∧ ∀ H', Same H H' → Q (.bl true) H'
theorem ok_lisform {f : Addr} {fd : FuncData} (F : Fun K "_law_is_form" "_law_is_form" sLIsForm f fd) (T : Txt mg) : FnOk P w K mg base CX0 1 f fd ["thing"] (spLIsForm K) := by
  refine F.ok scLIsForm (fun vs H Q E h => ?_) (fun cdv Ar outer s H vs Q E hr h => ?_)
  · obtain ⟨a, f, rfl, _⟩ := h
    rfl
  · obtain ⟨a, f, rfl, hA, h0, h9, q⟩ := h
    refine ⟨_, pss_cons (ps_if (PW.pt (pw_or (pt_not (pt_val (pe_callB call_isi (by rfl) T.isi (by decide +kernel) (pa_cons (pv 0) (pa_cons (pe_bltn (v := .ty "tuple") (by rfl) T.tuple (by decide +kernel) rfl) pa_nil)))))
        (pw_or1 (pt_cmpR (op_eqD hr.units) (pv 0) (pe_tup pa_nil) (nomark _))))) (pss_one ps_never) pss_nil)
      (pss_one (ps_ret (pe_cmpR (op_eqD hr.units) (pe_lc (own := [("one", 1)]) (g := gName 1) rfl scLIsForm.nd (pi_tup (pv 0)) (blkOk_by (N := ["thing", "one"]) (sc := defScope sLIsForm) (by decide +kernel))
        (fun _ _ _ _ _ => pg_name (i := 1) scLIsForm.nd rfl (Or.inl rfl))
        (fun _ _ _ _ _ => pts_one (PW.pt (pw_or (pt_not (pt_val (pe_callB (id := "isinstance") (r := rIsi K) call_isi (by rfl) T.isi (by decide +kernel) (pa_cons (pv 1) (pa_cons (pe_bltn (v := .ty "int") (by rfl) T.int (by decide +kernel) rfl) pa_nil)))))
          (pw_or1 (pt_val (pe_callB (id := "isinstance") (r := rIsi K) call_isi (by rfl) T.isi (by decide +kernel) (pa_cons (pv 1) (pa_cons (pe_bltn (v := .ty "bool") (by rfl) T.bool (by decide +kernel) rfl) pa_nil))))))))
        (fun _ _ _ _ _ => pv 1)) (pe_lst pa_nil) (nomark _)))), ?_⟩
    obtain ⟨x0, r, rfl⟩ : ∃ x0 r, f = x0 :: r := by
      cases f with
      | nil => exact absurd rfl h0
      | cons x r => exact ⟨x, r, rfl⟩
    refine ⟨_, rfl, _, _, _, _, true, rfl, .ty "tuple", ty_tup hA, kit_tup (by decide), true, rfl, iteF ?_⟩
    refine ⟨_, rfl, Nat.zero_le _, fun t nt => ?_⟩
    have s1 := same_new (o := .tup []) nt
    refine ⟨_, .tuple [], dp_f (Same.f s1 hA), .tup (.inl (.inl upd_same)) .nil, sh_f _, by decide, false, rfl, iteF ?_⟩
    generalize upd H t (.tup []) = H1 at *
    have hA1 := Same.f s1 hA
    refine ⟨_, rfl, a, rfl, ⟨_, hA1⟩, fun D hD => ?_⟩
    refine lc_it (walk_tup (xs := (x0 :: r).map V.int)) (fun i H' => Same H1 H' ∧ H' D = some (.lst [])) ⟨same_new hD, upd_same⟩ (fun i H' _ p => Same.tup p.1 hA1) ?_ ?_
    · rintro i v H5 H6 hi ⟨s5, e5⟩ ⟨rfl, hv⟩
      obtain ⟨n1, rfl, hn1⟩ := int_at hv
      refine ⟨rfl, ?_⟩
      exact ⟨_, rfl, _, _, _, _, true, rfl, .ty "int", .base (.int n1), kit_ty (by decide +kernel), true, rfl, iteF ⟨_, rfl, _, _, _, _, false, rfl, .ty "bool", .base (.int n1), kit_ty (by decide +kernel), false, rfl, s5, e5⟩⟩
    · rintro H5 ⟨s5, e5⟩
      refine ⟨Nat.zero_le _, fun L nL => ?_⟩
      have s6 := same_new (o := .lst []) nL
      exact ⟨.list [], .list [], .lst (SqL.of (s6 _ _ e5)) .nil, .lst (SqL.of upd_same) .nil, by decide, by decide, q _ (s1.trans (s5.trans s6))⟩
end
end PF

namespace PF
/-! ### the mathematics of leading forms -/
def at0 (f : List Int) (j : Nat) : Int := (f[j]?).getD 0
theorem ext0 {f g : List Int} (hl : f.length = g.length) (h : ∀ j, at0 f j = at0 g j) : f = g := by
  refine List.ext_getElem? fun j => ?_
  have e := h j
  unfold at0 at e
  by_cases hj : j < f.length
  · have hg : j < g.length := by omega
    rw [List.getElem?_eq_getElem hj, List.getElem?_eq_getElem hg] at e ⊢
    exact congrArg some e
  · rw [List.getElem?_eq_none (by omega), List.getElem?_eq_none (by omega)]
theorem at0_add {f g : List Int} (hl : f.length = g.length) (j : Nat) : at0 (addF f g) j = at0 f j + at0 g j := by
  unfold at0 addF
  rw [List.getElem?_zipWith]
  by_cases hj : j < f.length
  · have hg : j < g.length := by omega
    rw [List.getElem?_eq_getElem hj, List.getElem?_eq_getElem hg]
    rfl
  · rw [List.getElem?_eq_none (show f.length ≤ j by omega), List.getElem?_eq_none (show g.length ≤ j by omega)]
    rfl
theorem at0_oft (f : List Int) (m : Int) (j : Nat) : at0 (oftF f m) j = at0 f j * m := by
  unfold at0 oftF
  rw [List.getElem?_map]
  cases f[j]? with
  | none => exact (Int.zero_mul m).symm
  | some x => rfl
def dot : List Int → List Int → Int
  | n :: ns, v :: vs => v * n + dot ns vs
  | _, _ => 0
theorem dot_add : ∀ (ns ms vs : List Int), ns.length = ms.length → dot (addF ns ms) vs = dot ns vs + dot ms vs
  | [], [], vs, _ => by cases vs <;> rfl
  | [], _ :: _, _, h => by simp at h
  | _ :: _, [], _, h => by simp at h
  | n :: ns, m :: ms, [], _ => rfl
  | n :: ns, m :: ms, v :: vs, h => by
    have ih := dot_add ns ms vs (by simpa using h)
    show v * (n + m) + dot (addF ns ms) vs = v * n + dot ns vs + (v * m + dot ms vs)
    rw [ih, Int.mul_add]
    omega
theorem dot_oft : ∀ (ns vs : List Int) (k : Int), dot (oftF ns k) vs = dot ns vs * k
  | [], vs, k => by cases vs <;> exact (Int.zero_mul k).symm
  | n :: ns, [], k => (Int.zero_mul k).symm
  | n :: ns, v :: vs, k => by
    have ih := dot_oft ns vs k
    show v * (n * k) + dot (oftF ns k) vs = (v * n + dot ns vs) * k
    rw [ih, Int.add_mul, Int.mul_assoc]
theorem dot_zero : ∀ (n : Nat) (vs : List Int), dot (List.replicate n 0) vs = 0
  | 0, vs => by cases vs <;> rfl
  | n + 1, [] => rfl
  | n + 1, v :: vs => by
    show v * 0 + dot (List.replicate n 0) vs = 0
    rw [dot_zero n vs, Int.mul_zero]
    rfl
theorem dot_natAbs (A B : Nat) : ∀ (ns vs : List Int), (∀ x ∈ ns, x.natAbs ≤ A) → (∀ x ∈ vs, x.natAbs ≤ B) → (dot ns vs).natAbs ≤ ns.length * (B * A)
  | [], _, _, _ => by unfold dot; simp
  | n :: ns, [], _, _ => by unfold dot; simp
  | n :: ns, v :: vs, h1, h2 => by
    have ih := dot_natAbs A B ns vs (fun x h => h1 x (List.mem_cons_of_mem _ h)) (fun x h => h2 x (List.mem_cons_of_mem _ h))
    have a1 : (v * n).natAbs ≤ B * A := by
      rw [Int.natAbs_mul]
      exact Nat.mul_le_mul (h2 v (List.mem_cons_self ..)) (h1 n (List.mem_cons_self ..))
    show (v * n + dot ns vs).natAbs ≤ (ns.length + 1) * (B * A)
    rw [Nat.add_mul, Nat.one_mul]
    have := Int.natAbs_add_le (v * n) (dot ns vs)
    omega
def e0 (j : Nat) : Int := if j = 0 then 1 else 0
/-- what a led form has at the place j -/
def lin (f : List Int) (gs : List (List Int)) (j : Nat) : Int := at0 f 0 * e0 j + dot f.tail (gs.map fun g => at0 g j)
theorem tail_add (f g : List Int) (hl : f.length = g.length) : (addF f g).tail = addF f.tail g.tail := by
  cases f with
  | nil =>
    cases g with
    | nil => rfl
    | cons x r => simp at hl
  | cons x r =>
    cases g with
    | nil => simp at hl
    | cons y q => rfl
theorem tail_oft (f : List Int) (k : Int) : (oftF f k).tail = oftF f.tail k := by
  cases f <;> rfl
theorem lin_add {f g : List Int} (hl : f.length = g.length) (gs : List (List Int)) (j : Nat) : lin (addF f g) gs j = lin f gs j + lin g gs j := by
  unfold lin
  rw [at0_add hl, tail_add f g hl, dot_add _ _ _ (by rw [List.length_tail, List.length_tail, hl]), Int.add_mul]
  omega
theorem lin_oft (f : List Int) (k : Int) (gs : List (List Int)) (j : Nat) : lin (oftF f k) gs j = lin f gs j * k := by
  unfold lin
  rw [at0_oft, tail_oft, dot_oft, Int.add_mul, Int.mul_assoc, Int.mul_assoc, Int.mul_comm k]
theorem ledGo_at (L : List Int → Int) (m : Nat) (la : ∀ f g : List Int, f.length = m → g.length = m → L (addF f g) = L f + L g) (lo : ∀ (f : List Int) (k : Int), L (oftF f k) = L f * k) :
    ∀ (ns : List Int) (gs : List (List Int)) (t : List Int), t.length = m → (∀ g ∈ gs, g.length = m) → L (ledGo t ns gs) = L t + dot ns (gs.map L)
  | [], gs, t, _, _ => by
    have e : ledGo t [] gs = t := by unfold ledGo; rfl
    rw [e]
    cases gs <;> exact (Int.add_zero _).symm
  | n :: ns, [], t, _, _ => (Int.add_zero _).symm
  | n :: ns, g :: gs, t, ht, hg => by
    have hgm := hg g (List.mem_cons_self ..)
    have hom : (oftF g n).length = m := (oftF_len g n).trans hgm
    show L (ledGo (addF t (oftF g n)) ns gs) = L t + (L g * n + dot ns (gs.map L))
    rw [ledGo_at L m la lo ns gs _ ((addF_len (ht.trans hom.symm)).trans ht) fun g' h => hg g' (List.mem_cons_of_mem _ h), la _ _ ht hom, lo]
    omega
theorem at0_first (x : Int) (n j : Nat) : at0 (x :: List.replicate n 0) j = x * e0 j := by
  cases j with
  | zero => exact (Int.mul_one x).symm
  | succ j =>
    unfold at0 e0
    rw [List.getElem?_cons_succ, if_neg (by omega), Int.mul_zero]
    by_cases h : j < n
    · rw [List.getElem?_replicate, if_pos h]
      rfl
    · rw [List.getElem?_replicate, if_neg h]
      rfl
theorem ledF_at {f : List Int} {gs : List (List Int)} {m : Nat} (hm : 1 ≤ m) (hf : f ≠ []) (hg0 : gs ≠ []) (hg : ∀ g ∈ gs, g.length = m) : (ledF f gs).length = m ∧ ∀ j, at0 (ledF f gs) j = lin f gs j := by
  cases f with
  | nil => exact absurd rfl hf
  | cons x ns =>
    cases gs with
    | nil => exact absurd rfl hg0
    | cons g r =>
      have e := hg g (List.mem_cons_self ..)
      have tl : (x :: List.replicate (g.length - 1) (0 : Int)).length = m := by
        rw [List.length_cons, List.length_replicate]
        omega
      refine ⟨?_, fun j => ?_⟩
      · show (ledGo _ ns (g :: r)).length = m
        rw [ledGo_len ns (g :: r) _ fun g' h => (hg g' h).trans tl.symm, tl]
      · show at0 (ledGo _ ns (g :: r)) j = _
        rw [ledGo_at (fun f => at0 f j) m (fun f g a b => at0_add (a.trans b.symm) j) (fun f k => at0_oft f k j) ns (g :: r) _ tl hg, at0_first]
        rfl
/-- forms that may be led: the one, what stands in the place of its unknowns, all of one length -/
structure Fit (f : List Int) (gs : List (List Int)) (m : Nat) : Prop where
  one : 1 ≤ m
  ne : f ≠ []
  nes : gs ≠ []
  len : ∀ g ∈ gs, g.length = m
theorem led_add {f g : List Int} {gs : List (List Int)} {m : Nat} (hl : f.length = g.length) (a : Fit f gs m) (b : Fit g gs m) (c : Fit (addF f g) gs m) : ledF (addF f g) gs = addF (ledF f gs) (ledF g gs) := by
  have h1 := ledF_at a.one a.ne a.nes a.len
  have h2 := ledF_at b.one b.ne b.nes b.len
  have h3 := ledF_at c.one c.ne c.nes c.len
  have hl2 := h1.1.trans h2.1.symm
  refine ext0 (by rw [h3.1, addF_len hl2, h1.1]) fun j => ?_
  rw [h3.2, at0_add hl2, h1.2, h2.2, lin_add hl]
theorem led_oft {f : List Int} {k : Int} {gs : List (List Int)} {m : Nat} (a : Fit f gs m) (c : Fit (oftF f k) gs m) : ledF (oftF f k) gs = oftF (ledF f gs) k := by
  have h1 := ledF_at a.one a.ne a.nes a.len
  have h3 := ledF_at c.one c.ne c.nes c.len
  refine ext0 (by rw [h3.1, oftF_len, h1.1]) fun j => ?_
  rw [h3.2, at0_oft, h1.2, lin_oft]
/-- how great a led form's numbers may be -/
theorem led_abs {f : List Int} {gs : List (List Int)} {m A B C : Nat} (a : Fit f gs m) (hA : ∀ x ∈ f, x.natAbs ≤ A) (hB : ∀ g ∈ gs, ∀ x ∈ g, x.natAbs ≤ B) (hC : A + f.length * (B * A) ≤ C) : ∀ x ∈ ledF f gs, x.natAbs ≤ C := by
  intro x hx
  obtain ⟨j, hj, rfl⟩ := List.getElem_of_mem hx
  have e := (ledF_at a.one a.ne a.nes a.len).2 j
  unfold at0 at e
  rw [List.getElem?_eq_getElem hj] at e
  have e' : (ledF f gs)[j] = lin f gs j := e
  rw [e']
  unfold lin
  cases f with
  | nil => exact absurd rfl a.ne
  | cons y ns =>
    have h1 : (dot ns (gs.map fun g => at0 g j)).natAbs ≤ ns.length * (B * A) := dot_natAbs A B ns _ (fun x h => hA x (List.mem_cons_of_mem _ h)) fun v hv => by
      obtain ⟨g, hg, rfl⟩ := List.mem_map.mp hv
      unfold at0
      cases e : g[j]? with
      | none => exact Nat.zero_le _
      | some u => exact hB g hg u (List.mem_of_getElem? e)
    have h2 : (y * e0 j).natAbs ≤ A := by
      have := hA y (List.mem_cons_self ..)
      unfold e0
      split
      · rw [Int.mul_one]; exact this
      · rw [Int.mul_zero]; exact Nat.zero_le _
    have h3 := Int.natAbs_add_le (y * e0 j) (dot ns (gs.map fun g => at0 g j))
    have h4 : (y :: ns).length * (B * A) = ns.length * (B * A) + B * A := by rw [List.length_cons, Nat.add_mul, Nat.one_mul]
    show (y * e0 j + dot ns _).natAbs ≤ C
    omega
/-! ### the law's own way of leading -/
theorem ledGo_at0 {m : Nat} {ns : List Int} {gs : List (List Int)} {t : List Int} (ht : t.length = m) (hg : ∀ g ∈ gs, g.length = m) (j : Nat) : at0 (ledGo t ns gs) j = at0 t j + dot ns (gs.map fun g => at0 g j) :=
  ledGo_at (fun f => at0 f j) m (fun f g a b => at0_add (a.trans b.symm) j) (fun f k => at0_oft f k j) ns gs t ht hg
theorem ledF_split {x0 : Int} {ns : List Int} {g0 : List Int} {gr : List (List Int)} {m : Nat} (h1 : 1 ≤ m) (hg : ∀ g ∈ g0 :: gr, g.length = m) :
    ∃ c r, ledGo (List.replicate m 0) ns (g0 :: gr) = c :: r ∧ ledF (x0 :: ns) (g0 :: gr) = (c + x0) :: r := by
  have hm : g0.length = m := hg g0 (List.mem_cons_self ..)
  have l1 : (ledGo (List.replicate m 0) ns (g0 :: gr)).length = m := by
    rw [ledGo_len ns (g0 :: gr) _ fun g h => (hg g h).trans (List.length_replicate).symm, List.length_replicate]
  obtain ⟨c, r, e⟩ : ∃ c r, ledGo (List.replicate m 0) ns (g0 :: gr) = c :: r := by
    cases e : ledGo (List.replicate m 0) ns (g0 :: gr) with
    | nil => rw [e] at l1; simp at l1; omega
    | cons c r => exact ⟨c, r, rfl⟩
  refine ⟨c, r, e, ?_⟩
  have F := ledF_at (f := x0 :: ns) (gs := g0 :: gr) (m := m) h1 (by simp) (by simp) hg
  refine ext0 (by rw [F.1, ← l1, e]; rfl) fun j => ?_
  have a := ledGo_at0 (ns := ns) (t := List.replicate m 0) (m := m) List.length_replicate hg j
  rw [e] at a
  rw [F.2]
  unfold lin
  have z : at0 (List.replicate m (0 : Int)) j = 0 := by
    unfold at0
    by_cases h : j < m
    · rw [List.getElem?_replicate, if_pos h]; rfl
    · rw [List.getElem?_replicate, if_neg h]; rfl
  rw [z, Int.zero_add] at a
  show x0 * e0 j + dot ns _ = _
  rw [← a]
  cases j with
  | zero =>
    show x0 * 1 + c = c + x0
    omega
  | succ j =>
    show x0 * 0 + at0 r j = at0 r j
    omega
theorem worthF_dot (x : Int) : ∀ (ns ws : List Int), worthF (x :: ns) ws = x + dot ns ws := by
  intro ns ws
  show x + dotW ns ws = x + dot ns ws
  congr 1
  induction ns generalizing ws with
  | nil => cases ws <;> rfl
  | cons n ns ih =>
    cases ws with
    | nil => rfl
    | cons v vs =>
      show n * v + dotW ns vs = v * n + dot ns vs
      rw [ih, Int.mul_comm]
theorem worth_add {f g : List Int} (ws : List Int) (hf : f ≠ []) (hg : g ≠ []) (hl : f.length = g.length) : worthF (addF f g) ws = worthF f ws + worthF g ws := by
  cases f with
  | nil => exact absurd rfl hf
  | cons x ns =>
    cases g with
    | nil => exact absurd rfl hg
    | cons y ms =>
      show worthF ((x + y) :: addF ns ms) ws = _
      rw [worthF_dot, worthF_dot, worthF_dot, dot_add ns ms ws (by simpa using hl)]
      omega
theorem worth_oft (f : List Int) (k : Int) (ws : List Int) : worthF (oftF f k) ws = worthF f ws * k := by
  cases f with
  | nil => exact (Int.zero_mul k).symm
  | cons x ns =>
    show worthF ((x * k) :: oftF ns k) ws = _
    rw [worthF_dot, worthF_dot, dot_oft, Int.add_mul]
theorem worth_led {x0 : Int} {ns : List Int} {g0 : List Int} {gr : List (List Int)} {m : Nat} (h1 : 1 ≤ m) (hg : ∀ g ∈ g0 :: gr, g.length = m) (at' : List Int) :
    worthF (ledF (x0 :: ns) (g0 :: gr)) at' = worthF (x0 :: ns) ((g0 :: gr).map fun g => worthF g at') := by
  have hm : g0.length = m := hg g0 (List.mem_cons_self ..)
  have ne : ∀ f : List Int, f.length = m → f ≠ [] := fun f h z => by rw [z] at h; simp at h; omega
  show worthF (ledGo (x0 :: List.replicate (g0.length - 1) 0) ns (g0 :: gr)) at' = _
  rw [ledGo_at (fun f => worthF f at') m (fun f g a b => worth_add at' (ne f a) (ne g b) (a.trans b.symm)) (fun f k => worth_oft f k at') ns (g0 :: gr) _ (by rw [List.length_cons, List.length_replicate]; omega) hg, worthF_dot, worthF_dot, dot_zero]
  omega
/-! data of forms -/
open PySem PySem.Spec PyProof.Rows L2 ZG HU
def datF (g : List Int) : PyData := .tuple (g.map PyData.int)
theorem FsAt.cons {K : PySem.W.Frag} {H : Hp} {x : V} {r : List V} {g : List Int} {q : List (List Int)} (h : FsAt K H (x :: r) (g :: q)) : (∃ a, x = .ref a ∧ FAt K H a g) ∧ FsAt K H r q := by
  obtain ⟨a, g', h1, h2, h3⟩ := h.2 0 x rfl
  have e : g = g' := Option.some.inj h2
  subst e
  exact ⟨⟨a, h1, h3⟩, by simpa using h.1, fun i y hy => h.2 (i + 1) y hy⟩
theorem FsAt.nil {K : PySem.W.Frag} {H : Hp} : FsAt K H [] [] := ⟨rfl, fun i x h => by simp at h⟩
theorem FsAt.mk {K : PySem.W.Frag} {H : Hp} {a : Addr} {r : List V} {g : List Int} {q : List (List Int)} (h : FAt K H a g) (h2 : FsAt K H r q) : FsAt K H (.ref a :: r) (g :: q) :=
  ⟨by rw [List.length_cons, List.length_cons, h2.1], fun i x hx => by
    cases i with
    | zero => exact ⟨a, g, (Option.some.inj hx).symm, rfl, h⟩
    | succ i => exact h2.2 i x hx⟩
theorem FsAt.snoc {K : PySem.W.Frag} {H : Hp} {a : Addr} {g : List Int} (h : FAt K H a g) : ∀ {r : List V} {q : List (List Int)}, FsAt K H r q → FsAt K H (r ++ [.ref a]) (q ++ [g])
  | [], [], _ => .mk h .nil
  | x :: r, [], h2 => by have := h2.1; simp at this
  | [], g :: q, h2 => by have := h2.1; simp at this
  | x :: r, g' :: q, h2 => by
    obtain ⟨⟨a', rfl, h3⟩, h4⟩ := h2.cons
    exact .mk h3 (FsAt.snoc h h4)
theorem dp_forms {K : PySem.W.Frag} {H : Hp} : ∀ {xs : List V} {gs : List (List Int)}, FsAt K H xs gs → DpAll K H xs (gs.map datF)
  | [], [], _ => .nil
  | x :: r, [], h => by have := h.1; simp at this
  | [], g :: q, h => by have := h.1; simp at this
  | x :: r, g :: q, h => by
    obtain ⟨⟨a, rfl, h1⟩, h2⟩ := h.cons
    exact .cons (dp_f h1) (dp_forms h2)
theorem dpall_snoc {K : PySem.W.Frag} {H : Hp} {v : V} {d : PyData} (h : Dp K H v d) : ∀ {xs : List V} {ds : List PyData}, DpAll K H xs ds → DpAll K H (xs ++ [v]) (ds ++ [d])
  | _, _, .nil => .cons h .nil
  | _, _, .cons h1 h2 => .cons h1 (dpall_snoc h h2)
/-- data that are ints, none, or flat tuples -/
theorem lay_forms : ∀ (gs : List (List Int)) (e : List PyData), PyData.canLayAll0 e = true → PyData.depthAll e ≤ 1 → PyData.canLayAll0 (gs.map datF ++ e) = true ∧ PyData.depthAll (gs.map datF ++ e) ≤ 1
  | [], e, h1, h2 => ⟨h1, h2⟩
  | g :: gs, e, h1, h2 => by
    obtain ⟨i1, i2⟩ := lay_forms gs e h1 h2
    refine ⟨?_, ?_⟩
    · show (PyData.canLay0 (datF g) && PyData.canLayAll0 (gs.map datF ++ e)) = true
      rw [i1, Bool.and_true]
      exact lay_f g
    · show max (PyData.depthAll (g.map PyData.int) + 1) (PyData.depthAll (gs.map datF ++ e)) ≤ 1
      rw [(lay_ints g).2]
      omega
theorem sh_forms (gs : List (List Int)) (e : List PyData) (h1 : PyData.canLayAll0 e = true) (h2 : PyData.depthAll e ≤ 1) : SeqAt.shaped (.list (gs.map datF ++ e)) = true := by
  obtain ⟨i1, i2⟩ := lay_forms gs e h1 h2
  unfold SeqAt.shaped
  rw [show PyData.canLay0 (.list (gs.map datF ++ e)) = true from i1, Bool.true_and]
  refine decide_eq_true ?_
  show PyData.depthAll (gs.map datF ++ e) + 1 ≤ 64
  omega
theorem none_forms (gs : List (List Int)) (e : List PyData) : ((gs.map datF ++ e).any fun z => PyData.eqv z .none) = e.any fun z => PyData.eqv z .none := by
  rw [List.any_append, show ((gs.map datF).any fun z => PyData.eqv z .none) = false from ?_, Bool.false_or]
  rw [List.any_eq_false]
  intro z hz
  obtain ⟨g, _, rfl⟩ := List.mem_map.mp hz
  exact Bool.false_ne_true
end PF

namespace PF
open PySem PySem.Spec PyProof.Rows L2 ZG HU
abbrev sLLed : Stmt := topS 30
abbrev NLL : List Str := ["form", "others", "numbers", "number", "other", "old", "more"]
theorem scLLed : FnScope NLL ["form", "others"] (defScope sLLed) := ⟨rfl, rfl, rfl, by decide +kernel, rfl, by decide +kernel, by decide +kernel⟩
section
variable {P : Program} {w : World} {K : PySem.W.Frag} {mg : Str → Option Value} {base : Heap}
/-- a form is led by the law's own def -/
def spLLed (K : PySem.W.Frag) : Sp := fun vs H Q _ => ∃ (a b : Addr) (f : List Int) (xs : List V) (gs : List (List Int)) (m : Nat), vs = [.ref a, .ref b] ∧ FAt K H a f ∧ H b = some (.lst xs) ∧ FsAt K H xs gs ∧ f.length = gs.length + 1 ∧ f.length ≤ 1000 ∧
  (∀ x ∈ f, x.natAbs ≤ 1000) ∧ (∀ g ∈ gs, g.length = m) ∧ 1 ≤ m ∧ m ≤ 1000 ∧ ∀ H' p, Same H H' → FAt K H' p (ledF f gs) → Q (.ref p) H'
theorem ok_lled {f : Addr} {fd : FuncData} (F : Fun K "_law_led" "_law_led" sLLed f fd) (T : Txt mg) : FnOk P w K mg base CX0 1 f fd ["form", "others"] (spLLed K) := by
  refine F.ok scLLed (fun vs H Q E h => ?_) (fun cdv Ar outer s H vs Q E hr h => ?_)
  · obtain ⟨a, b, f, xs, gs, m, rfl, _⟩ := h
    rfl
  · obtain ⟨a, b, f, xs, gs, m, rfl, hA, hb, hx, hl, h9, hf, hg, m1, m9, q⟩ := h
    refine ⟨_, pss_cons (ps_if (pt_cmpR (op_eqD hr.units) (pv 1) (pe_lst pa_nil) (nomark _)) (pss_one (ps_ret (pv 0))) pss_nil)
      (pss_cons (ps_set (i := 2) scLLed.nd rfl (.inl rfl) (pe_op op_rep (pe_lst (pa_cons pe_int pa_nil)) (pe_callB call_len_seq (by rfl) T.len PySem.boot_len (pa_cons (pe_ix ix_list (pv 1) pe_int (fun _ _ => rfl)) pa_nil))))
      (pss_cons (ps_for PassesOwn.never rfl (pi_zipG (by rfl) T.zip (pa_cons (pe_slice sl_tupA (pv 0) (po_some pe_int) po_none) (pa_cons (pv 1) pa_nil))) (pg_tup rfl (pgs_cons (pg_name (i := 3) scLLed.nd rfl (.inr rfl)) (pgs_cons (pg_name (i := 4) scLLed.nd rfl (.inl rfl)) pgs_nil)))
        (pss_one (ps_setLc (i := 2) (own := [("old", 5), ("more", 6)]) (g := gTup _ 2 (gCons (gName 5) (gCons (gName 6) gNil))) (tt := tYes) rfl scLLed.nd rfl rfl (sw_true rfl rfl rfl (by decide +kernel)) (pi_zipG (by rfl) T.zip (pa_cons (pv 2) (pa_cons (pv 4) pa_nil))) (blkOk_by (N := NLL) (sc := defScope sLLed) (by decide +kernel))
          (fun _ _ _ _ _ => pg_tup rfl (pgs_cons (pg_name (i := 5) scLLed.nd rfl (Or.inl rfl)) (pgs_cons (pg_name (i := 6) scLLed.nd rfl (Or.inl rfl)) pgs_nil))) (fun _ _ _ _ _ => pts_nil) (fun _ _ _ _ _ => pe_op op_add (pv 5) (pe_op op_mul (pv 3) (pv 6))))))
      (pss_one (ps_ret (pe_callTy call_tuple_of (by rfl) T.tuple (by decide +kernel) (pa_cons (pe_op op_cat (pe_lst (pa_cons (pe_op op_add (pe_ix ix_list (pv 2) pe_int (fun _ _ => rfl)) (pe_ix ix_tup (pv 0) pe_int (fun _ _ => rfl))) pa_nil)) (pe_slice sl_list (pv 2) (po_some pe_int) po_none)) pa_nil)))))), ?_⟩
    obtain ⟨x0, ns, rfl⟩ : ∃ x0 ns, f = x0 :: ns := by
      cases f with
      | nil => simp at hl
      | cons x r => exact ⟨x, r, rfl⟩
    have hns : ns.length = gs.length := by simpa using hl
    refine ⟨_, rfl, Nat.zero_le _, fun t nt => ?_⟩
    have s1 := same_new (o := .lst []) nt
    have hx1 : FsAt K (upd H t (.lst [])) xs gs := hx.same s1
    refine ⟨.list (gs.map datF), .list [], .lst (SqL.of (s1 _ _ hb)) (dp_forms hx1), .lst (SqL.of upd_same) .nil, by have := sh_forms gs [] rfl (Nat.zero_le _); rwa [List.append_nil] at this, by decide, ?_⟩
    have hA1 := Same.f s1 hA
    have hb1 := s1 _ _ hb
    generalize upd H t (.lst []) = H1 at *
    cases gs with
    | nil =>
      have e0 : PyData.eqv (.list (([] : List (List Int)).map datF)) (.list []) = true := rfl
      rw [e0]
      exact ⟨true, rfl, iteT ⟨_, rfl, q _ a s1 hA1⟩⟩
    | cons g0 gr =>
    have e0 : PyData.eqv (.list ((g0 :: gr).map datF)) (.list []) = false := rfl
    rw [e0]
    refine ⟨false, rfl, iteF ?_⟩
    obtain ⟨y0, xr, rfl⟩ : ∃ y0 xr, xs = y0 :: xr := by
      cases xs with
      | nil => have := hx.1; simp at this
      | cons x r => exact ⟨x, r, rfl⟩
    obtain ⟨⟨ag, rfl, hg0⟩, _⟩ := hx1.cons
    have lm0 : g0.length = m := hg g0 (List.mem_cons_self ..)
    -- numbers
    refine ⟨(by decide : 1 ≤ sizeLine), fun l hl1 => ?_⟩
    have s2 := same_new (o := .lst [.int 0]) hl1
    have el : (upd H1 l (.lst [.int 0])) l = some (.lst [.int 0]) := upd_same
    generalize upd H1 l (.lst [.int 0]) = H2 at *
    refine ⟨_, rfl, b, _, 0, .ref ag, rfl, rfl, SqL.of (s2 _ _ hb1), atI_nat (j := 0) rfl, ?_⟩
    refine ⟨ag, _, rfl, .inr (Same.f s2 hg0), ?_⟩
    rw [List.length_map, lm0]
    refine ⟨l, (m : Int), _, rfl, rfl, el, by omega, by omega, by rw [List.length_singleton, Nat.one_mul]; exact Nat.le_of_lt (small1000 (by omega)), fun M hM => ?_⟩
    have s3 := same_new (o := .lst (List.replicate ((m : Int)).toNat [V.int 0]).flatten) hM
    have eM : (upd H2 M (.lst (List.replicate ((m : Int)).toNat [V.int 0]).flatten)) M = some (.lst ((List.replicate m (0 : Int)).map V.int)) := upd_same.trans (by rw [flat_zero]; rfl)
    generalize upd H2 M (.lst (List.replicate ((m : Int)).toNat [V.int 0]).flatten) = H3 at *
    have s13 := s2.trans s3
    have hA3 := Same.f s13 hA1
    -- the walk
    refine ⟨_, rfl, 1, rfl, a, _, rfl, hA3, fun z => absurd z not_whole, fun _ u hu => ?_⟩
    have s4 := same_new (o := .tup (cutV ((x0 :: ns).map V.int) (some 1) none)) hu
    have hU : SqG true K (upd H3 u (.tup (cutV ((x0 :: ns).map V.int) (some 1) none))) u (ns.map V.int) := .inl (.inl (upd_same.trans (by rw [cut_one]; rfl)))
    have eM4 := s4 _ _ eM
    have hb4 := s4 _ _ (s13 _ _ hb1)
    have hB4 : SqG false K _ b (V.ref ag :: xr) := SqL.of hb4
    have hA4 := Same.f s4 hA3
    have hx4 := hx1.same (s13.trans s4)
    generalize upd H3 u (.tup (cutV ((x0 :: ns).map V.int) (some 1) none)) = H4 at *
    refine ⟨_, rfl, true, false, u, b, _, _, rfl, hU, hB4, ?_⟩
    have lz : (List.replicate m (0 : Int)).length = m := List.length_replicate
    refine for_it (walkG (xs := ns.map V.int) (ys := V.ref ag :: xr) (n := ns.length) (by rw [List.length_map, hx4.1, hns]; omega)) (fun i σ H' => ∃ M y3 y4 y5 y6, σ = [some (.ref a), some (.ref b), some (.ref M), y3, y4, y5, y6] ∧ Same H4 H' ∧ H' M = some (.lst ((ledGo (List.replicate m 0) (ns.take i) ((g0 :: gr).take i)).map V.int)))
      ⟨M, _, _, _, _, rfl, Same.refl _, eM4⟩ (fun i σ H' _ ⟨_, _, _, _, _, _, p, _⟩ => ⟨Same.sq p hU, Same.sq p hB4⟩) ?_ ?_
    · rintro i z σ H5 H6 hi ⟨M, y3, y4, y5, y6, rfl, s5, eM5⟩ ⟨U, x, y, rfl, hU6, rfl, hxi, hyi⟩
      obtain ⟨nn, rfl, hnn⟩ := int_at hxi
      obtain ⟨ai, gi, rfl, hgi, fai⟩ := hx4.2 i y hyi
      have lgi : gi.length = m := hg gi (List.mem_of_getElem? hgi)
      have s6 := same_new (o := .tup [.int nn, .ref ai]) hU6
      refine ⟨U, [.int nn, .ref ai], rfl, .inl (.inl upd_same), rfl, _, _, rfl, _, _, rfl, rfl, ?_⟩
      have fai6 : SqG true K (upd H5 U (.tup [.int nn, .ref ai])) ai (gi.map V.int) := Same.f (s5.trans s6) fai
      have eM6 := s6 _ _ eM5
      have hM6 : SqG false K (upd H5 U (.tup [.int nn, .ref ai])) M _ := SqL.of eM6
      generalize upd H5 U (.tup [.int nn, .ref ai]) = H6 at *
      have tl : (ledGo (List.replicate m 0) (ns.take i) ((g0 :: gr).take i)).length = m := by
        rw [ledGo_len _ _ _ fun g' h' => (hg g' (List.mem_of_mem_take h')).trans lz.symm, lz]
      have eadd : (addF (ledGo (List.replicate m 0) (ns.take i) ((g0 :: gr).take i)) (oftF gi nn)).length = m := by
        rw [addF_len (by rw [oftF_len, tl, lgi]), tl]
      refine ⟨_, rfl, _, rfl, false, true, M, ai, _, _, rfl, hM6, fai6, fun M2 hM2 => ?_⟩
      refine lc_it (walkG (xs := (ledGo (List.replicate m 0) (ns.take i) ((g0 :: gr).take i)).map V.int) (ys := gi.map V.int) (n := m) (by rw [List.length_map, List.length_map, tl, lgi]; omega)) (fun j H' => Same H6 H' ∧ H' M2 = some (.lst (((addF (ledGo (List.replicate m 0) (ns.take i) ((g0 :: gr).take i)) (oftF gi nn)).take j).map V.int)))
        ⟨same_new hM2, upd_same⟩ (fun j H' _ p => ⟨Same.sq p.1 hM6, Same.sq p.1 fai6⟩) ?_ ?_
      · rintro j z H7 H8 hj ⟨s7, e7⟩ ⟨U2, vx, vy, rfl, hU8, rfl, hvx, hvy⟩
        obtain ⟨n1, rfl, hn1⟩ := int_at hvx
        obtain ⟨n2, rfl, hn2⟩ := int_at hvy
        refine ⟨U2, [.int n1, .int n2], rfl, .inl (.inl upd_same), rfl, .int n1, [.int n2], rfl, .int n2, [], rfl, rfl, rfl, ?_⟩
        have ne : M2 ≠ U2 := ne_of_none e7 hU8
        have sm : nn.natAbs ≤ 1000 := hf nn (List.mem_cons_of_mem _ (List.mem_of_getElem? hnn))
        refine ⟨_, rfl, _, rfl, _, rfl, nn, n2, rfl, rfl, .inl ⟨by omega, by omega⟩, n1, _, rfl, rfl, ?_⟩
        refine ⟨_, Eq.trans (upd_ne ne) e7, ?_, fun c o e => ?_, ?_⟩
        · rw [List.length_map, List.length_take]
          exact Nat.lt_of_le_of_lt (Nat.min_le_right _ _) (small1000 (by omega))
        · rw [upd_ne (ne_of_none e hM2), upd_ne (ne_of_none (s7 c o e) hU8)]
          exact s7 c o e
        · rw [upd_same, List.take_add_one, show (addF (ledGo (List.replicate m 0) (ns.take i) ((g0 :: gr).take i)) (oftF gi nn))[j]? = some (n1 + nn * n2) from by
            unfold addF oftF
            rw [List.getElem?_zipWith, hn1, List.getElem?_map, hn2, Int.mul_comm nn n2]
            rfl, List.map_append]
          rfl
      · rintro H7 ⟨s7, e7⟩
        rw [List.take_of_length_le (Nat.le_of_eq eadd)] at e7
        refine ⟨M2, _, _, _, _, rfl, (s5.trans s6).trans s7, ?_⟩
        rw [ledGo_snoc ns (g0 :: gr) _ i nn gi hnn hgi]
        exact e7
    · rintro σ H5 ⟨M, y3, y4, y5, y6, rfl, s5, eM5⟩
      obtain ⟨c, r, e1, e2⟩ := ledF_split (x0 := x0) (ns := ns) m1 hg
      rw [List.take_length, hns, List.take_length, e1] at eM5
      have tl : (ledGo (List.replicate m 0) ns (g0 :: gr)).length = m := by
        rw [ledGo_len _ _ _ fun g' h' => (hg g' h').trans lz.symm, lz]
      have lr : r.length + 1 = m := by
        rw [← tl, e1]
        rfl
      refine ⟨_, rfl, M, _, 0, .int c, rfl, rfl, SqL.of eM5, atI_nat (j := 0) rfl, _, rfl, a, _, 0, .int x0, rfl, rfl, Same.f s5 hA4, atI_nat (j := 0) rfl, c, x0, rfl, rfl, (by decide : 1 ≤ sizeLine), fun l1 h1 => ?_⟩
      have s6 := same_new (o := .lst [.int (c + x0)]) h1
      have el1 : (upd H5 l1 (.lst [.int (c + x0)])) l1 = some (.lst [.int (c + x0)]) := upd_same
      have eM6 := s6 _ _ eM5
      generalize upd H5 l1 (.lst [.int (c + x0)]) = H6 at *
      refine ⟨_, rfl, 1, rfl, M, _, rfl, SqL.of eM6, fun l2 h2 => ?_⟩
      have s7 := same_new (o := .lst (cutV ((c :: r).map V.int) (some 1) none)) h2
      have el2 : (upd H6 l2 (.lst (cutV ((c :: r).map V.int) (some 1) none))) l2 = some (.lst (r.map V.int)) := upd_same.trans (by rw [cut_one]; rfl)
      generalize upd H6 l2 (.lst (cutV ((c :: r).map V.int) (some 1) none)) = H7 at *
      refine ⟨l1, l2, _, _, rfl, rfl, s7 _ _ el1, el2, by rw [List.length_map, List.length_singleton]; exact Nat.le_of_lt (small1000 (by omega)), fun l3 h3 => ?_⟩
      have s8 := same_new (o := .lst ([V.int (c + x0)] ++ r.map V.int)) h3
      refine ⟨l3, _, rfl, .inl ⟨SqL.of upd_same, fun t ht => ?_⟩⟩
      refine q _ t (s1.trans (s13.trans (s4.trans (s5.trans (s6.trans (s7.trans (s8.trans (same_new ht)))))))) ?_
      refine .new (upd_same.trans ?_)
      rw [e2]
      rfl
end
end PF

namespace PF
open PySem PySem.Spec PyProof.Rows L2 ZG HU LamX
abbrev sLaw : Stmt := topS 34
abbrev NL : List Str := ["script", "cell", "purse", "length", "one", "handed", "told", "nth", "at", "worths", "is_right", "form", "others", "thing"]
theorem scLaw : FnScope NL ["script"] (defScope sLaw) := ⟨rfl, rfl, rfl, by decide +kernel, rfl, by decide +kernel, by decide +kernel⟩
/-! what stays -/
theorem ExtN.seq {K : PySem.W.Frag} {H H' : Hp} {a : Addr} {xs : List V} (e : ExtN H H') (h : SqL K H a xs) : SqL K H' a xs := by
  rcases h with (h | ⟨o, h⟩) | h
  · exact .inl (.inl (e _ _ h (fun ps z => by cases z)))
  · exact .inl (.inr ⟨o, e _ _ h (fun ps z => by cases z)⟩)
  · exact .inr h
theorem ExtN.tup {K : PySem.W.Frag} {H H' : Hp} {a : Addr} {xs : List V} (e : ExtN H H') (h : SqT K H a xs) : SqT K H' a xs := by
  rcases h with (h | ⟨o, h⟩) | h
  · exact .inl (.inl (e _ _ h (fun ps z => by cases z)))
  · exact .inl (.inr ⟨o, e _ _ h (fun ps z => by cases z)⟩)
  · exact .inr h
theorem ExtN.sq {K : PySem.W.Frag} {H H' : Hp} {t : Bool} {a : Addr} {xs : List V} (e : ExtN H H') (h : SqG t K H a xs) : SqG t K H' a xs := by
  cases t
  · exact ExtN.seq e h
  · exact ExtN.tup e h
theorem ExtN.same {H H' : Hp} (e : Same H H') : ExtN H H' := fun b o h _ => e b o h
theorem TyX.ext {K : PySem.W.Frag} {H H' : Hp} (e : ExtN H H') {x : V} {t : Value} (h : TyX K H x t) : TyX K H' x t := by
  cases h with
  | base b =>
    refine .base ?_
    cases b with
    | non => exact .non
    | bl y => exact .bl y
    | int i => exact .int i
    | str y => exact .str y
    | flt y => exact .flt y
    | lst q => exact .lst (e _ _ q (fun ps z => by cases z))
    | frz q => exact .frz (e _ _ q (fun ps z => by cases z))
    | tup q => exact .tup (e _ _ q (fun ps z => by cases z))
    | dK q => exact .dK (e _ _ q (fun ps z => by cases z))
    | dT q => exact .dT (e _ _ q (fun ps z => by cases z))
    | ins q a b c d f => exact .ins (e _ _ q (fun ps z => by cases z)) a b c d f
  | byt b => exact .byt b
  | set q => exact .set (e _ _ q (fun ps z => by cases z))
  | kList q c => exact .kList q c
  | kTuple q c => exact .kTuple q c
  | kDict q c => exact .kDict q c
  | fTuple q => exact .fTuple (e _ _ q (fun ps z => by cases z))
  | fDict q => exact .fDict (e _ _ q (fun ps z => by cases z))
theorem Tys.ext {K : PySem.W.Frag} {H H' : Hp} {xs : List V} {ns : List String} (e : ExtN H H') (h : Tys K H xs ns) : Tys K H' xs ns := ⟨h.1, fun i x n a b => ⟨TyX.ext e (h.2 i x n a b).1, (h.2 i x n a b).2⟩⟩
theorem Formy.ext {K : PySem.W.Frag} {H H' : Hp} {x : V} {b : Bool} (e : ExtN H H') (h : Formy K H x b) : Formy K H' x b := by
  rcases h with ⟨a, xs, ns, h1, h2, h3, h4, h5⟩ | ⟨n, h1, h2⟩
  · exact .inl ⟨a, xs, ns, h1, ExtN.tup e h2, h3, Tys.ext e h4, h5⟩
  · exact .inr ⟨n, TyX.ext e h1, h2⟩
theorem BadW.ext {K : PySem.W.Frag} {H H' : Hp} {x y : V} (e : ExtN H H') (h : BadW K H x y) : BadW K H' x y := by
  rcases h with h | ⟨a, xs, h1, h2, h3, ⟨n, h4, h5⟩ | ⟨t, b, ys, ns, h4, h5, h6, h7, h8⟩⟩
  · exact .inl (Formy.ext e h)
  · exact .inr ⟨a, xs, h1, ExtN.tup e h2, Formy.ext e h3, .inl ⟨n, TyX.ext e h4, h5⟩⟩
  · exact .inr ⟨a, xs, h1, ExtN.tup e h2, Formy.ext e h3, .inr ⟨t, b, ys, ns, h4, ExtN.sq e h5, h6, Tys.ext e h7, h8⟩⟩
theorem Tabs.sb {T : List (Addr × Str)} {H H' : Hp} {p : Addr} {n : Nat} (t : Tabs T H) (pp : PAt H p n) (e : Sb p H H') : Tabs T H' := fun q hq => by
  obtain ⟨x, y, z, hp, _⟩ := pp
  obtain ⟨ps, h1, h2, h3⟩ := t q hq
  refine ⟨ps, e _ _ (fun w => by rw [w, hp] at h1; cases h1) h1, h2, fun pos cv hc => ?_⟩
  obtain ⟨c, e1, e2⟩ := h3 pos cv hc
  exact ⟨c, e1, e _ _ (fun w => by rw [w, hp] at e2; cases e2) e2⟩
theorem Tabs.same {T : List (Addr × Str)} {H H' : Hp} (t : Tabs T H) (e : Same H H') : Tabs T H' := LamX.Tabs.ext t e
theorem FAt.sb {K : PySem.W.Frag} {H H' : Hp} {p a : Addr} {n : Nat} {f : List Int} (h : FAt K H a f) (pp : PAt H p n) (e : Sb p H H') : FAt K H' a f := by
  obtain ⟨x, y, z, h1, _⟩ := pp
  rcases h with (h | ⟨o, h⟩) | h
  · exact .inl (.inl (e _ _ (fun w => by rw [w, h1] at h; cases h) h))
  · exact .inl (.inr ⟨o, e _ _ (fun w => by rw [w, h1] at h; cases h) h⟩)
  · exact .inr h
/-- the script's list -/
theorem script_sb {K : PySem.W.Frag} {H H' : Hp} {p a : Addr} {n : Nat} {xs : List V} (h : SqL K H a xs) (ne : a ≠ p) (e : Sb p H H') : SqL K H' a xs := by
  rcases h with (h | ⟨o, h⟩) | h
  · exact .inl (.inl (e _ _ ne h))
  · exact .inl (.inr ⟨o, e _ _ ne h⟩)
  · exact .inr h
theorem cat_any {K : PySem.W.Frag} {H : Hp} {a b : Addr} {xs ys : List V} {Q : VK} (ha : SqT K H a xs) (hb : SqT K H b ys) (hl : xs.length + ys.length ≤ sizeLine)
    (q : ∀ H' u, Same H H' → SqT K H' u (xs ++ ys) → Q (.ref u) H') : rCatA K (.ref a) (.ref b) H Q :=
  ⟨a, b, xs, ys, rfl, rfl, ha, hb, hl, fun z => q H b (Same.refl H) (by subst z; exact hb), fun _ z => q H a (Same.refl H) (by subst z; rw [List.append_nil]; exact ha), fun _ _ p np => q _ p (same_new np) (.inl (.inl upd_same))⟩
theorem cut_to (xs : List V) (n : Nat) : cutV xs none (some (n : Int)) = xs.take n := by
  unfold cutV
  rw [show HT.sIx xs.length xs.length (some (n : Int)) = min n xs.length from HT.sIx_nat _ _ n, HT.sIx_none, List.drop_zero, Nat.sub_zero]
  by_cases h : n ≤ xs.length
  · rw [Nat.min_eq_left h]
  · rw [Nat.min_eq_right (by omega), List.take_length, List.take_of_length_le (by omega)]
theorem cut_from (xs : List V) (n : Nat) : cutV xs (some (n : Int)) none = xs.drop n := by
  unfold cutV
  rw [show HT.sIx xs.length 0 (some (n : Int)) = min n xs.length from HT.sIx_nat _ _ n, HT.sIx_none]
  by_cases h : n ≤ xs.length
  · rw [Nat.min_eq_left h]
    exact List.take_of_length_le (by rw [List.length_drop]; omega)
  · rw [Nat.min_eq_right (by omega), List.drop_length, List.drop_eq_nil_of_le (by omega), List.take_nil]
theorem not_to {n m : Nat} (h : n < m) : ¬ (HT.sIx m 0 none = 0 ∧ HT.sIx m m (some (n : Int)) = m) := fun z => by
  have e := z.2
  rw [show HT.sIx m m (some (n : Int)) = min n m from HT.sIx_nat _ _ n] at e
  omega
theorem not_from {n m : Nat} (h : 0 < n) (h2 : 0 < m) : ¬ (HT.sIx m 0 (some (n : Int)) = 0 ∧ HT.sIx m m none = m) := fun z => by
  have e := z.1
  rw [show HT.sIx m 0 (some (n : Int)) = min n m from HT.sIx_nat _ _ n] at e
  omega
theorem Same.of_sb {H H' : Hp} {p : Addr} (e : Sb p H H') (h : H p = none) : Same H H' := fun b o hb => e b o (ne_of_none hb h) hb
/-- a thing that is no whole number -/
def Odd (K : PySem.W.Frag) (H : Hp) (v : V) : Prop := ∃ n, TyX K H v (.type n) ∧ n ∈ kinds ∧ isInt n = false
theorem Odd.same {K : PySem.W.Frag} {H H' : Hp} {v : V} (e : Same H H') (h : Odd K H v) : Odd K H' v := by
  obtain ⟨n, h1, h2⟩ := h
  exact ⟨n, TyX.same e h1, h2⟩
/-- ints with one other thing among them -/
theorem odd_tys {K : PySem.W.Frag} {H : Hp} {v : V} (h : Odd K H v) (f g : List Int) : ∃ ns, Tys K H (f.map V.int ++ [v] ++ g.map V.int) ns ∧ ns.all isInt = false := by
  obtain ⟨n, h1, h2, h3⟩ := h
  refine ⟨(f.map fun _ => "int") ++ [n] ++ (g.map fun _ => "int"), ⟨by simp, fun i x m hx hm => ?_⟩, ?_⟩
  · have tf := ints_tys (K := K) (H := H) f
    have tg := ints_tys (K := K) (H := H) g
    by_cases c1 : i < f.length
    · rw [List.getElem?_append_left (by simp; omega), List.getElem?_append_left (by simpa using c1)] at hx hm
      exact tf.2 i x m hx hm
    · by_cases c2 : i = f.length
      · subst c2
        rw [List.getElem?_append_left (by simp), List.getElem?_append_right (by simp)] at hx hm
        simp at hx hm
        subst hx hm
        exact ⟨h1, h2⟩
      · rw [List.getElem?_append_right (by simp; omega)] at hx hm
        simp only [List.length_append, List.length_map, List.length_singleton] at hx hm
        exact tg.2 _ x m hx hm
  · rw [List.all_append, List.all_append]
    simp [h3]
theorem how_ne {K : PySem.W.Frag} {H : Hp} {l l2 : Addr} {Q : VK} (h : H l = some (.lst [.str "!NoForm"])) (h2 : H l2 = some (.lst [.str "!NoForm"])) (q : Q (.bl false) H) : rNeD K (.ref l) (.ref l2) H Q := by
  refine ⟨.list [.str "!NoForm"], .list [.str "!NoForm"], .lst (SqL.of h) (.cons (.str _) .nil), .lst (SqL.of h2) (.cons (.str _) .nil), by decide +kernel, by decide +kernel, ?_⟩
  rw [SeqAt.eqv_refl _ (show PyData.canLay0 (.list [.str "!NoForm"]) = true by decide +kernel)]
  exact q
theorem cut_ints (ws : List Int) (lo hi : Option Int) : ∃ g : List Int, cutV (ws.map V.int) lo hi = g.map V.int ∧ g.length ≤ ws.length := by
  unfold cutV
  refine ⟨(ws.drop (HT.sIx (ws.map V.int).length 0 lo)).take (HT.sIx (ws.map V.int).length (ws.map V.int).length hi - HT.sIx (ws.map V.int).length 0 lo), by rw [List.map_take, List.map_drop], ?_⟩
  rw [List.length_take, List.length_drop]
  omega
theorem sh_list (ws : List Int) : SeqAt.shaped (.list (ws.map PyData.int)) = true := by
  unfold SeqAt.shaped
  rw [show PyData.canLay0 (.list (ws.map PyData.int)) = true from (lay_ints ws).1, Bool.true_and]
  refine decide_eq_true ?_
  show PyData.depthAll (ws.map PyData.int) + 1 ≤ 64
  rw [(lay_ints ws).2]
  decide
/-- a list of one thing, taken once or not -/
def ob (b : Bool) (v : V) : List V := if b = true then [v] else []
theorem rep_rd {H : Hp} {l : Addr} {v : V} {b : Bool} {Q : VK} (hl : H l = some (.lst [v])) (q : ∀ H' p, Same H H' → H' p = some (.lst (ob b v)) → Q (.ref p) H') : rRep (.ref l) (.int (if b = true then 1 else 0)) H Q := by
  refine ⟨l, _, [v], rfl, rfl, hl, by cases b <;> decide, by cases b <;> decide, by
    cases b
    · exact (by decide : 0 ≤ sizeLine)
    · exact (by decide : 1 ≤ sizeLine), fun p np => ?_⟩
  cases b
  · exact q _ p (same_new np) upd_same
  · exact q _ p (same_new np) upd_same
/-- ints and one odd thing, wherever it stands -/
theorem odd_once {K : PySem.W.Frag} {H : Hp} {v : V} (h : Odd K H v) (g : List Int) (b : Bool) : ∃ ns, Tys K H (g.map V.int ++ ob (!b) v ++ ob b v) ns ∧ ns.all isInt = false := by
  have e : g.map V.int ++ ob (!b) v ++ ob b v = g.map V.int ++ [v] ++ ([] : List Int).map V.int := by
    cases b <;> simp [ob]
  rw [e]
  exact odd_tys h g []
theorem ob_len (b : Bool) (v : V) : (ob b v).length ≤ 1 := by
  cases b <;> simp [ob]
section
variable {P : Program} {w : World} {K : PySem.W.Frag} {mg : Str → Option Value} {base : Heap}
def spLaw (K : PySem.W.Frag) (tb : Addr) : Sp := fun vs H Q _ => ∃ (a : Addr) (ns : List Int), vs = [.ref a] ∧ SqL K H a (ns.map V.int) ∧ ns.length ≤ 63 ∧ H tb = some (.tbl #[]) ∧ ∀ H', Q (.bl true) H'
/-- what stands between the turns of the law's own loop -/
def Lp (K : PySem.W.Frag) (T : List (Addr × Str)) (a : Addr) (ns : List Int) (σ : L2.St) (H : Hp) : Prop := ∃ y1 y2 y3 y4 y5 y6 y7 y8 y9 y10 y11 y12 y13, σ = [some (.ref a), y1, y2, y3, y4, y5, y6, y7, y8, y9, y10, y11, y12, y13] ∧ SqL K H a (ns.map V.int) ∧ Tabs T H
theorem ne_same {H : Hp} {a b : Addr} {f g : List Int} {Q : VK} (ha : FAt K H a f) (hb : FAt K H b g) (e : f = g) (q : Q (.bl false) H) : rNeD K (.ref a) (.ref b) H Q := by
  subst e
  refine ⟨_, _, dp_f ha, dp_f hb, sh_f f, sh_f f, ?_⟩
  rw [SeqAt.eqv_refl _ (lay_f f)]
  exact q
theorem SqT.sb {H H' : Hp} {p a : Addr} {n : Nat} {xs : List V} (h : SqT K H a xs) (pp : PAt H p n) (e : Sb p H H') : SqT K H' a xs := by
  obtain ⟨x, y, z, h1, _⟩ := pp
  rcases h with (h | ⟨o, h⟩) | h
  · exact .inl (.inl (e _ _ (fun w => by rw [w, h1] at h; cases h) h))
  · exact .inl (.inr ⟨o, e _ _ (fun w => by rw [w, h1] at h; cases h) h⟩)
  · exact .inr h
theorem not_neg {m : Nat} (h : 0 < m) : ¬ (HT.sIx m 0 none = 0 ∧ HT.sIx m m (some (-1)) = m) := fun z => by
  have e : (if (-1 : Int) < 0 then ((-1 : Int) + (m : Int)).toNat else min (-1 : Int).toNat m) = m := z.2
  rw [if_pos (by decide)] at e
  omega
theorem BadA.ext {H H' : Hp} {x y : V} (e : ExtN H H') (h : BadA K H x y) : BadA K H' x y := by
  rcases h with h | ⟨h, g⟩ | ⟨a, b, xs, ys, h1, h2, h3, h4, h5, h6, h7⟩
  · exact .inl (Formy.ext e h)
  · exact .inr (.inl ⟨Formy.ext e h, Formy.ext e g⟩)
  · exact .inr (.inr ⟨a, b, xs, ys, h1, h2, ExtN.tup e h3, ExtN.tup e h4, Formy.ext e h5, Formy.ext e h6, h7⟩)
theorem BadO.ext {H H' : Hp} {x y : V} (e : ExtN H H') (h : BadO K H x y) : BadO K H' x y := by
  rcases h with h | ⟨h, n, ty, g⟩
  · exact .inl (Formy.ext e h)
  · exact .inr ⟨Formy.ext e h, n, TyX.ext e ty, g⟩
theorem odd_end {H : Hp} {v : V} (h : Odd K H v) (g : List Int) : ∃ ns, Tys K H (g.map V.int ++ [v]) ns ∧ ns.all isInt = false := by
  have := odd_tys h g []
  rwa [List.map_nil, List.append_nil] at this
theorem bad_end {H : Hp} {u : Addr} {v : V} {g : List Int} (h : SqT K H u (g.map V.int ++ [v])) (o : Odd K H v) (hl : g.length ≤ 900) : Formy K H (.ref u) false := by
  obtain ⟨nn, tys, al⟩ := odd_end o g
  exact .inl ⟨u, _, nn, rfl, h, by simp; omega, tys, by rw [al, Bool.and_false]⟩
def Abs (c : Nat) (f : List Int) : Prop := ∀ x ∈ f, x.natAbs ≤ c
theorem Abs.bnd {c : Nat} {f : List Int} (h : Abs c f) (hc : c ≤ 1000000) : Bnd f := fun x hx => Nat.lt_of_le_of_lt (Nat.le_trans (h x hx) hc) (by decide)
theorem Sml.abs {m : Int} {c : Nat} {f : List Int} (h : Sml m f) (e : m = c) : Abs c f := fun x hx => by
  have := h x hx
  omega
theorem FsAt.ext {H H' : Hp} {xs : List V} {gs : List (List Int)} (e : ExtN H H') (h : FsAt K H xs gs) : FsAt K H' xs gs :=
  ⟨h.1, fun i x hx => by
    obtain ⟨a, g, h1, h2, h3⟩ := h.2 i x hx
    exact ⟨a, g, h1, h2, ExtN.tup e h3⟩⟩
theorem FAt.sbl {H H' : Hp} {p a : Addr} {ys : List V} {f : List Int} (h : FAt K H a f) (h1 : H p = some (.lst ys)) (e : Sb p H H') : FAt K H' a f := by
  rcases h with (h | ⟨o, h⟩) | h
  · exact .inl (.inl (e _ _ (fun w => by rw [w, h1] at h; cases h) h))
  · exact .inl (.inr ⟨o, e _ _ (fun w => by rw [w, h1] at h; cases h) h⟩)
  · exact .inr h
theorem FsAt.sbl {H H' : Hp} {p : Addr} {ys xs : List V} {gs : List (List Int)} (h : FsAt K H xs gs) (h1 : H p = some (.lst ys)) (e : Sb p H H') : FsAt K H' xs gs :=
  ⟨h.1, fun i x hx => by
    obtain ⟨a, g, q1, q2, q3⟩ := h.2 i x hx
    exact ⟨a, g, q1, q2, FAt.sbl q3 h1 e⟩⟩
theorem FsAt.sb {H H' : Hp} {p : Addr} {n : Nat} {xs : List V} {gs : List (List Int)} (h : FsAt K H xs gs) (pp : PAt H p n) (e : Sb p H H') : FsAt K H' xs gs := by
  obtain ⟨x, y, z, h1, _⟩ := pp
  exact FsAt.sbl h h1 e
theorem BadL.ext {H H' : Hp} {x y : V} (e : ExtN H H') (h : BadL K H x y) : BadL K H' x y := by
  cases h with
  | form h => exact .form (Formy.ext e h)
  | kind h n ty hn hs => exact .kind (Formy.ext e h) n (TyX.ext e ty) hn hs
  | many h a xs e1 ha t b ys e2 hb ne => exact .many (Formy.ext e h) a xs e1 (ExtN.tup e ha) t b ys e2 (ExtN.sq e hb) ne
  | item h a xs e1 ha t b ys e2 hb el bs lb hi nb => exact .item (Formy.ext e h) a xs e1 (ExtN.tup e ha) t b ys e2 (ExtN.sq e hb) el bs lb (fun i v c q1 q2 => Formy.ext e (hi i v c q1 q2)) nb
  | unlike a b f t xs g0 gs e1 e2 ha hb hx el hl hf hg nb => exact .unlike a b f t xs g0 gs e1 e2 (ExtN.tup e ha) (ExtN.sq e hb) (FsAt.ext e hx) el hl hf hg nb
theorem units65 {k : Nat} {A : Around} (r : Room k A) : A.units + 65 < cLine := by have := r.un; omega
abbrev rLenS (K : PySem.W.Frag) : List V → Hp → VK → Prop := fun xs H Q => ∃ p ys, xs = [.ref p] ∧ (SqL K H p ys ∨ SqT K H p ys) ∧ Q (.int (ys.length : Int)) H
theorem worth_abs {A B : Nat} {f ws : List Int} (hA : Abs A f) (hB : Abs B ws) (hl : f.length ≤ 20) : (worthF f ws).natAbs ≤ A + 20 * (B * A) := by
  cases f with
  | nil => exact Nat.zero_le _
  | cons x ns =>
    rw [worthF_dot]
    have h1 := hA x (List.mem_cons_self ..)
    have h2 := dot_natAbs A B ns ws (fun x h => hA x (List.mem_cons_of_mem _ h)) hB
    have h3 := Int.natAbs_add_le x (dot ns ws)
    have h4 : ns.length * (B * A) ≤ 20 * (B * A) := Nat.mul_le_mul_right _ (by rw [List.length_cons] at hl; omega)
    omega
end
end PF

namespace PF
open PySem PySem.Spec PyProof.Rows L2 ZG HU LamX
theorem kit_lst {K : PySem.W.Frag} {n : String} (hn : n ∈ kinds) : PySem.W.kitOne K (.type n) (.type "list") = some (n == "list") := by
  simp only [kinds, List.mem_cons, List.mem_nil_iff, or_false] at hn
  rcases hn with rfl | rfl | rfl | rfl | rfl | rfl | rfl <;> exact kit_ty (by decide +kernel)
theorem FsAt.drop {K : PySem.W.Frag} {H : Hp} : ∀ {xs : List V} {gs : List (List Int)}, FsAt K H xs gs → FsAt K H (xs.drop 1) (gs.drop 1)
  | [], [], h => h
  | x :: r, [], h => by have := h.1; simp at this
  | [], g :: q, h => by have := h.1; simp at this
  | x :: r, g :: q, h => h.cons.2
/-- forms of one length and small numbers -/
def Gd (m : Nat) (gs : List (List Int)) : Prop := ∀ g ∈ gs, g.length = m ∧ Bnd g
/-- what the law hands in for others -/
inductive Cand (K : PySem.W.Frag) (H : Hp) (n m : Nat) (x : V) : Prop
  | out (nm : String) (ty : TyX K H x (.type nm)) (hn : nm ∈ kinds) (hs : isSeq nm = false)
  | long (T : Addr) (zs : List V) (e : x = .ref T) (h : H T = some (.lst zs)) (ne : zs.length ≠ n)
  | non (T : Addr) (ys : List V) (gs : List (List Int)) (e : x = .ref T) (h : H T = some (.lst (ys ++ [.non]))) (hx : FsAt K H ys gs) (el : ys.length + 1 = n) (gd : Gd m gs)
  | forms (T : Addr) (ys : List V) (gs : List (List Int)) (z : Addr) (e : x = .ref T) (h : H T = some (.lst (ys ++ [.ref z]))) (hx : FsAt K H ys gs) (hz : FAt K H z (List.replicate (m + 1) 0)) (el : ys.length + 1 = n) (gd : Gd m gs)
theorem lst_ext {H H' : Hp} {a : Addr} {xs : List V} (e : ExtN H H') (h : H a = some (.lst xs)) : H' a = some (.lst xs) := e _ _ h (fun ps z => by cases z)
theorem Cand.ext {K : PySem.W.Frag} {H H' : Hp} {n m : Nat} {x : V} (e : ExtN H H') (h : Cand K H n m x) : Cand K H' n m x := by
  cases h with
  | out nm ty hn hs => exact .out nm (TyX.ext e ty) hn hs
  | long T zs e1 h ne => exact .long T zs e1 (lst_ext e h) ne
  | non T ys gs e1 h hx el gd => exact .non T ys gs e1 (lst_ext e h) (FsAt.ext e hx) el gd
  | forms T ys gs z e1 h hx hz el gd => exact .forms T ys gs z e1 (lst_ext e h) (FsAt.ext e hx) (ExtN.tup e hz) el gd
theorem zeros_bnd (m : Nat) : Bnd (List.replicate m 0) := fun x hx => by
  rw [(List.mem_replicate.mp hx).2]
  decide
theorem bad_out {K : PySem.W.Frag} {H : Hp} {x y : V} {nm : String} (fy : Formy K H x true) (ty : TyX K H y (.type nm)) (hn : nm ∈ kinds) (hs : isSeq nm = false) : BadL K H x y := .kind fy nm ty hn hs
theorem bad_long {K : PySem.W.Frag} {H : Hp} {af T : Addr} {f : List Int} {zs : List V} (fy : Formy K H (.ref af) true) (hf : FAt K H af f) (h : H T = some (.lst zs)) (ne : zs.length + 1 ≠ f.length) : BadL K H (.ref af) (.ref T) :=
  .many fy af _ rfl hf false T zs rfl (SqL.of h) (by rw [List.length_map]; exact ne)
theorem forms_true {K : PySem.W.Frag} {H : Hp} {m : Nat} {ys : List V} {gs : List (List Int)} (hx : FsAt K H ys gs) (gd : Gd m gs) (m1 : 1 ≤ m) (m9 : m ≤ 1000) : ∀ (i : Nat) (v : V), ys[i]? = some v → Formy K H v true := by
  intro i v hv
  obtain ⟨ag, g, rfl, gi, hgi⟩ := hx.2 i v hv
  have := (gd g (List.mem_of_getElem? gi)).1
  exact hgi.formy (by omega) (fun z => by rw [z] at this; simp at this; omega)
theorem bad_non {K : PySem.W.Frag} {H : Hp} {af T : Addr} {f : List Int} {m : Nat} {ys : List V} {gs : List (List Int)} (fy : Formy K H (.ref af) true) (hf : FAt K H af f) (h : H T = some (.lst (ys ++ [.non]))) (hx : FsAt K H ys gs) (gd : Gd m gs) (m1 : 1 ≤ m) (m9 : m ≤ 1000) (el : ys.length + 2 = f.length) : BadL K H (.ref af) (.ref T) := by
  refine .item fy af _ rfl hf false T _ rfl (SqL.of h) (by simp; omega) (List.replicate ys.length true ++ [false]) (by simp) (fun i v c hv hc => ?_) (by simp)
  by_cases hi : i < ys.length
  · rw [List.getElem?_append_left hi] at hv
    rw [List.getElem?_append_left (by rw [List.length_replicate]; exact hi)] at hc
    rw [(List.mem_replicate.mp (List.mem_of_getElem? hc)).2]
    exact forms_true hx gd m1 m9 i v hv
  · rw [List.getElem?_append_right (by omega)] at hv
    rw [List.getElem?_append_right (by rw [List.length_replicate]; omega), List.length_replicate] at hc
    have e : i - ys.length = 0 := by
      by_cases z : i - ys.length = 0
      · exact z
      · rw [List.getElem?_eq_none (by simp; omega)] at hv
        cases hv
    rw [e] at hv hc
    have ev : V.non = v := Option.some.inj hv
    have ec : false = c := Option.some.inj hc
    subst ev ec
    exact .inr ⟨"NoneType", .base .non, by decide, by decide, rfl⟩
theorem bad_unlike {K : PySem.W.Frag} {H : Hp} {af T z : Addr} {f : List Int} {m : Nat} {ys : List V} {gs : List (List Int)} (hf : FAt K H af f) (h : H T = some (.lst (ys ++ [.ref z]))) (hx : FsAt K H ys gs) (hz : FAt K H z (List.replicate (m + 1) 0)) (gd : Gd m gs) (m1 : 1 ≤ m) (m9 : m ≤ 900) (el : ys.length + 2 = f.length) (two : 1 ≤ ys.length) (hl : f.length ≤ 1000) (bf : Bnd f) : BadL K H (.ref af) (.ref T) := by
  have hx2 := FsAt.snoc hz hx
  have lg := hx.1
  cases gs with
  | nil => rw [lg] at two; exact absurd two (by decide)
  | cons g0 gr =>
    refine .unlike af T f false _ g0 (gr ++ [List.replicate (m + 1) 0]) rfl rfl hf (SqL.of h) (by rw [← List.cons_append]; exact hx2) ?_ hl bf (fun g hg => ?_) ⟨_, List.mem_append_right _ (List.mem_singleton.mpr rfl), ?_⟩
    · rw [List.length_append, List.length_singleton]
      rw [List.length_cons] at lg
      omega
    · rcases List.mem_append.mp (show g ∈ (g0 :: gr) ++ [List.replicate (m + 1) 0] from hg) with hg | hg
      · have := gd g hg
        exact ⟨by omega, by omega, this.2⟩
      · rw [List.mem_singleton.mp hg, List.length_replicate]
        exact ⟨by omega, by omega, zeros_bnd _⟩
    · have := (gd g0 (List.mem_cons_self ..)).1
      rw [List.length_replicate]
      omega
end PF

namespace PF
open PySem PySem.Spec PyProof.Rows L2 ZG HU LamX
abbrev lawQ : Str := ("law.<locals>." : Str) ++ "<lambda>"
section
variable {P : Program} {w : World} {K : PySem.W.Frag} {mg : Str → Option Value} {base : Heap}
theorem ok_law {fa cc tb fP fT fF fLE fWO fLL fHW fK D cW : Addr} {dP dT dF dLE dWO dLL dK : FuncData} {c : _root_.Fin 13 → Addr} {kV doc pm ct oc kV2 doc2 pm2 cd2 ct2 oc2 : Value} {an od an2 od2 : Option Addr} {osl osl2 : Array (Option Value)}
    (lk : K.lookup fa = some ⟨oc, od, .func (PySem.W.fnOf "law" "law" (defArgs sLaw) (defBody sLaw) (defScope sLaw) .none kV doc pm an (.ref cc) ct), osl⟩) (hcdk : PySem.W.codeIn K (.ref cc) "law" = true)
    (GP : FnOk P w K mg base CX0 1 fP dP ["script", "at"] (spPurse K)) (kP : PySem.W.keepIn K (.ref fP) = true) (bP : L2.Binds K dP ["script", "at"] []) (mP : mg "_law_purse" = some (.ref fP))
    (GT : FnOk P w K mg base CX0 1 fT dT ["purse", "many"] spTake) (kT : PySem.W.keepIn K (.ref fT) = true) (bT : L2.Binds K dT ["purse", "many"] []) (mT : mg "_law_take" = some (.ref fT))
    (GF : FnOk P w K mg base CX0 2 fF dF ["purse", "many", "most"] spForm) (kF : PySem.W.keepIn K (.ref fF) = true) (bF : L2.Binds K dF ["purse", "many", "most"] []) (mF : mg "_law_form" = some (.ref fF))
    (GWO : FnOk P w K mg base (L2.CX P w) 4 fWO dWO ["form", "worths"] (spWorth K D)) (kWO : PySem.W.keepIn K (.ref fWO) = true) (bWO : L2.Binds K dWO ["form", "worths"] []) (mWO : mg "worth" = some (.ref fWO))
    (GLE : FnOk P w K mg base (L2.CX P w) 5 fLE dLE ["form", "others"] (spLed K D)) (kLE : PySem.W.keepIn K (.ref fLE) = true) (bLE : L2.Binds K dLE ["form", "others"] []) (mLE : mg "led" = some (.ref fLE))
    (GLL : FnOk P w K mg base CX0 1 fLL dLL ["form", "others"] (spLLed K)) (kLL : PySem.W.keepIn K (.ref fLL) = true) (bLL : L2.Binds K dLL ["form", "others"] []) (mLL : mg "_law_led" = some (.ref fLL))
    (GK : FnU P w K mg base 1 fK dK ["e"] (spKind D "!NoForm")) (kK : PySem.W.keepIn K (.ref fK) = true) (bK : L2.Binds K dK ["e"] []) (mK : mg "_law_kind" = some (.ref fK))
    (lHW : K.lookup fHW = some ⟨oc2, od2, .func (PySem.W.fnOf "_law_how" "_law_how" (defArgs sHow) (defBody sHow) (defScope sHow) .none kV2 doc2 pm2 an2 cd2 ct2), osl2⟩) (cHW : PySem.W.codeIn K cd2 "_law_how" = true) (kHW : PySem.W.keepIn K (.ref fHW) = true)
    (bHW : L2.Binds K (PySem.W.fnOf "_law_how" "_law_how" (defArgs sHow) (defBody sHow) (defScope sHow) .none kV2 doc2 pm2 an2 cd2 ct2) ["deed"] []) (mHW : mg "_law_how" = some (.ref fHW))
    (A : KF K mg D cW c) (eA : PySem.W.exmAny K (.ref D) [.ref (c 0), .ref (c 1), .ref (c 2), .ref (c 7), .ref (c 8)] = some false) (T : Txt mg) (TB : TabB base mg cc tb) :
    FnOk P w K mg base CX0 8 fa (PySem.W.fnOf "law" "law" (defArgs sLaw) (defBody sLaw) (defScope sLaw) .none kV doc pm an (.ref cc) ct) ["script"] (spLaw K tb) := by
  refine fn_of lk hcdk scLaw (fun vs H Q E h => ?_) (fun Ar outer s H vs Q E hr h => ?_)
  · obtain ⟨a, ns, rfl, _⟩ := h
    rfl
  · obtain ⟨a, ns, rfl, hS, hlen, htb, q⟩ := h
    have hr1 : Room 1 _ := hr.mono (by decide)
    have hr2 : Room 2 _ := hr.mono (by decide)
    have hr4 : Room 4 _ := hr.mono (by decide)
    have hr5 : Room 5 _ := hr.mono (by decide)
    have hcd : (cxOf CX0 P w K mg base NL "law" (defScope sLaw) fa (.ref cc) Ar outer s H E).env.code = .ref cc := rfl
    refine ⟨_, PSs.nox (pss_cons (ps_for PassesOwn.never rfl (pi_range1 (by rfl) T.range (pa_cons (pe_callB (call_max2 rfl) (by rfl) T.max (by decide +kernel) (pa_cons pe_int (pa_cons (pe_callB (call_min2 rfl) (by rfl) T.min (by decide +kernel) (pa_cons (pe_callB call_len_seq (by rfl) T.len PySem.boot_len (pa_cons (pv 0) pa_nil)) (pa_cons pe_int pa_nil))) pa_nil))) pa_nil)) (pg_name (i := 1) scLaw.nd rfl (.inl rfl))
        (pss_cons (ps_set (i := 2) scLaw.nd rfl (.inr rfl) (pe_call GP hr1 (by rfl) mP kP bP .nil pass0 (pa_cons (pv 0) (pa_cons (pv 1) pa_nil))))
        (pss_cons (ps_set (i := 11) scLaw.nd rfl (.inr rfl) (pe_call GF hr2 (by rfl) mF kF bF .nil pass0 (pa_cons (pv 2) (pa_cons (pe_op op_add pe_int (pe_call GT hr1 (by rfl) mT kT bT .nil pass0 (pa_cons (pv 2) (pa_cons pe_int pa_nil)))) (pa_cons pe_int pa_nil)))))
        (pss_cons (ps_set (i := 3) scLaw.nd rfl (.inr rfl) (pe_op op_add pe_int (pe_call GT hr1 (by rfl) mT kT bT .nil pass0 (pa_cons (pv 2) (pa_cons pe_int pa_nil)))))
        (pss_cons (ps_set (i := 12) scLaw.nd rfl (.inr rfl) (pe_lc (own := [("one", 4)]) (g := gName 4) (tt := tYes) rfl scLaw.nd  (pi_tup (pe_slice sl_tupA (pv 11) (po_some pe_int) po_none)) (blkOk_by (N := NL) (sc := defScope sLaw) (by decide +kernel)) (fun _ _ _ _ _ => pg_name (i := 4) scLaw.nd rfl (Or.inl rfl)) (fun _ _ _ _ _ => pts_nil) (fun _ _ _ _ _ => (pe_call GF hr2 (by rfl) mF kF bF .nil pass0 (pa_cons (pv 2) (pa_cons (pv 3) (pa_cons pe_int pa_nil)))))))
        (pss_cons (ps_set (i := 5) scLaw.nd rfl (.inl rfl) (pe_ix ix_list (pe_lst (pa_cons (pe_callTy call_list_of (by rfl) T.list (by decide +kernel) (pa_cons (pv 12) pa_nil)) (pa_cons (pe_callTy call_tuple_of (by rfl) T.tuple (by decide +kernel) (pa_cons (pv 12) pa_nil)) pa_nil))) (pe_call GT hr1 (by rfl) mT kT bT .nil pass0 (pa_cons (pv 2) (pa_cons pe_int pa_nil))) (fun _ _ => rfl)))
        (pss_cons (ps_set (i := 6) scLaw.nd rfl (.inl rfl) (pe_call GLE hr5 (by rfl) mLE kLE bLE .nil passL (pa_cons (pv 11) (pa_cons (pv 5) pa_nil))))
        (pss_cons (ps_if (PW.pt (pw_or (pt_not (pt_val (pe_callB (id := "isinstance") (r := rIsi K) call_isi (by rfl) T.isi (by decide +kernel) (pa_cons (pv 6) (pa_cons (pe_bltn (v := .ty "tuple") (by rfl) T.tuple (by decide +kernel) rfl) pa_nil))))) (pw_or1 (pt_cmpR (op_neD hr.units) (pv 6) (pe_call GLL hr1 (by rfl) mLL kLL bLL .nil pass0 (pa_cons (pv 11) (pa_cons (pv 12) pa_nil))) (nomark _))))) (pss_one ps_never) pss_nil)
        (pss_cons (ps_set (i := 8) scLaw.nd rfl (.inr rfl) (pe_lc (own := [("nth", 7)]) (g := gName 7) (tt := tYes) rfl scLaw.nd  (pi_range1 (by rfl) T.range (pa_cons (pe_op op_sub (pv 3) pe_int) pa_nil)) (blkOk_by (N := NL) (sc := defScope sLaw) (by decide +kernel)) (fun _ _ _ _ _ => pg_name (i := 7) scLaw.nd rfl (Or.inl rfl)) (fun _ _ _ _ _ => pts_nil) (fun _ _ _ _ _ => (pe_op op_sub (pe_call GT hr1 (by rfl) mT kT bT .nil pass0 (pa_cons (pv 2) (pa_cons pe_int pa_nil))) pe_int))))
        (pss_cons (ps_setLc (i := 9) (own := [("one", 4)]) (g := gName 4) (tt := tYes) rfl scLaw.nd rfl rfl (sw_true rfl rfl rfl (by decide +kernel)) (pi_seqV (pv 12)) (blkOk_by (N := NL) (sc := defScope sLaw) (by decide +kernel)) (fun _ _ _ _ _ => pg_name (i := 4) scLaw.nd rfl (Or.inl rfl)) (fun _ _ _ _ _ => pts_nil) (fun _ _ _ _ _ => (pe_call GWO hr4 (by rfl) mWO kWO bWO .nil passL (pa_cons (pv 4) (pa_cons (pv 8) pa_nil)))))
        (C8.pss_cut (ps_if (PW.pt (pw_and (pt_cmpR (op_neD hr.units) (pv 12) (pe_lst pa_nil) (nomark _)) (pw_and1 (pt_cmpR op_ne (pe_call GWO hr4 (by rfl) mWO kWO bWO .nil passL (pa_cons (pv 6) (pa_cons (pv 8) pa_nil))) (pe_call GWO hr4 (by rfl) mWO kWO bWO .nil passL (pa_cons (pv 11) (pa_cons (pv 9) pa_nil))) (nomark _))))) (pss_one ps_never) pss_nil)
        (pss_cons (ps_for PassesOwn.never rfl (pi_tup (pe_tup (pa_cons (pe_op op_cat (pv 12) (pe_lst (pa_cons (pe_op op_repA (pe_tup (pa_cons pe_int pa_nil)) (pv 3)) pa_nil))) (pa_cons (pe_op op_cat (pe_slice sl_list (pv 12) (po_some pe_int) po_none) (pe_lst (pa_cons pe_non pa_nil))) (pa_cons (pe_op op_cat (pe_slice sl_list (pv 12) (po_some pe_int) po_none) (pe_lst (pa_cons (pe_op op_repA (pe_tup (pa_cons pe_int pa_nil)) (pe_op op_add (pv 3) pe_int)) pa_nil))) (pa_cons pe_non (pa_cons pe_str (pa_cons pe_int pa_nil)))))))) (pg_name (i := 13) scLaw.nd rfl (.inr rfl)) (C8.pss_cut (ps_set (i := 10) scLaw.nd rfl (.inl rfl) (pe_and (pe_callB (id := "isinstance") (r := rIsi K) call_isi (by rfl) T.isi (by decide +kernel) (pa_cons (pv 13) (pa_cons (pe_bltn (v := .ty "list") (by rfl) T.list (by decide +kernel) rfl) pa_nil))) (pe_and (pe_cmpR op_eq (pe_callB call_len_seq (by rfl) T.len PySem.boot_len (pa_cons (pv 13) pa_nil)) (pe_callB call_len_seq (by rfl) T.len PySem.boot_len (pa_cons (pv 12) pa_nil)) (nomark _)) (pe_one (pe_cmpR (op_notInD (units65 hr)) pe_non (pv 13) (by rfl)))))) (C8.pss_cut (ps_if (pt_val (pv 10)) (pss_one (ps_set (i := 10) scLaw.nd rfl (.inl rfl) (pe_cmpR (op_eqD hr.units) (pe_lc (own := [("one", 4)]) (g := gName 4) (tt := _) rfl scLaw.nd  (pi_seqV (pv 13)) (blkOk_by (N := NL) (sc := defScope sLaw) (by decide +kernel)) (fun _ _ _ _ _ => pg_name (i := 4) scLaw.nd rfl (Or.inl rfl)) (fun _ _ _ _ _ => pts_one (pt_cmpR op_ne (pe_callB (id := "len") (r := rLenS K) call_len_seq (by rfl) T.len PySem.boot_len (pa_cons (pv 4) pa_nil)) (pe_callB (id := "len") (r := rLenS K) call_len_seq (by rfl) T.len PySem.boot_len (pa_cons (pe_ix (r := rIxL K) ix_list (pv 13) pe_int (fun _ _ => rfl)) pa_nil)) (nomark _))) (fun _ _ _ _ _ => (pv 4))) (pe_lst pa_nil) (nomark _)))) pss_nil) (pss_one (ps_if (PW.pt (pw_and (pt_not (pt_val (pv 10))) (pw_and1 (pt_cmpR (op_neD hr.units) (pe_lamcall (T := [(tb, lawQ)]) (TT := THow D) (k := 5) (t := fun E => tCall (spLed K D) [] E (tCons (tVar 11) (tCons (tVar 13) tNil))) (by rfl) mHW kHW lHW cHW bHW scHow rfl (Or.inl rfl) (how_gives (k := 3) A T GK kK bK mK eA hr) TB hcd (List.mem_singleton.mpr rfl) (fun p hp _ => by rw [List.mem_singleton.mp hp]; rfl) hr (lamS_by (sc := defScope sLaw) (by decide +kernel)) rfl (fun _ _ _ _ _ => rfl) (fun _ _ _ _ _ _ _ hr' => pe_call GLE (hr'.mono (by decide)) (by rfl) mLE kLE bLE .nil (passes_call (takes_of rfl rfl rfl rfl) fun _ _ _ _ h => h) (pa_cons (pv 11) (pa_cons (pv 13) pa_nil)))) (pe_lst (pa_cons pe_str pa_nil)) (nomark _))))) (pss_one ps_never) pss_nil)))))
        (pss_cons (ps_for PassesOwn.never rfl (pi_tup (pe_tup (pa_cons pe_non (pa_cons (pe_callTy call_list_of (by rfl) T.list (by decide +kernel) (pa_cons (pv 11) pa_nil)) (pa_cons (pe_tup pa_nil) (pa_cons (pe_tup (pa_cons pe_bl pa_nil)) (pa_cons pe_int pa_nil))))))) (pg_name (i := 13) scLaw.nd rfl (.inr rfl)) (pss_one (ps_if (pt_cmpR (op_neD hr.units) (pe_lamcall (T := [(tb, lawQ)]) (TT := THow D) (k := 5) (t := fun E => tCall (spLed K D) [] E (tCons (tVar 13) (tCons (tVar 12) tNil))) (by rfl) mHW kHW lHW cHW bHW scHow rfl (Or.inl rfl) (how_gives (k := 3) A T GK kK bK mK eA hr) TB hcd (List.mem_singleton.mpr rfl) (fun p hp _ => by rw [List.mem_singleton.mp hp]; rfl) hr (lamS_by (sc := defScope sLaw) (by decide +kernel)) rfl (fun _ _ _ _ _ => rfl) (fun _ _ _ _ _ _ _ hr' => pe_call GLE (hr'.mono (by decide)) (by rfl) mLE kLE bLE .nil (passes_call (takes_of rfl rfl rfl rfl) fun _ _ _ _ h => h) (pa_cons (pv 13) (pa_cons (pv 12) pa_nil)))) (pe_lst (pa_cons pe_str pa_nil)) (nomark _)) (pss_one ps_never) pss_nil)))
        (pss_cons (ps_if (PW.pt (pw_and (pt_cmpR (op_neD hr.units) (pv 12) (pe_lst pa_nil) (nomark _)) (pw_and1 (pt_cmpR (op_neD hr.units) (pe_lamcall (T := [(tb, lawQ)]) (TT := THow D) (k := 5) (t := fun E => tCall (spLed K D) [] E (tCons (tVar 11) (tCons (tSl (rSlL K) (tVar 12) tNoPart (tPart (tUn (rU fun i => .int (-i)) (tC (.int 1))))) tNil))) (by rfl) mHW kHW lHW cHW bHW scHow rfl (Or.inl rfl) (how_gives (k := 3) A T GK kK bK mK eA hr) TB hcd (List.mem_singleton.mpr rfl) (fun p hp _ => by rw [List.mem_singleton.mp hp]; rfl) hr (lamS_by (sc := defScope sLaw) (by decide +kernel)) rfl (fun _ _ _ _ _ => rfl) (fun _ _ _ _ _ _ _ hr' => pe_call GLE (hr'.mono (by decide)) (by rfl) mLE kLE bLE .nil (passes_call (takes_of rfl rfl rfl rfl) fun _ _ _ _ h => h) (pa_cons (pv 11) (pa_cons (pe_slice sl_list (pv 12) po_none (po_some (pe_un un_neg pe_int))) pa_nil)))) (pe_lst (pa_cons pe_str pa_nil)) (nomark _))))) (pss_one ps_never) pss_nil)
        pss_nil))))))))))))))
      (pss_one (ps_ret (pe_and (pe_cmpR (op_eqD hr.units) (pe_call GLE hr5 (by rfl) mLE kLE bLE .nil passL (pa_cons (pe_tup (pa_cons pe_int pa_nil)) (pa_cons (pe_lst pa_nil) pa_nil))) (pe_tup (pa_cons pe_int pa_nil)) (nomark _)) (pe_one (pe_cmpR (op_eqD hr.units) (pe_call GLE hr5 (by rfl) mLE kLE bLE .nil passL (pa_cons (pe_tup (pa_cons pe_int pa_nil)) (pa_cons (pe_tup pa_nil) pa_nil))) (pe_tup (pa_cons pe_int pa_nil)) (nomark _))))))), ?_⟩
    refine ⟨_, rfl, a, _, rfl, .inl hS, _, _, rfl, _, _, rfl, _, rfl, ?_, ?_, ?_⟩
    · split <;> split <;> omega
    · split <;> split <;> omega
    have tabs0 : Tabs [(tb, lawQ)] H := fun q' hq => by
      rw [List.mem_singleton.mp hq]
      exact TabS.nil htb
    refine for_it (walk_range (lo := 0) (n := _)) (fun i σ H' => Lp K [(tb, lawQ)] a ns σ H') ⟨_, _, _, _, _, _, _, _, _, _, _, _, _, rfl, hS, tabs0⟩ (fun _ _ _ _ _ => trivial) ?_ ?_
    rotate_left
    · rintro σ H' ⟨y1, y2, y3, y4, y5, y6, y7, y8, y9, y10, y11, y12, y13, rfl, hS', tabs'⟩
      -- the end
      refine ⟨(by decide : 1 ≤ sizeLine), fun t1 n1 => ?_⟩
      have s1 := same_new (o := .tup [.int 5]) n1
      have f1 : FAt K (upd H' t1 (.tup [.int 5])) t1 [5] := .new upd_same
      generalize upd H' t1 (.tup [.int 5]) = H1 at *
      refine ⟨Nat.zero_le _, fun l1 n2 => ?_⟩
      have s2 := same_new (o := .lst []) n2
      have e2 : (upd H1 l1 (.lst [])) l1 = some (.lst []) := upd_same
      have f2 := Same.f s2 f1
      generalize upd H1 l1 (.lst []) = H2 at *
      refine ⟨_, _, rfl, .inl ⟨t1, l1, false, [5], [], [], 1, rfl, rfl, f2, SqL.of e2, .nil, rfl, by decide, (by intro x hx; rw [List.mem_singleton.mp hx]; decide), (fun g h => nomatch h), by decide, by decide, fun H3 p1 s3 f3 => ?_⟩⟩
      refine ⟨(by decide : 1 ≤ sizeLine), fun t2 n4 => ?_⟩
      have s4 := same_new (o := .tup [.int 5]) n4
      refine ⟨_, _, dp_f (Same.f s4 f3), dp_f (f := [5]) (.new upd_same), sh_f _, sh_f _, true, rfl, iteT ?_⟩
      generalize upd H3 t2 (.tup [.int 5]) = H4 at *
      refine ⟨(by decide : 1 ≤ sizeLine), fun t5 n5 => ?_⟩
      have f5 : FAt K (upd H4 t5 (.tup [.int 5])) t5 [5] := .new upd_same
      generalize upd H4 t5 (.tup [.int 5]) = H5 at *
      refine ⟨Nat.zero_le _, fun l6 n6 => ?_⟩
      have s6 := same_new (o := .tup []) n6
      have e6 : (upd H5 l6 (.tup [])) l6 = some (.tup []) := upd_same
      have f6 := Same.f s6 f5
      generalize upd H5 l6 (.tup []) = H6 at *
      refine ⟨_, _, rfl, .inl ⟨t5, l6, true, [5], [], [], 1, rfl, rfl, f6, .inl (.inl e6), .nil, rfl, by decide, (by intro x hx; rw [List.mem_singleton.mp hx]; decide), (fun g h => nomatch h), by decide, by decide, fun H7 p7 s7 f7 => ?_⟩⟩
      refine ⟨(by decide : 1 ≤ sizeLine), fun t8 n8 => ?_⟩
      have s8 := same_new (o := .tup [.int 5]) n8
      exact ⟨_, _, dp_f (Same.f s8 f7), dp_f (f := [5]) (.new upd_same), sh_f _, sh_f _, q _⟩
    rintro i x σ H1 H1' hi ⟨y1, y2, y3, y4, y5, y6, y7, y8, y9, y10, y11, y12, y13, rfl, hS1, tabs1⟩ ⟨rfl, rfl⟩
    have hi9 : (i : Int) ≤ 1000 := by
      have : i < 9 := by
        refine Nat.lt_of_lt_of_le hi ?_
        split <;> split <;> omega
      omega
    -- purse
    refine ⟨_, rfl, _, rfl, a, ns, _, rfl, hS1, by omega, by omega, fun H2 p s2 np pp => ?_⟩
    -- form
    refine ⟨_, rfl, _, rfl, p, 7, 0, rfl, pp, by omega, by decide, by decide, fun H3 c1 b3 p3 c10 c11 => ⟨1, c1, rfl, rfl, ?_⟩⟩
    obtain ⟨l1, rfl⟩ := Int.eq_ofNat_of_zero_le c10
    refine ⟨p, 1 + l1, 6, _, rfl, p3, by omega, by omega, by omega, by decide, by decide, fun H4 af f b4 p4 naf ef lf sf => ?_⟩
    obtain ⟨x0, fr, rfl⟩ : ∃ x0 fr, f = x0 :: fr := by
      cases f with
      | nil => simp at lf; omega
      | cons x r => exact ⟨x, r, rfl⟩
    have lfr : fr.length = l1 := by rw [List.length_cons] at lf; omega
    have f4 : FAt K H4 af (x0 :: fr) := .new ef
    -- length
    refine ⟨_, rfl, p, 5, _, rfl, p4, by omega, by decide, by decide, fun H5 c2 b5 p5 c20 c21 => ⟨1, c2, rfl, rfl, ?_⟩⟩
    obtain ⟨l2, rfl⟩ := Int.eq_ofNat_of_zero_le c20
    change gName 3 (V.int ((1 + l2 : Nat) : Int)) _ _ _
    generalize em : 1 + l2 = m
    have m1 : 1 ≤ m := by omega
    have m5 : m ≤ 5 := by omega
    have f5 := FAt.sb f4 p4 b5
    have p5' : PAt H5 p 100 := p5.mono (by omega)
    -- others
    refine ⟨_, rfl, 1, rfl, af, _, rfl, f5, fun z => absurd z not_whole, fun _ u hu => ?_⟩
    have su := same_new (o := .tup (cutV ((x0 :: fr).map V.int) (some 1) none)) hu
    have eu : (upd H5 u (.tup (cutV ((x0 :: fr).map V.int) (some 1) none))) u = some (.tup (fr.map V.int)) := upd_same.trans (by rw [cut_one]; rfl)
    have fu : FAt K (upd H5 u (.tup (cutV ((x0 :: fr).map V.int) (some 1) none))) u fr := .inl (.inl eu)
    have f6 := Same.f su f5
    have p6 := p5'.same su
    have b26 : Sb p H2 (upd H5 u (.tup (cutV ((x0 :: fr).map V.int) (some 1) none))) := ((b3.trans b4).trans b5).trans (Sb.of su)
    generalize upd H5 u (.tup (cutV ((x0 :: fr).map V.int) (some 1) none)) = H6 at *
    refine ⟨u, rfl, ⟨_, fu⟩, fun B hB => ?_⟩
    have nBp := p6.ne hB
    refine lc_it (walk_tup (xs := fr.map V.int)) (fun i H' => Sb p H6 H' ∧ PAt H' p (100 + 15 * i) ∧ ∃ (xs : List V) (gs : List (List Int)), H' B = some (.lst xs) ∧ FsAt K H' xs gs ∧ gs.length = i ∧ ∀ g ∈ gs, g.length = m ∧ Sml 6 g)
      ⟨Sb.of (same_new hB), (p6.mono (by omega)).same (same_new hB), [], [], upd_same, .nil, rfl, fun v h => (nomatch h)⟩ (fun i H' _ z => FAt.sb fu p6 z.1) ?_ ?_
    · rintro i v H7 H7' hi7 ⟨b7, p7, xs, gs, ew, hx, lg, bg⟩ ⟨rfl, hv⟩
      refine ⟨rfl, ?_⟩
      have hi7' : i < fr.length := by simpa using hi7
      refine ⟨_, rfl, _, rfl, p, m, 6, _, rfl, p7, by omega, m1, by omega, by decide, by decide, fun H8 ag g b8 p8 nag eg lg' sg => ?_⟩
      have ew8 := b8 _ _ nBp ew
      have hx8 := FsAt.sb hx p7 b8
      refine ⟨_, ew8, small1000 (by rw [hx.1]; omega), ?_, ?_, xs ++ [.ref ag], gs ++ [g], upd_same, ?_, by simp [lg], ?_⟩
      · intro b' o nb e
        rw [upd_ne (ne_of_none e hB)]
        exact b8 b' o nb (b7 b' o nb e)
      · obtain ⟨x', y', z', e1, r⟩ := p8
        exact ⟨x', y', z', (upd_ne nBp.symm).trans e1, r.1, r.2.1, r.2.2.1, r.2.2.2.1, by omega⟩
      · exact FsAt.sbl (FsAt.snoc (.new eg) hx8) ew8 Sb.upd
      · intro g' hg'
        rcases List.mem_append.mp hg' with hg' | hg'
        · exact bg g' hg'
        · rw [List.mem_singleton] at hg'
          subst hg'
          exact ⟨lg', sg⟩
    rintro H7 ⟨b7, p7, xs, gs, eB, hx, lg, bg⟩
    have lgs : gs.length = l1 := by rw [lg, List.length_map, lfr]
    have f7 := FAt.sb f6 p6 b7
    have b27 := b26.trans b7
    have p7' : PAt H7 p 300 := p7.mono (by rw [List.length_map]; omega)
    have xl9 : xs.length ≤ 900 := by rw [hx.1]; omega
    -- handed
    refine ⟨_, rfl, B, _, rfl, .inl (SqL.of eB), fun h1 nh1 => ?_⟩
    have s8 := same_new (o := .lst xs) nh1
    have e8 : (upd H7 h1 (.lst xs)) h1 = some (.lst xs) := upd_same
    have eB8 := s8 _ _ eB
    have nh1p := p7'.ne nh1
    generalize upd H7 h1 (.lst xs) = H8 at *
    refine ⟨_, rfl, B, _, rfl, .inl ⟨SqL.of eB8, fun h2 nh2 => ?_⟩⟩
    have s9 := same_new (o := .tup xs) nh2
    have e9 : (upd H8 h2 (.tup xs)) h2 = some (.tup xs) := upd_same
    have nh2p := (p7'.same s8).ne nh2
    generalize upd H8 h2 (.tup xs) = H9 at *
    refine ⟨(by decide : 2 ≤ sizeLine), fun L hL => ?_⟩
    have s10 := same_new (o := .lst [.ref h1, .ref h2]) hL
    have e10 : (upd H9 L (.lst [.ref h1, .ref h2])) L = some (.lst [.ref h1, .ref h2]) := upd_same
    have p9 := (p7'.same s8).same s9
    have nLp := p9.ne hL
    have p10 := p9.same s10
    have s710 := s8.trans (s9.trans s10)
    generalize upd H9 L (.lst [.ref h1, .ref h2]) = H10 at *
    refine ⟨_, rfl, p, 2, _, rfl, p10, by omega, by decide, by decide, fun H11 v b11 p11 v0 v1 => ?_⟩
    have eh1 := b11 _ _ nh1p (s10 _ _ (s9 _ _ e8))
    have eh2 := b11 _ _ nh2p (s10 _ _ e9)
    have eL11 := b11 _ _ nLp e10
    have f11 := FAt.sb (Same.f s710 f7) p10 b11
    have hx11 := FsAt.sb (hx.same s710) p10 b11
    have eB11 := b11 _ _ nBp (s710 _ _ eB)
    have b211 := (b27.trans (Sb.of s710)).trans b11
    obtain ⟨hd, kt, hat, hsq⟩ : ∃ (hd : Addr) (kt : Bool), atI [V.ref h1, V.ref h2] v = some (.ref hd) ∧ SqG kt K H11 hd xs := by
      rcases (show v = 0 ∨ v = 1 by omega) with rfl | rfl
      · exact ⟨h1, false, rfl, SqL.of eh1⟩
      · exact ⟨h2, true, rfl, .inl (.inl eh2)⟩
    refine ⟨L, _, v, .ref hd, rfl, rfl, SqL.of eL11, hat, ?_⟩
    have lfg : (x0 :: fr).length = gs.length + 1 := by rw [List.length_cons, lfr, lgs]
    have Af : Abs 6 (x0 :: fr) := Sml.abs sf rfl
    have Bf : Bnd (x0 :: fr) := Af.bnd (by decide)
    have Bg : ∀ g ∈ gs, g.length = m ∧ Bnd g := fun g hg => ⟨(bg g hg).1, (Sml.abs (bg g hg).2 (c := 6) rfl).bnd (by decide)⟩
    have lf9 : (x0 :: fr).length ≤ 1000 := by rw [lf]; omega
    -- told
    refine ⟨_, rfl, _, rfl, _, _, rfl, .inl ⟨af, hd, kt, x0 :: fr, xs, gs, m, rfl, rfl, f11, hsq, hx11, lfg, lf9, Bf, Bg, m1, by omega, fun H12 pt s12 ft12 => ?_⟩⟩
    refine ⟨_, rfl, _, _, _, _, true, rfl, .ty "tuple", ty_tup ft12, kit_tup (by decide), true, rfl, iteF ?_⟩
    refine ⟨_, rfl, _, rfl, _, rfl, af, B, x0 :: fr, xs, gs, m, rfl, Same.f s12 f11, s12 _ _ eB11, hx11.same s12, lfg, lf9, (fun x h => Nat.le_trans (Af x h) (by decide)), (fun g h => (bg g h).1), m1, by omega, fun H13 pl s13 fl13 => ?_⟩
    refine ne_same (Same.f s13 ft12) fl13 rfl ⟨_, rfl, iteF ?_⟩
    have s1113 := s12.trans s13
    have ft13 := Same.f s13 ft12
    have f13 := Same.f s1113 f11
    have hx13 := hx11.same s1113
    have eB13 := s1113 _ _ eB11
    have p13 := p11.same s1113
    have b213 := b211.trans (Sb.of s1113)
    -- at
    refine ⟨_, rfl, _, 1, rfl, rfl, _, rfl, by omega, by omega, fun D1 hD => ?_⟩
    have nDp := p13.ne hD
    refine lc_it (walk_range (lo := 0) (n := _)) (fun i H' => Sb p H13 H' ∧ PAt H' p (400 + i) ∧ ∃ ws : List Int, H' D1 = some (.lst (ws.map V.int)) ∧ ws.length = i ∧ Abs 7 ws)
      ⟨Sb.of (same_new hD), (p13.mono (by omega)).same (same_new hD), [], upd_same, rfl, fun v h => (nomatch h)⟩ (fun _ _ _ _ => trivial) ?_ ?_
    · rintro i v H6' H6'' hi6 ⟨b6', p6', ws, ew, lw, bw⟩ ⟨rfl, hv⟩
      refine ⟨rfl, ?_⟩
      refine ⟨_, rfl, p, 15, _, rfl, p6', by omega, by decide, by decide, fun H7' d b7' p7' d0 d1 => ⟨d, 7, rfl, rfl, ?_⟩⟩
      have ew7 := b7' _ _ nDp ew
      refine ⟨_, ew7, small1000 (by rw [List.length_map]; omega), ?_, ?_, ws ++ [d - 7], ?_, by simp [lw], ?_⟩
      · intro b' o nb e
        rw [upd_ne (ne_of_none e hD)]
        exact b7' b' o nb (b6' b' o nb e)
      · obtain ⟨x', y', z', e1', r⟩ := p7'
        exact ⟨x', y', z', (upd_ne nDp.symm).trans e1', r.1, r.2.1, r.2.2.1, r.2.2.2.1, by omega⟩
      · rw [upd_same, List.map_append]
        rfl
      · intro v' hv'
        rcases List.mem_append.mp hv' with hv' | hv'
        · exact bw v' hv'
        · rw [List.mem_singleton] at hv'
          subst hv'
          omega
    rintro H14 ⟨b14, p14, ws, ew14, lw, bw⟩
    have lw' : ws.length + 1 = m := by omega
    have f14 := FAt.sb f13 p13 b14
    have ft14 := FAt.sb ft13 p13 b14
    have hx14 := FsAt.sb hx13 p13 b14
    have eB14 := b14 _ _ nBp eB13
    have b214 := b213.trans b14
    have p14' : PAt H14 p 500 := p14.mono (by omega)
    have bw6 : ∀ v ∈ ws, v.natAbs ≤ 1000000 := fun v h => Nat.le_trans (bw v h) (by decide)
    -- worths
    refine ⟨false, B, xs, rfl, SqL.of eB14, fun D2 hD2 => ?_⟩
    have wl : (gs.map fun g => worthF g ws).length = gs.length := List.length_map ..
    refine lc_it walkS (fun i H' => Same H14 H' ∧ H' D2 = some (.lst (((gs.map fun g => worthF g ws).take i).map V.int))) ⟨same_new hD2, upd_same⟩ (fun i H' _ p => SqL.of (p.1 _ _ eB14)) ?_ ?_
    · rintro i v H15 H15' hi15 ⟨s15, e15⟩ ⟨rfl, hv⟩
      obtain ⟨ag, g, rfl, hgi, fg⟩ := hx14.2 i v hv
      have hg := bg g (List.mem_of_getElem? hgi)
      refine ⟨rfl, ?_⟩
      refine ⟨_, rfl, _, rfl, _, _, rfl, .inl ⟨false, ag, D1, g, ws, rfl, rfl, Same.f s15 fg, SqL.of (s15 _ _ ew14), by omega, by omega, bw6, fun H16 s16 => ?_⟩⟩
      refine ⟨_, s16 _ _ e15, ?_, fun c o e => ?_, ?_⟩
      · rw [List.length_map, List.length_take]
        exact Nat.lt_of_le_of_lt (Nat.min_le_right _ _) (small1000 (by rw [wl]; omega))
      · rw [upd_ne (ne_of_none e hD2)]
        exact s16 c o (s15 c o e)
      · rw [upd_same, List.take_add_one, List.getElem?_map, hgi, List.map_append]
        rfl
    rintro H15 ⟨s15, e15⟩
    rw [show xs.length = (gs.map fun g => worthF g ws).length by rw [wl, hx14.1], List.take_length] at e15
    have f15 := Same.f s15 f14
    have ft15 := Same.f s15 ft14
    have hx15 := hx14.same s15
    have eB15 := s15 _ _ eB14
    have ew15 := s15 _ _ ew14
    have p15 := p14'.same s15
    have b215 := b214.trans (Sb.of s15)
    -- worth(told, at) != worth(form, worths)
    refine ⟨fun σ' H' => ∃ z1 z2 z4 z5 z6 z7 z8 z9 z10 z13, σ' = [some (.ref a), z1, z2, some (.int m), z4, z5, z6, z7, z8, z9, z10, some (.ref af), some (.ref B), z13] ∧ Same H15 H', ?_, ?_⟩
    · refine ⟨_, rfl, Nat.zero_le _, fun e ne => ?_⟩
      have s16 := same_new (o := .lst []) ne
      refine ⟨.list (gs.map datF), .list [], .lst (SqL.of (s16 _ _ eB15)) (dp_forms (hx15.same s16)), .lst (SqL.of upd_same) .nil, by have := sh_forms gs [] rfl (Nat.zero_le _); rwa [List.append_nil] at this, by decide, ?_⟩
      generalize upd H15 e (.lst []) = H16 at *
      cases gs with
      | nil =>
        have e0 : PyData.eqv (.list (([] : List (List Int)).map datF)) (.list []) = true := rfl
        rw [e0]
        exact ⟨_, rfl, iteF (iteF ⟨_, _, _, _, _, _, _, _, _, _, rfl, s16⟩)⟩
      | cons g0 gr =>
        have e0 : PyData.eqv (.list ((g0 :: gr).map datF)) (.list []) = false := rfl
        rw [e0]
        refine ⟨_, rfl, iteT ?_⟩
        have FA := ledF_at (f := x0 :: fr) (gs := g0 :: gr) m1 (by simp) (by simp) fun g h => (bg g h).1
        refine ⟨_, rfl, _, rfl, _, _, rfl, .inl ⟨false, pt, D1, _, ws, rfl, rfl, Same.f s16 ft15, SqL.of (s16 _ _ ew15), by omega, by omega, bw6, fun H17 s17 => ?_⟩⟩
        have s1517 := s16.trans s17
        refine ⟨_, rfl, _, rfl, _, _, rfl, .inl ⟨false, af, D2, x0 :: fr, (g0 :: gr).map fun g => worthF g ws, rfl, rfl, Same.f s1517 f15, SqL.of (s1517 _ _ e15), by rw [wl]; exact lfg, lf9, ?_, fun H18 s18 => ?_⟩⟩
        · intro v hv
          obtain ⟨g, hg, rfl⟩ := List.mem_map.mp hv
          exact Nat.le_trans (worth_abs (Sml.abs (bg g hg).2 (c := 6) rfl) bw (by have := (bg g hg).1; omega)) (by decide)
        · exact ⟨rfl, _, rfl, iteNS (congrArg V.int (worth_led m1 (fun g h => (bg g h).1) ws)) ⟨_, _, _, _, _, _, _, _, _, _, rfl, s1517.trans s18⟩⟩
    rintro σ16 H16 ⟨z1, z2, z4, z5, z6, z7, z8, z9, z10, z13, rfl, s16⟩
    have f16 := Same.f s16 f15
    have hx16 := hx15.same s16
    have eB16 := s16 _ _ eB15
    have b216 := b215.trans (Sb.of s16)
    have hS16 : SqL K H16 a (ns.map V.int) := Same.seq (Same.of_sb ((Sb.of s2).trans b216) np) hS1
    have tabs16 : Tabs [(tb, lawQ)] H16 := Tabs.sb (Tabs.same tabs1 s2) pp b216
    have nfo : x0 :: fr ≠ [] := by simp
    have fy16 : Formy K H16 (.ref af) true := f16.formy (by omega) nfo
    -- the things
    have bgd : Gd m gs := Bg
    refine ⟨_, rfl, (by decide : 1 ≤ sizeLine), fun t1 nt1 => ?_⟩
    have s17 := same_new (o := .tup [.int 0]) nt1
    refine ⟨_, rfl, ?_⟩
    refine rep_of (xs := [.int 0]) (.inl (.inl upd_same)) (by simp) (by omega) (by omega) (by decide) fun H18 u1 s18 h18 => ?_
    have g18 : FAt K H18 u1 (List.replicate m 0) := by
      rw [flat_zero] at h18
      exact h18
    refine ⟨(by decide : 1 ≤ sizeLine), fun l1' nl1 => ?_⟩
    have s19 := same_new (o := .lst [.ref u1]) nl1
    have s1619 := s17.trans (s18.trans s19)
    refine cat_rd (s1619 _ _ eB16) upd_same (Nat.le_of_lt (small1000 (by simp; omega))) fun H20 T1 s20 e20 => ?_
    have s1620 := s1619.trans s20
    have eB20 := s1620 _ _ eB16
    -- the second
    refine ⟨_, rfl, 1, rfl, B, _, rfl, SqL.of eB20, fun w1 nw1 => ?_⟩
    have s21 := same_new (o := .lst (cutV xs (some 1) none)) nw1
    have e21 : (upd H20 w1 (.lst (cutV xs (some 1) none))) w1 = some (.lst (xs.drop 1)) := upd_same.trans (by rw [show (some 1 : Option Int) = some ((1 : Nat) : Int) from rfl, cut_from])
    generalize upd H20 w1 (.lst (cutV xs (some 1) none)) = H21 at *
    refine ⟨(by decide : 1 ≤ sizeLine), fun l2' nl2 => ?_⟩
    have s22 := same_new (o := .lst [.non]) nl2
    refine cat_rd (s22 _ _ e21) upd_same (Nat.le_of_lt (small1000 (by simp; omega))) fun H23 T2 s23 e23 => ?_
    have s2023 := s21.trans (s22.trans s23)
    have eB23 := s2023 _ _ eB20
    -- the third
    refine ⟨_, rfl, 1, rfl, B, _, rfl, SqL.of eB23, fun w2 nw2 => ?_⟩
    have s24 := same_new (o := .lst (cutV xs (some 1) none)) nw2
    have e24 : (upd H23 w2 (.lst (cutV xs (some 1) none))) w2 = some (.lst (xs.drop 1)) := upd_same.trans (by rw [show (some 1 : Option Int) = some ((1 : Nat) : Int) from rfl, cut_from])
    generalize upd H23 w2 (.lst (cutV xs (some 1) none)) = H24 at *
    refine ⟨(by decide : 1 ≤ sizeLine), fun t2 nt2 => ?_⟩
    have s25 := same_new (o := .tup [.int 0]) nt2
    refine ⟨_, rfl, _, 1, rfl, rfl, ?_⟩
    refine rep_of (xs := [.int 0]) (.inl (.inl upd_same)) (by simp) (by omega) (by omega) (by decide) fun H26 u2 s26 h26 => ?_
    have g26 : FAt K H26 u2 (List.replicate (m + 1) 0) := by
      rw [flat_zero] at h26
      exact h26
    refine ⟨(by decide : 1 ≤ sizeLine), fun l3' nl3 => ?_⟩
    have s27 := same_new (o := .lst [.ref u2]) nl3
    have s2427 := s25.trans (s26.trans s27)
    refine cat_rd (s2427 _ _ e24) upd_same (Nat.le_of_lt (small1000 (by simp; omega))) fun H28 T3 s28 e28 => ?_
    have s2328 := s24.trans (s2427.trans s28)
    refine ⟨(by decide : 6 ≤ sizeLine), fun t6 nt6 => ?_⟩
    have s29 := same_new (o := .tup [.ref T1, .ref T2, .ref T3, .non, .str "x", .int 3]) nt6
    have e29 : SqT K (upd H28 t6 (.tup [.ref T1, .ref T2, .ref T3, .non, .str "x", .int 3])) t6 [.ref T1, .ref T2, .ref T3, .non, .str "x", .int 3] := .inl (.inl upd_same)
    generalize upd H28 t6 (.tup [.ref T1, .ref T2, .ref T3, .non, .str "x", .int 3]) = H29 at *
    have s2029 := s2023.trans (s2328.trans s29)
    have s1629 := s1620.trans s2029
    have f29 := Same.f s1629 f16
    have hx29 := hx16.same s1629
    have eB29 := s1629 _ _ eB16
    have fy29 := Formy.same s1629 fy16
    have tabs29 := Tabs.same tabs16 s1629
    have hS29 := Same.seq s1629 hS16
    have g29 := Same.f ((s27.trans s28).trans s29) g26
    have gdd : Gd m (gs.drop 1) := fun g hg => bgd g (List.mem_of_mem_drop hg)
    have dl : (xs.drop 1).length = gs.length - 1 := by rw [List.length_drop, hx29.1]
    have cands : ∀ x ∈ [V.ref T1, .ref T2, .ref T3, .non, .str "x", .int 3], Cand K H29 gs.length m x := by
      intro x hx'
      simp only [List.mem_cons, List.mem_nil_iff, or_false] at hx'
      rcases hx' with rfl | rfl | rfl | rfl | rfl | rfl
      · exact .long T1 _ rfl (s2029 _ _ e20) (by rw [List.length_append, List.length_singleton, hx29.1]; omega)
      · by_cases z : gs.length = 0
        · exact .long T2 _ rfl ((s2328.trans s29) _ _ e23) (by rw [List.length_append, List.length_singleton]; omega)
        · exact .non T2 _ _ rfl ((s2328.trans s29) _ _ e23) hx29.drop (by omega) gdd
      · by_cases z : gs.length = 0
        · exact .long T3 _ rfl (s29 _ _ e28) (by rw [List.length_append, List.length_singleton]; omega)
        · exact .forms T3 _ _ u2 rfl (s29 _ _ e28) hx29.drop g29 (by omega) gdd
      · exact .out "NoneType" (.base .non) (by decide) rfl
      · exact .out "str" (.base (.str "x")) (by decide) rfl
      · exact .out "int" (.base (.int 3)) (by decide) rfl
    refine ⟨t6, rfl, ⟨_, e29⟩, ?_⟩
    refine for_it (walk_tup (xs := [V.ref T1, .ref T2, .ref T3, .non, .str "x", .int 3])) (fun i σ H' => ∃ z1 z2 z4 z5 z6 z7 z8 z9 z10 z13, σ = [some (.ref a), z1, z2, some (.int m), z4, z5, z6, z7, z8, z9, z10, some (.ref af), some (.ref B), z13] ∧ ExtN H29 H' ∧ Tabs [(tb, lawQ)] H')
      ⟨_, _, _, _, _, _, _, _, _, _, rfl, ExtN.refl _, tabs29⟩ (fun i σ H' _ z => by obtain ⟨_, _, _, _, _, _, _, _, _, _, _, z, _⟩ := z; exact ExtN.tup z e29) ?_ ?_
    · rintro i x σ H30' H30 hi7 ⟨q1, q2, q4, q5, q6, q7, q8, q9, q10, q13, rfl, ex, tabs⟩ ⟨rfl, hx'⟩
      have cd := Cand.ext ex (cands x (List.mem_of_getElem? hx'))
      have ed : Dp K H30 .non .none := .non
      have eB30 : H30 B = some (.lst xs) := lst_ext ex eB29
      have lxs : xs.length = gs.length := hx29.1
      have f30 : FAt K H30 af (x0 :: fr) := ExtN.tup ex f29
      have fy30 := Formy.ext ex fy29
      refine ⟨fun σ' H' => ∃ (c : Bool), σ' = [some (.ref a), q1, q2, some (.int m), q4, q5, q6, q7, q8, q9, some (.bl c), some (.ref af), some (.ref B), some x] ∧ Same H30 H' ∧ (c = false → BadL K H30 (.ref af) x) ∧
        (c = true → ∃ (T : Addr) (ys : List V) (gs' : List (List Int)) (z : Addr), x = .ref T ∧ H30 T = some (.lst (ys ++ [.ref z])) ∧ FsAt K H30 ys gs' ∧ FAt K H30 z (List.replicate (m + 1) 0) ∧ ys.length + 1 = gs.length ∧ Gd m gs'), ?_, ?_⟩
      · cases cd with
        | out nm ty hn hs =>
          have e1 : (nm == "list") = false := (Bool.or_eq_false_iff.mp hs).1
          exact ⟨_, rfl, _, _, _, _, false, rfl, .ty "list", ty, by rw [kit_lst hn, e1], false, rfl, iteF ⟨false, rfl, Same.refl _, fun _ => .kind fy30 nm ty hn hs, fun z => nomatch z⟩⟩
        | long T zs e1 h ne =>
          subst e1
          refine ⟨_, rfl, _, _, _, _, true, rfl, .ty "list", .base (.lst h), kit_lst (by decide), true, rfl, iteT ?_⟩
          refine ⟨_, rfl, T, zs, rfl, .inl (SqL.of h), _, rfl, B, xs, rfl, .inl (SqL.of eB30), rfl, _, rfl, ite2 (fun z => absurd (V.int.inj (of_decide_eq_true z)) (by omega)) (fun _ => ?_)⟩
          exact ⟨false, rfl, Same.refl _, fun _ => bad_long fy30 f30 h (by rw [lfg]; omega), fun z => nomatch z⟩
        | non T ys gs' e1 h hq el gd =>
          subst e1
          refine ⟨_, rfl, _, _, _, _, true, rfl, .ty "list", .base (.lst h), kit_lst (by decide), true, rfl, iteT ?_⟩
          refine ⟨_, rfl, T, _, rfl, .inl (SqL.of h), _, rfl, B, xs, rfl, .inl (SqL.of eB30), rfl, _, rfl, ite2 (fun _ => ?_) (fun z => absurd (decide_eq_true (congrArg V.int (by simp; omega))) z)⟩
          refine ⟨_, rfl, PyData.none, gs'.map datF ++ [PyData.none], ed, .lst (SqL.of h) (dpall_snoc ed (dp_forms hq)), by decide, sh_forms gs' [.none] rfl (by decide), ?_⟩
          rw [none_forms]
          exact ⟨false, rfl, Same.refl _, fun _ => bad_non fy30 f30 h hq gd m1 (by omega) (by rw [lfg]; omega), fun z => nomatch z⟩
        | forms T ys gs' z e1 h hq hz el gd =>
          subst e1
          refine ⟨_, rfl, _, _, _, _, true, rfl, .ty "list", .base (.lst h), kit_lst (by decide), true, rfl, iteT ?_⟩
          refine ⟨_, rfl, T, _, rfl, .inl (SqL.of h), _, rfl, B, xs, rfl, .inl (SqL.of eB30), rfl, _, rfl, ite2 (fun _ => ?_) (fun z => absurd (decide_eq_true (congrArg V.int (by simp; omega))) z)⟩
          have hx2 := FsAt.snoc hz hq
          refine ⟨_, rfl, .none, (gs' ++ [List.replicate (m + 1) 0]).map datF ++ [], ed, by rw [List.append_nil]; exact .lst (SqL.of h) (dp_forms hx2), by decide, sh_forms _ [] rfl (by decide), ?_⟩
          rw [none_forms]
          exact ⟨true, rfl, Same.refl _, (fun z => nomatch z), fun _ => ⟨T, ys, gs', z, rfl, h, hq, hz, el, gd⟩⟩
      rintro σ31 H31 ⟨c, rfl, s31, bad31, fm31⟩
      refine ⟨fun σ' H' => ∃ (c : Bool) (z4 : Option V), σ' = [some (.ref a), q1, q2, some (.int m), z4, q5, q6, q7, q8, q9, some (.bl c), some (.ref af), some (.ref B), some x] ∧ Same H30 H' ∧ (c = false → BadL K H30 (.ref af) x), ?_, ?_⟩
      · refine ⟨_, rfl, c, rfl, ?_⟩
        cases c with
        | false => exact iteF ⟨false, _, rfl, s31, bad31⟩
        | true =>
        refine iteT ?_
        obtain ⟨T, ys, gs', z, ex1, h, hq, hz, el, gd⟩ := fm31 rfl
        subst ex1
        have h31 := s31 _ _ h
        have hq31 := hq.same s31
        have hz31 := Same.f s31 hz
        have nz : (ys ++ [V.ref z]).length = ys.length + 1 := by simp
        obtain ⟨a0, g0, e0, hg0, l0⟩ : ∃ (a0 : Addr) (g0 : List Int), (ys ++ [V.ref z])[0]? = some (.ref a0) ∧ FAt K H31 a0 g0 ∧ g0.length = if ys.length = 0 then m + 1 else m := by
          cases ys with
          | nil => exact ⟨z, _, rfl, hz31, List.length_replicate⟩
          | cons y r =>
            obtain ⟨ag, g, rfl, hgi, fg⟩ := hq31.2 0 y rfl
            exact ⟨ag, g, rfl, fg, by rw [if_neg (by simp)]; exact (gd g (List.mem_of_getElem? hgi)).1⟩
        have at0' : atI (ys ++ [V.ref z]) 0 = some (.ref a0) := atI_nat (j := 0) e0
        refine ⟨false, T, _, rfl, SqL.of h31, fun D5 hD5 => ?_⟩
        refine lc_it walkS (fun i H' => Same H31 H' ∧ H' D5 = some (.lst (if i = ys.length + 1 ∧ 1 ≤ ys.length then [.ref z] else []))) ⟨same_new hD5, upd_same.trans (by rw [if_neg (by omega)])⟩ (fun i H' _ p => SqL.of (p.1 _ _ h31)) ?_ ?_
        · rintro i v H32 H32' hi32 ⟨s32, e32⟩ ⟨rfl, hv⟩
          rw [nz] at hi32
          rw [if_neg (by omega)] at e32
          refine ⟨rfl, ?_⟩
          by_cases hiy : i < ys.length
          · rw [List.getElem?_append_left hiy] at hv
            obtain ⟨ag, g, rfl, hgi, fg⟩ := hq31.2 i v hv
            have lgm := (gd g (List.mem_of_getElem? hgi)).1
            refine ⟨_, rfl, ag, _, rfl, .inr (Same.f s32 fg), _, rfl, T, _, 0, .ref a0, rfl, rfl, SqL.of (s32 _ _ h31), at0', a0, _, rfl, .inr (Same.f s32 hg0), rfl, _, rfl, ?_⟩
            refine iteNS (congrArg V.int ?_) ⟨s32, ?_⟩
            · rw [List.length_map, List.length_map, lgm, l0, if_neg (by omega)]
            · rw [if_neg (by omega)]
              exact e32
          · have ei : i = ys.length := by omega
            subst ei
            rw [List.getElem?_append_right (Nat.le_refl _), Nat.sub_self] at hv
            have ev : V.ref z = v := Option.some.inj hv
            subst ev
            refine ⟨_, rfl, z, _, rfl, .inr (Same.f s32 hz31), _, rfl, T, _, 0, .ref a0, rfl, rfl, SqL.of (s32 _ _ h31), at0', a0, _, rfl, .inr (Same.f s32 hg0), rfl, _, rfl, ?_⟩
            by_cases hy0 : ys.length = 0
            · refine iteNS (congrArg V.int ?_) ⟨s32, ?_⟩
              · rw [List.length_map, List.length_map, List.length_replicate, l0, if_pos hy0]
              · rw [if_neg (by omega)]
                exact e32
            · refine iteNF (fun zz => ?_) ⟨_, rfl, [], e32, (by decide : 0 < sizeLine), fun c o e => ?_, ?_⟩
              · have := V.int.inj zz
                rw [List.length_map, List.length_map, List.length_replicate, l0, if_neg hy0] at this
                omega
              · rw [upd_ne (ne_of_none e hD5)]
                exact s32 c o e
              · rw [upd_same, if_pos ⟨rfl, by omega⟩]
                rfl
        rintro H33 ⟨s33, e33⟩
        refine ⟨Nat.zero_le _, fun t nt => ?_⟩
        have s34 := same_new (o := .lst []) nt
        have e34 := s34 _ _ e33
        have s3034 := s31.trans (s33.trans s34)
        by_cases hy0 : ys.length = 0
        · rw [if_neg (by omega)] at e34
          exact ⟨.list [], .list [], .lst (SqL.of e34) .nil, .lst (SqL.of upd_same) .nil, by decide, by decide, true, _, rfl, s3034, fun z => nomatch z⟩
        · rw [nz, if_pos ⟨rfl, by omega⟩] at e34
          refine ⟨.list [datF (List.replicate (m + 1) 0)], .list [], .lst (SqL.of e34) (.cons (dp_f (Same.f (s33.trans s34) hz31)) .nil), .lst (SqL.of upd_same) .nil, sh_forms [List.replicate (m + 1) 0] [] rfl (by decide), by decide, false, _, rfl, s3034, fun _ => ?_⟩
          exact bad_unlike f30 h hq hz gd m1 (by omega) (by rw [lfg]; omega) (by omega) lf9 Bf
      rintro σ35 H35 ⟨c, z4, rfl, s35, bad35⟩
      refine ⟨_, rfl, c, rfl, ?_⟩
      cases c with
      | true => exact iteF (iteF ⟨_, _, _, _, _, _, _, _, _, _, rfl, ex.trans (ExtN.same s35), Tabs.same tabs s35⟩)
      | false =>
      refine iteT ?_
      refine ⟨Tabs.same tabs s35, fun H36 ex36 tabs36 => ?_⟩
      have ex3036 := (ExtN.same s35).trans ex36
      refine ⟨_, rfl, _, rfl, _, _, rfl, .inr ⟨BadL.ext ex3036 (bad35 rfl), fun H37 s37 => ⟨rfl, rfl, fun H38 l s38 nl el => ?_⟩⟩⟩
      refine ⟨(by decide : 1 ≤ sizeLine), fun l2 hl2 => ?_⟩
      have s39 := same_new (o := .lst [.str "!NoForm"]) hl2
      refine how_ne (s39 _ _ el) upd_same ⟨_, rfl, iteF ?_⟩
      have s3639 := s37.trans (s38.trans s39)
      exact ⟨_, _, _, _, _, _, _, _, _, _, rfl, ex.trans (ex3036.trans (ExtN.same s3639)), Tabs.same tabs36 s3639⟩
    rintro σ40 H40 ⟨v1, v2, v4, v5, v6, v7, v8, v9, v10, v13, rfl, ex40, tabs40⟩
    have f40 : FAt K H40 af (x0 :: fr) := ExtN.tup ex40 f29
    -- the things that are no forms
    refine ⟨_, rfl, af, _, rfl, .inr f40, fun l4 nl4 => ?_⟩
    have s41 := same_new (o := .lst ((x0 :: fr).map V.int)) nl4
    have e41 : (upd H40 l4 (.lst ((x0 :: fr).map V.int))) l4 = some (.lst ((x0 :: fr).map V.int)) := upd_same
    generalize upd H40 l4 (.lst ((x0 :: fr).map V.int)) = H41 at *
    refine ⟨Nat.zero_le _, fun e0 ne0 => ?_⟩
    have s42 := same_new (o := .tup []) ne0
    have e42 : (upd H41 e0 (.tup [])) e0 = some (.tup []) := upd_same
    generalize upd H41 e0 (.tup []) = H42 at *
    refine ⟨(by decide : 1 ≤ sizeLine), fun t3 nt3 => ?_⟩
    have s43 := same_new (o := .tup [.bl true]) nt3
    have e43 : (upd H42 t3 (.tup [.bl true])) t3 = some (.tup [.bl true]) := upd_same
    generalize upd H42 t3 (.tup [.bl true]) = H43 at *
    refine ⟨(by decide : 5 ≤ sizeLine), fun t4 nt4 => ?_⟩
    have s44 := same_new (o := .tup [.non, .ref l4, .ref e0, .ref t3, .int 5]) nt4
    have e44 : SqT K (upd H43 t4 (.tup [.non, .ref l4, .ref e0, .ref t3, .int 5])) t4 [.non, .ref l4, .ref e0, .ref t3, .int 5] := .inl (.inl upd_same)
    generalize upd H43 t4 (.tup [.non, .ref l4, .ref e0, .ref t3, .int 5]) = H44 at *
    have s4044 := s41.trans (s42.trans (s43.trans s44))
    have bads : ∀ x ∈ [V.non, .ref l4, .ref e0, .ref t3, .int 5], Formy K H44 x false := by
      intro x hx'
      simp only [List.mem_cons, List.mem_nil_iff, or_false] at hx'
      rcases hx' with rfl | rfl | rfl | rfl | rfl
      · exact .inr ⟨"NoneType", .base .non, by decide, by decide, rfl⟩
      · exact .inr ⟨"list", .base (.lst ((s42.trans (s43.trans s44)) _ _ e41)), by decide, by decide, rfl⟩
      · exact .inl ⟨e0, [], [], rfl, .inl (.inl ((s43.trans s44) _ _ e42)), Nat.zero_le _, ⟨rfl, fun i x n h => by simp at h⟩, rfl⟩
      · exact bad_end (g := []) (v := .bl true) (.inl (.inl (s44 _ _ e43))) ⟨"bool", .base (.bl true), by decide, rfl⟩ (by decide)
      · exact .inr ⟨"int", .base (.int 5), by decide, by decide, rfl⟩
    refine ⟨t4, rfl, ⟨_, e44⟩, ?_⟩
    refine for_it (walk_tup (xs := [V.non, .ref l4, .ref e0, .ref t3, .int 5])) (fun i σ H' => ∃ z1 z2 z3 z4 z5 z6 z7 z8 z9 z10 z13, σ = [some (.ref a), z1, z2, z3, z4, z5, z6, z7, z8, z9, z10, some (.ref af), some (.ref B), z13] ∧ ExtN H44 H' ∧ Tabs [(tb, lawQ)] H')
      ⟨_, _, _, _, _, _, _, _, _, _, _, rfl, ExtN.refl _, Tabs.same tabs40 s4044⟩ (fun i σ H' _ z => by obtain ⟨_, _, _, _, _, _, _, _, _, _, _, _, z, _⟩ := z; exact ExtN.tup z e44) ?_ ?_
    · rintro i x σ H45' H45 hi7 ⟨q1, q2, q3, q4, q5, q6, q7, q8, q9, q10, q13, rfl, ex, tabs⟩ ⟨rfl, hx'⟩
      have bad := bads x (List.mem_of_getElem? hx')
      refine ⟨tabs, fun H46 ex46 tabs46 => ?_⟩
      refine ⟨_, rfl, _, rfl, _, _, rfl, .inr ⟨.form (Formy.ext (ex.trans ex46) bad), fun H47 s47 => ⟨rfl, rfl, fun H48 l s48 nl el => ?_⟩⟩⟩
      refine ⟨(by decide : 1 ≤ sizeLine), fun l2 hl2 => ?_⟩
      have s49 := same_new (o := .lst [.str "!NoForm"]) hl2
      refine how_ne (s49 _ _ el) upd_same ⟨_, rfl, iteF ?_⟩
      have s4649 := s47.trans (s48.trans s49)
      exact ⟨_, _, _, _, _, _, _, _, _, _, _, rfl, (ex.trans ex46).trans (ExtN.same s4649), Tabs.same tabs46 s4649⟩
    rintro σ50 H50 ⟨v1, v2, v3, v4, v5, v6, v7, v8, v9, v10, v13, rfl, ex50, tabs50⟩
    have ex2950 := ex40.trans ((ExtN.same s4044).trans ex50)
    have eB50 := lst_ext ex2950 eB29
    have hx50 := FsAt.ext ex2950 hx29
    -- one too few
    refine ⟨_, rfl, Nat.zero_le _, fun e ne => ?_⟩
    have s51 := same_new (o := .lst []) ne
    refine ⟨.list (gs.map datF), .list [], .lst (SqL.of (s51 _ _ eB50)) (dp_forms (hx50.same s51)), .lst (SqL.of upd_same) .nil, by have := sh_forms gs [] rfl (Nat.zero_le _); rwa [List.append_nil] at this, by decide, ?_⟩
    generalize upd H50 e (.lst []) = H51 at *
    have ex2951 := ex2950.trans (ExtN.same s51)
    have tabs51 := Tabs.same tabs50 s51
    cases gs with
    | nil =>
      have e0 : PyData.eqv (.list (([] : List (List Int)).map datF)) (.list []) = true := rfl
      rw [e0]
      exact ⟨_, rfl, iteF (iteF ⟨_, _, _, _, _, _, _, _, _, _, _, _, _, rfl, ExtN.seq ex2951 hS29, tabs51⟩)⟩
    | cons g0 gr =>
      have e0 : PyData.eqv (.list ((g0 :: gr).map datF)) (.list []) = false := rfl
      rw [e0]
      refine ⟨_, rfl, iteT ?_⟩
      refine ⟨tabs51, fun H52 ex52 tabs52 => ?_⟩
      have ex2952 := ex2951.trans ex52
      refine ⟨_, rfl, _, rfl, 1, rfl, -1, rfl, B, xs, rfl, SqL.of (lst_ext ex2952 eB29), fun w3 nw3 => ?_⟩
      have s53 := same_new (o := .lst (cutV xs none (some (-1)))) nw3
      have cl : (cutV xs none (some (-1))).length ≤ ((-1 : Int) + (xs.length : Int)).toNat := by
        unfold cutV
        have e : HT.sIx xs.length xs.length (some (-1)) = (if (-1 : Int) < 0 then ((-1 : Int) + (xs.length : Int)).toNat else min (-1 : Int).toNat xs.length) := rfl
        rw [List.length_take, List.length_drop, e, if_pos (by decide)]
        omega
      have lxs : xs.length = (g0 :: gr).length := hx29.1
      have hne : (cutV xs none (some (-1))).length + 1 ≠ (x0 :: fr).length := by
        rw [List.length_cons] at lxs
        rw [lfg, List.length_cons]
        omega
      refine ⟨_, _, rfl, .inr ⟨bad_long (Formy.ext (ex2952.trans (ExtN.same s53)) fy29) (ExtN.tup (ex2952.trans (ExtN.same s53)) f29) upd_same hne, fun H54 s54 => ⟨rfl, rfl, fun H55 l s55 nl el => ?_⟩⟩⟩
      refine ⟨(by decide : 1 ≤ sizeLine), fun l2 hl2 => ?_⟩
      have s56 := same_new (o := .lst [.str "!NoForm"]) hl2
      refine how_ne (s56 _ _ el) upd_same ⟨_, rfl, iteF ?_⟩
      have s5256 := s53.trans (s54.trans (s55.trans s56))
      exact ⟨_, _, _, _, _, _, _, _, _, _, _, _, _, rfl, ExtN.seq (ex2952.trans (ExtN.same s5256)) hS29, Tabs.same tabs52 s5256⟩
end
end PF

namespace PF
open PySem PySem.Spec PyProof.Rows L2 ZG HU LamX
theorem all_mk {l : PySem.W.OpenLaw} {w : World} {K : PySem.W.Frag} {h : Heap} {mg : Str → Option Value} {fa fl cc tb cW f0 f1 f2 f3 f4 f5 f6 f7 f8 f9 f10 f11 f12 f13 e0 e1 e2 e3 e4 e5 e6 e7 e8 e9 e10 e11 e12 : Addr} (X : K.In h) (G : h.Ns mainGlobals mg) (hfa : mg "law" = some (.ref fa)) (own : OwnTab K fa h)
    {od0 an0 od1 an1 od2 an2 od3 an3 od4 an4 od5 an5 od6 an6 od7 an7 od8 an8 od9 an9 od10 an10 od11 an11 od12 an12 od13 an13 odl anl ddl : Option Addr} {sl0 sl1 sl2 sl3 sl4 sl5 sl6 sl7 sl8 sl9 sl10 sl11 sl12 sl13 sll slc : Array (Option Value)} {oc0 kV0 dc0 pm0 cd0 ct0 oc1 kV1 dc1 pm1 cd1 ct1 oc2 kV2 dc2 pm2 cd2 ct2 oc3 kV3 dc3 pm3 cd3 ct3 oc4 kV4 dc4 pm4 cd4 ct4 oc5 kV5 dc5 pm5 cd5 ct5 oc6 kV6 dc6 pm6 cd6 ct6 oc7 kV7 dc7 pm7 cd7 ct7 oc8 kV8 dc8 pm8 cd8 ct8 oc9 kV9 dc9 pm9 cd9 ct9 oc10 kV10 dc10 pm10 cd10 ct10 oc11 kV11 dc11 pm11 cd11 ct11 oc12 kV12 dc12 pm12 cd12 ct12 oc13 kV13 dc13 pm13 cd13 ct13 ocl kVl dcl pml ctl ecl : Value} {vs : Array Value}
    (a0 : PySem.W.nsIn K mainGlobals "is_whole" = some (some (.ref f0)))
    (l0 : K.lookup f0 = some ⟨oc0, od0, .func (PySem.W.fnOf "is_whole" "is_whole" (defArgs sWhole) (defBody sWhole) (defScope sWhole) .none kV0 dc0 pm0 an0 cd0 ct0), sl0⟩)
    (c0 : PySem.W.codeIn K cd0 "is_whole" = true)
    (k0 : PySem.W.keepIn K (.ref f0) = true)
    (a1 : PySem.W.nsIn K mainGlobals "is_sequence" = some (some (.ref f1)))
    (l1 : K.lookup f1 = some ⟨oc1, od1, .func (PySem.W.fnOf "is_sequence" "is_sequence" (defArgs sSeqn) (defBody sSeqn) (defScope sSeqn) .none kV1 dc1 pm1 an1 cd1 ct1), sl1⟩)
    (c1 : PySem.W.codeIn K cd1 "is_sequence" = true)
    (k1 : PySem.W.keepIn K (.ref f1) = true)
    (a2 : PySem.W.nsIn K mainGlobals "is_form" = some (some (.ref f2)))
    (l2 : K.lookup f2 = some ⟨oc2, od2, .func (PySem.W.fnOf "is_form" "is_form" (defArgs sIsForm) (defBody sIsForm) (defScope sIsForm) .none kV2 dc2 pm2 an2 cd2 ct2), sl2⟩)
    (c2 : PySem.W.codeIn K cd2 "is_form" = true)
    (k2 : PySem.W.keepIn K (.ref f2) = true)
    (a3 : PySem.W.nsIn K mainGlobals "worth" = some (some (.ref f3)))
    (l3 : K.lookup f3 = some ⟨oc3, od3, .func (PySem.W.fnOf "worth" "worth" (defArgs sWorth) (defBody sWorth) (defScope sWorth) .none kV3 dc3 pm3 an3 cd3 ct3), sl3⟩)
    (c3 : PySem.W.codeIn K cd3 "worth" = true)
    (k3 : PySem.W.keepIn K (.ref f3) = true)
    (a4 : PySem.W.nsIn K mainGlobals "led" = some (some (.ref f4)))
    (l4 : K.lookup f4 = some ⟨oc4, od4, .func (PySem.W.fnOf "led" "led" (defArgs sLed) (defBody sLed) (defScope sLed) .none kV4 dc4 pm4 an4 cd4 ct4), sl4⟩)
    (c4 : PySem.W.codeIn K cd4 "led" = true)
    (k4 : PySem.W.keepIn K (.ref f4) = true)
    (a5 : PySem.W.nsIn K mainGlobals "_look_form" = some (some (.ref f5)))
    (l5 : K.lookup f5 = some ⟨oc5, od5, .func (PySem.W.fnOf "_look_form" "_look_form" (defArgs sLook) (defBody sLook) (defScope sLook) .none kV5 dc5 pm5 an5 cd5 ct5), sl5⟩)
    (c5 : PySem.W.codeIn K cd5 "_look_form" = true)
    (k5 : PySem.W.keepIn K (.ref f5) = true)
    (a6 : PySem.W.nsIn K mainGlobals "_law_purse" = some (some (.ref f6)))
    (l6 : K.lookup f6 = some ⟨oc6, od6, .func (PySem.W.fnOf "_law_purse" "_law_purse" (defArgs sPurse) (defBody sPurse) (defScope sPurse) .none kV6 dc6 pm6 an6 cd6 ct6), sl6⟩)
    (c6 : PySem.W.codeIn K cd6 "_law_purse" = true)
    (k6 : PySem.W.keepIn K (.ref f6) = true)
    (a7 : PySem.W.nsIn K mainGlobals "_law_take" = some (some (.ref f7)))
    (l7 : K.lookup f7 = some ⟨oc7, od7, .func (PySem.W.fnOf "_law_take" "_law_take" (defArgs sTake) (defBody sTake) (defScope sTake) .none kV7 dc7 pm7 an7 cd7 ct7), sl7⟩)
    (c7 : PySem.W.codeIn K cd7 "_law_take" = true)
    (k7 : PySem.W.keepIn K (.ref f7) = true)
    (a8 : PySem.W.nsIn K mainGlobals "_law_form" = some (some (.ref f8)))
    (l8 : K.lookup f8 = some ⟨oc8, od8, .func (PySem.W.fnOf "_law_form" "_law_form" (defArgs sForm) (defBody sForm) (defScope sForm) .none kV8 dc8 pm8 an8 cd8 ct8), sl8⟩)
    (c8 : PySem.W.codeIn K cd8 "_law_form" = true)
    (k8 : PySem.W.keepIn K (.ref f8) = true)
    (a9 : PySem.W.nsIn K mainGlobals "added" = some (some (.ref f9)))
    (l9 : K.lookup f9 = some ⟨oc9, od9, .func (PySem.W.fnOf "added" "added" (defArgs sAdded) (defBody sAdded) (defScope sAdded) .none kV9 dc9 pm9 an9 cd9 ct9), sl9⟩)
    (c9 : PySem.W.codeIn K cd9 "added" = true)
    (k9 : PySem.W.keepIn K (.ref f9) = true)
    (a10 : PySem.W.nsIn K mainGlobals "often" = some (some (.ref f10)))
    (l10 : K.lookup f10 = some ⟨oc10, od10, .func (PySem.W.fnOf "often" "often" (defArgs sOften) (defBody sOften) (defScope sOften) .none kV10 dc10 pm10 an10 cd10 ct10), sl10⟩)
    (c10 : PySem.W.codeIn K cd10 "often" = true)
    (k10 : PySem.W.keepIn K (.ref f10) = true)
    (a11 : PySem.W.nsIn K mainGlobals "_law_kind" = some (some (.ref f11)))
    (l11 : K.lookup f11 = some ⟨oc11, od11, .func (PySem.W.fnOf "_law_kind" "_law_kind" (defArgs sKind) (defBody sKind) (defScope sKind) .none kV11 dc11 pm11 an11 cd11 ct11), sl11⟩)
    (c11 : PySem.W.codeIn K cd11 "_law_kind" = true)
    (k11 : PySem.W.keepIn K (.ref f11) = true)
    (a12 : PySem.W.nsIn K mainGlobals "_law_how" = some (some (.ref f12)))
    (l12 : K.lookup f12 = some ⟨oc12, od12, .func (PySem.W.fnOf "_law_how" "_law_how" (defArgs sHow) (defBody sHow) (defScope sHow) .none kV12 dc12 pm12 an12 cd12 ct12), sl12⟩)
    (c12 : PySem.W.codeIn K cd12 "_law_how" = true)
    (k12 : PySem.W.keepIn K (.ref f12) = true)
    (a13 : PySem.W.nsIn K mainGlobals "_law_led" = some (some (.ref f13)))
    (l13 : K.lookup f13 = some ⟨oc13, od13, .func (PySem.W.fnOf "_law_led" "_law_led" (defArgs sLLed) (defBody sLLed) (defScope sLLed) .none kV13 dc13 pm13 an13 cd13 ct13), sl13⟩)
    (c13 : PySem.W.codeIn K cd13 "_law_led" = true)
    (k13 : PySem.W.keepIn K (.ref f13) = true)
    (al : PySem.W.nsIn K mainGlobals "law" = some (some (.ref fl)))
    (ll : K.lookup fl = some ⟨ocl, odl, .func (PySem.W.fnOf "law" "law" (defArgs sLaw) (defBody sLaw) (defScope sLaw) .none kVl dcl pml anl (.ref cc) ctl), sll⟩)
    (cl : PySem.W.codeIn K (.ref cc) "law" = true)
    (lc : K.lookup cc = some ⟨ecl, ddl, .fields vs, slc⟩)
    (v11 : vs[11]? = some (.ref tb))
    (ch : PySem.W.codeHdIn K cc tb = true)
    (nt : K.lookup tb = none)
    (z0 : PySem.W.nsIn K mainGlobals "isinstance" = some none)
    (z1 : PySem.W.nsIn K mainGlobals "int" = some none)
    (z2 : PySem.W.nsIn K mainGlobals "bool" = some none)
    (z3 : PySem.W.nsIn K mainGlobals "tuple" = some none)
    (z4 : PySem.W.nsIn K mainGlobals "list" = some none)
    (z5 : PySem.W.nsIn K mainGlobals "len" = some none)
    (z6 : PySem.W.nsIn K mainGlobals "all" = some none)
    (z7 : PySem.W.nsIn K mainGlobals "zip" = some none)
    (z8 : PySem.W.nsIn K mainGlobals "range" = some none)
    (z9 : PySem.W.nsIn K mainGlobals "sum" = some none)
    (z10 : PySem.W.nsIn K mainGlobals "abs" = some none)
    (z11 : PySem.W.nsIn K mainGlobals "max" = some none)
    (z12 : PySem.W.nsIn K mainGlobals "min" = some none)
    (zV : PySem.W.nsIn K mainGlobals "ValueError" = some none)
    (aW : PySem.W.nsIn K mainGlobals "Wrong" = some (some (.ref cW)))
    (n0 : PySem.W.nsIn K mainGlobals "NoArea" = some (some (.ref e0)))
    (n1 : PySem.W.nsIn K mainGlobals "NoClaims" = some (some (.ref e1)))
    (n2 : PySem.W.nsIn K mainGlobals "NoDeeds" = some (some (.ref e2)))
    (n3 : PySem.W.nsIn K mainGlobals "NoForm" = some (some (.ref e3)))
    (n4 : PySem.W.nsIn K mainGlobals "NoNames" = some (some (.ref e4)))
    (n5 : PySem.W.nsIn K mainGlobals "NoNumber" = some (some (.ref e5)))
    (n6 : PySem.W.nsIn K mainGlobals "NoPapers" = some (some (.ref e6)))
    (n7 : PySem.W.nsIn K mainGlobals "NoPass" = some (some (.ref e7)))
    (n8 : PySem.W.nsIn K mainGlobals "NoRows" = some (some (.ref e8)))
    (n9 : PySem.W.nsIn K mainGlobals "NoRule" = some (some (.ref e9)))
    (n10 : PySem.W.nsIn K mainGlobals "NoSaying" = some (some (.ref e10)))
    (n11 : PySem.W.nsIn K mainGlobals "NoStart" = some (some (.ref e11)))
    (n12 : PySem.W.nsIn K mainGlobals "NoText" = some (some (.ref e12)))
    (q0 : PySem.W.kitOne K (.ref e3) (.ref e0) = some false)
    (q1 : PySem.W.kitOne K (.ref e3) (.ref e1) = some false)
    (q2 : PySem.W.kitOne K (.ref e3) (.ref e2) = some false)
    (q3 : PySem.W.kitOne K (.ref e3) (.ref e3) = some true)
    (q4 : PySem.W.kitOne K (.ref e3) (.ref e4) = some false)
    (q5 : PySem.W.kitOne K (.ref e3) (.ref e5) = some false)
    (q6 : PySem.W.kitOne K (.ref e3) (.ref e6) = some false)
    (q7 : PySem.W.kitOne K (.ref e3) (.ref e7) = some false)
    (q8 : PySem.W.kitOne K (.ref e3) (.ref e8) = some false)
    (q9 : PySem.W.kitOne K (.ref e3) (.ref e9) = some false)
    (q10 : PySem.W.kitOne K (.ref e3) (.ref e10) = some false)
    (q11 : PySem.W.kitOne K (.ref e3) (.ref e11) = some false)
    (q12 : PySem.W.kitOne K (.ref e3) (.ref e12) = some false)
    (qV : PySem.W.kitOne K (.ref e3) (.type "ValueError") = some true)
    (eW : PySem.W.exmOne K (.ref e3) (.ref cW) = some true)
    (eA : PySem.W.exmAny K (.ref e3) [.ref e0, .ref e1, .ref e2, .ref e7, .ref e8] = some false)
    (x0 : PySem.W.findIn K (.ref e3) "__getattribute__" = some (some (.builtin "BaseException.__getattribute__")))
    (x1 : PySem.W.findIn K (.ref e3) "__getattr__" = some none)
    (x2 : PySem.W.subIn K (.ref e3) (.type "BaseException") = some true)
    (x3 : PySem.W.hasDictIn K e3 = true)
    (x4 : PySem.W.findIn K (.ref e3) "__class__" = some (some (.builtin "object.__class__")))
    (x5 : PySem.W.specialIn K (.builtin "object.__class__") "__get__" = some (some (.builtin "getset_descriptor.__get__")))
    (x6 : PySem.W.takesIn K (.builtin "object.__class__") = some true)
    (x7 : PySem.W.mroIn K e3 (.type "object") = some true)
    (y0 : PySem.W.excIn K e3 [.type "ValueError", .type "Exception", .type "BaseException", .type "object"] "ValueError.__new__" = true)
    (y1 : PySem.W.keepIn K (.ref e3) = true)
    (y2 : PySem.W.typeIn K (.ref e3) = some (.type "type"))
    : LawAtS l w K CX0 8 63 "script" mg fa h := by
  have e := hfa.symm.trans (PySem.W.mg_of X G al)
  cases e
  have T : Txt mg := ⟨PySem.W.mg_none_of X G z0, PySem.W.mg_none_of X G z1, PySem.W.mg_none_of X G z2, PySem.W.mg_none_of X G z3, PySem.W.mg_none_of X G z4, PySem.W.mg_none_of X G z5, PySem.W.mg_none_of X G z6, PySem.W.mg_none_of X G z7, PySem.W.mg_none_of X G z8, PySem.W.mg_none_of X G z9, PySem.W.mg_none_of X G z10, PySem.W.mg_none_of X G z11, PySem.W.mg_none_of X G z12⟩
  have F0 := fun_mk (st := sWhole) l0 c0 k0
  have b0 := F0.binds (ps := ["thing"]) fun _ _ _ _ _ _ us hl => match us, hl with | [_], _ => rfl
  have m0 := PySem.W.mg_of X G a0
  have F1 := fun_mk (st := sSeqn) l1 c1 k1
  have b1 := F1.binds (ps := ["thing"]) fun _ _ _ _ _ _ us hl => match us, hl with | [_], _ => rfl
  have m1 := PySem.W.mg_of X G a1
  have F2 := fun_mk (st := sIsForm) l2 c2 k2
  have b2 := F2.binds (ps := ["thing"]) fun _ _ _ _ _ _ us hl => match us, hl with | [_], _ => rfl
  have m2 := PySem.W.mg_of X G a2
  have F3 := fun_mk (st := sWorth) l3 c3 k3
  have b3 := F3.binds (ps := ["form", "worths"]) fun _ _ _ _ _ _ us hl => match us, hl with | [_, _], _ => rfl
  have m3 := PySem.W.mg_of X G a3
  have F4 := fun_mk (st := sLed) l4 c4 k4
  have b4 := F4.binds (ps := ["form", "others"]) fun _ _ _ _ _ _ us hl => match us, hl with | [_, _], _ => rfl
  have m4 := PySem.W.mg_of X G a4
  have F5 := fun_mk (st := sLook) l5 c5 k5
  have b5 := F5.binds (ps := ["form"]) fun _ _ _ _ _ _ us hl => match us, hl with | [_], _ => rfl
  have m5 := PySem.W.mg_of X G a5
  have F6 := fun_mk (st := sPurse) l6 c6 k6
  have b6 := F6.binds (ps := ["script", "at"]) fun _ _ _ _ _ _ us hl => match us, hl with | [_, _], _ => rfl
  have m6 := PySem.W.mg_of X G a6
  have F7 := fun_mk (st := sTake) l7 c7 k7
  have b7 := F7.binds (ps := ["purse", "many"]) fun _ _ _ _ _ _ us hl => match us, hl with | [_, _], _ => rfl
  have m7 := PySem.W.mg_of X G a7
  have F8 := fun_mk (st := sForm) l8 c8 k8
  have b8 := F8.binds (ps := ["purse", "many", "most"]) fun _ _ _ _ _ _ us hl => match us, hl with | [_, _, _], _ => rfl
  have m8 := PySem.W.mg_of X G a8
  have F9 := fun_mk (st := sAdded) l9 c9 k9
  have b9 := F9.binds (ps := ["one", "other"]) fun _ _ _ _ _ _ us hl => match us, hl with | [_, _], _ => rfl
  have m9 := PySem.W.mg_of X G a9
  have F10 := fun_mk (st := sOften) l10 c10 k10
  have b10 := F10.binds (ps := ["form", "many"]) fun _ _ _ _ _ _ us hl => match us, hl with | [_, _], _ => rfl
  have m10 := PySem.W.mg_of X G a10
  have F11 := fun_mk (st := sKind) l11 c11 k11
  have b11 := F11.binds (ps := ["e"]) fun _ _ _ _ _ _ us hl => match us, hl with | [_], _ => rfl
  have m11 := PySem.W.mg_of X G a11
  have F12 := fun_mk (st := sHow) l12 c12 k12
  have b12 := F12.binds (ps := ["deed"]) fun _ _ _ _ _ _ us hl => match us, hl with | [_], _ => rfl
  have m12 := PySem.W.mg_of X G a12
  have F13 := fun_mk (st := sLLed) l13 c13 k13
  have b13 := F13.binds (ps := ["form", "others"]) fun _ _ _ _ _ _ us hl => match us, hl with | [_, _], _ => rfl
  have m13 := PySem.W.mg_of X G a13
  have ex : ExcC K e3 := ⟨x0, x1, x2, x3, x4, x5, x6, x7⟩
  have A : KF K mg e3 cW (fun i => ([e0, e1, e2, e3, e4, e5, e6, e7, e8, e9, e10, e11, e12] : List Addr).getD i.val 0) := ⟨qV, PySem.W.mg_none_of X G zV, ex, PySem.W.mg_of X G aW, eW, PySem.W.mg_of X G n0, q0, PySem.W.mg_of X G n1, q1, PySem.W.mg_of X G n2, q2, PySem.W.mg_of X G n3, q3, PySem.W.mg_of X G n4, q4, PySem.W.mg_of X G n5, q5, PySem.W.mg_of X G n6, q6, PySem.W.mg_of X G n7, q7, PySem.W.mg_of X G n8, q8, PySem.W.mg_of X G n9, q9, PySem.W.mg_of X G n10, q10, PySem.W.mg_of X G n11, q11, PySem.W.mg_of X G n12, q12⟩
  have B : EF K mg e3 := ⟨PySem.W.mg_of X G n3, y0, y1, x2, y2⟩
  refine ⟨PySem.W.fnOf "law" "law" (defArgs sLaw) (defBody sLaw) (defScope sLaw) .none kVl dcl pml anl (.ref cc) ctl, [(cc, tb)], spLaw K tb, fun p hp => ?_, fun p hp => ?_, fun p hp => ?_, fun s v => .of_eq rfl, fun H a ns hl _ hT hS => ?_, fun base _ _ TB => ?_⟩
  · rw [List.mem_singleton.mp hp]
    exact own cc tb _ _ ecl ddl vs slc ll rfl rfl lc v11
  · rw [List.mem_singleton.mp hp]
    exact nt
  · rw [List.mem_singleton.mp hp]
    exact PySem.W.codeHd_of_K X ch
  · exact ⟨a, ns, rfl, hS, hl, hT _ (List.mem_singleton.mpr rfl), fun _ => rfl⟩
  have G0 := ok_whole (P := l.prog) (w := w) (mg := mg) (base := base) F0 T
  have G1 := ok_seqn (P := l.prog) (w := w) (mg := mg) (base := base) F1 T
  have G2 := ok_isForm (P := l.prog) (w := w) (mg := mg) (base := base) F2 F0 b0 m0 T
  have G5 := ok_lookX F5 G2 k2 b2 m2 B
  have G3 := ok_worth F3 G5 k5 b5 m5 G1 k1 b1 m1 G0 k0 b0 m0 T B
  have G6 := ok_purse (P := l.prog) (w := w) (mg := mg) (base := base) F6 T
  have G7 := ok_take (P := l.prog) (w := w) (K := K) (mg := mg) (base := base) F7
  have G8 := ok_form F8 G7 k7 b7 m7 T
  have G9 := ok_added F9 G5 k5 b5 m5 T B
  have G10 := ok_often F10 G5 k5 b5 m5 G0 k0 b0 m0 T B
  have G4 := ok_led F4 G5 k5 b5 m5 G1 k1 b1 m1 G9 k9 b9 m9 G10 k10 b10 m10 T B
  have G13 := ok_lled (P := l.prog) (w := w) (mg := mg) (base := base) F13 T
  have G11 := ok_kind (P := l.prog) (w := w) (mg := mg) (base := base) F11 T A
  exact ok_law ll cl G6 k6 b6 m6 G7 k7 b7 m7 G8 k8 b8 m8 G3 k3 b3 m3 G4 k4 b4 m4 G13 k13 b13 m13 G11 k11 b11 m11 l12 c12 k12 b12 m12 A eA T (TB _ (List.mem_singleton.mpr rfl))
end PF
open PySem PySem.W PyProof.Rows
set_option maxHeartbeats 0 in
theorem PySem.Challenge.cw_paperrows_k03_forms_led_holds : PySem.Challenge.rw_paperrows_k03_forms_led.Holds := by
  w_on; o_law; k_head; (case hw => w_witness2)
  k_fill
  refine LamX.walk_ofOwn (l := PySem.Challenge.rw_paperrows_k03_forms_led) (n := 63) (k := 8) (x := "script") (CX := fun _ => L2.CX0) rfl (by decide) rfl ⟨rfl, by decide, by decide⟩ (by decide +kernel) (fun w h Y => PySem.W.km_in_of Y) ?F (fun _ _ _ _ _ h => h)
  case F =>
    intro w mg fa h Y KX G hmg own
    refine' PF.all_mk KX G hmg own ?a0 ?l0 ?c0 ?k0 ?a1 ?l1 ?c1 ?k1 ?a2 ?l2 ?c2 ?k2 ?a3 ?l3 ?c3 ?k3 ?a4 ?l4 ?c4 ?k4 ?a5 ?l5 ?c5 ?k5 ?a6 ?l6 ?c6 ?k6 ?a7 ?l7 ?c7 ?k7 ?a8 ?l8 ?c8 ?k8 ?a9 ?l9 ?c9 ?k9 ?a10 ?l10 ?c10 ?k10 ?a11 ?l11 ?c11 ?k11 ?a12 ?l12 ?c12 ?k12 ?a13 ?l13 ?c13 ?k13 ?al ?ll ?cl ?lc ?v11 ?ch ?nt ?z0 ?z1 ?z2 ?z3 ?z4 ?z5 ?z6 ?z7 ?z8 ?z9 ?z10 ?z11 ?z12 ?zV ?aW ?n0 ?n1 ?n2 ?n3 ?n4 ?n5 ?n6 ?n7 ?n8 ?n9 ?n10 ?n11 ?n12 ?q0 ?q1 ?q2 ?q3 ?q4 ?q5 ?q6 ?q7 ?q8 ?q9 ?q10 ?q11 ?q12 ?qV ?eW ?eA ?x0 ?x1 ?x2 ?x3 ?x4 ?x5 ?x6 ?x7 ?y0 ?y1 ?y2
    (case a0 => k_is)
    (case l0 => k_is)
    (case c0 => k_is)
    (case k0 => k_is)
    (case a1 => k_is)
    (case l1 => k_is)
    (case c1 => k_is)
    (case k1 => k_is)
    (case a2 => k_is)
    (case l2 => k_is)
    (case c2 => k_is)
    (case k2 => k_is)
    (case a3 => k_is)
    (case l3 => k_is)
    (case c3 => k_is)
    (case k3 => k_is)
    (case a4 => k_is)
    (case l4 => k_is)
    (case c4 => k_is)
    (case k4 => k_is)
    (case a5 => k_is)
    (case l5 => k_is)
    (case c5 => k_is)
    (case k5 => k_is)
    (case a6 => k_is)
    (case l6 => k_is)
    (case c6 => k_is)
    (case k6 => k_is)
    (case a7 => k_is)
    (case l7 => k_is)
    (case c7 => k_is)
    (case k7 => k_is)
    (case a8 => k_is)
    (case l8 => k_is)
    (case c8 => k_is)
    (case k8 => k_is)
    (case a9 => k_is)
    (case l9 => k_is)
    (case c9 => k_is)
    (case k9 => k_is)
    (case a10 => k_is)
    (case l10 => k_is)
    (case c10 => k_is)
    (case k10 => k_is)
    (case a11 => k_is)
    (case l11 => k_is)
    (case c11 => k_is)
    (case k11 => k_is)
    (case a12 => k_is)
    (case l12 => k_is)
    (case c12 => k_is)
    (case k12 => k_is)
    (case a13 => k_is)
    (case l13 => k_is)
    (case c13 => k_is)
    (case k13 => k_is)
    (case al => k_is)
    (case ll => k_is)
    (case cl => k_is)
    (case lc => k_is)
    (case v11 => rfl)
    (case ch => kernel_rfl)
    (case nt => kernel_rfl)
    (case z0 => k_is)
    (case z1 => k_is)
    (case z2 => k_is)
    (case z3 => k_is)
    (case z4 => k_is)
    (case z5 => k_is)
    (case z6 => k_is)
    (case z7 => k_is)
    (case z8 => k_is)
    (case z9 => k_is)
    (case z10 => k_is)
    (case z11 => k_is)
    (case z12 => k_is)
    (case zV => k_is)
    (case aW => k_is)
    (case n0 => k_is)
    (case n1 => k_is)
    (case n2 => k_is)
    (case n3 => k_is)
    (case n4 => k_is)
    (case n5 => k_is)
    (case n6 => k_is)
    (case n7 => k_is)
    (case n8 => k_is)
    (case n9 => k_is)
    (case n10 => k_is)
    (case n11 => k_is)
    (case n12 => k_is)
    (case q0 => kernel_rfl)
    (case q1 => kernel_rfl)
    (case q2 => kernel_rfl)
    (case q3 => kernel_rfl)
    (case q4 => kernel_rfl)
    (case q5 => kernel_rfl)
    (case q6 => kernel_rfl)
    (case q7 => kernel_rfl)
    (case q8 => kernel_rfl)
    (case q9 => kernel_rfl)
    (case q10 => kernel_rfl)
    (case q11 => kernel_rfl)
    (case q12 => kernel_rfl)
    (case qV => kernel_rfl)
    (case eW => kernel_rfl)
    (case eA => kernel_rfl)
    (case x0 => k_is)
    (case x1 => k_is)
    (case x2 => k_is)
    (case x3 => k_is)
    (case x4 => k_is)
    (case x5 => k_is)
    (case x6 => k_is)
    (case x7 => k_is)
    (case y0 => kernel_rfl)
    (case y1 => k_is)
    (case y2 => k_is)
#print axioms PySem.Challenge.cw_paperrows_k03_forms_led_holds
