/-
  Slices of tagged values: one that is read, a row of the call's own, a copy.
-/
import Derived.Test.YtmobillfeldcjaaDoorObjs
import Derived.Test.YtmobillfeldcjaaDoorTlvMath
import Derived.Deep.AppendLies
import Derived.Laws.OwnMore
namespace Go.Proofs.YtmobillfeldcjaaDoor
open Go.RowKit

def itemV (x : Item) : Value := .agg #[.int .i64 x.1, .string x.2]
def itemO (x : Item) : Obj := .cells #[.int .i64 x.1, .string x.2] 49
def itemC (x : Item) : List Value := [.int .i64 x.1, .string x.2]
def itemsC (l : List Item) : List Value := l.flatMap itemC
/-- A slice that holds these tagged values. -/
def Tlvs (w : World) (A : Option Addr) (l : List Item) : Prop := ∀ i, i < l.length → ∃ a, A = some a ∧ w.cell? (a.add (i * 2)) = some (.int .i64 (itemAt l i).1) ∧ w.cell? ⟨(a.add (i * 2)).block, (a.add (i * 2)).off + 1, none⟩ = some (.string (itemAt l i).2)
theorem Tlvs.below {w w' : World} {A : Option Addr} {l : List Item} (h : Tlvs w A l) (hb : Below w.heap.size w w') : Tlvs w' A l := fun i hi => by
  obtain ⟨a, ha, hc, hd⟩ := h i hi
  refine ⟨a, ha, ?_, ?_⟩
  · rw [hb.cell (block_lt_of_cell hc)]; exact hc
  · rw [hb.cell (block_lt_of_cell hd)]; exact hd
theorem tlvs_nil (w : World) (A : Option Addr) : Tlvs w A [] := fun i hi => by simp at hi

theorem Tryd.infoTlv : (Tryd.prog.info? 49).map (fun i => (i.zero, i.size, i.bytes)) = some (some (.agg #[.int .i64 0, .string ⟨#[]⟩]), 2, 24) := by kernel_rfl
theorem itemsC_length (l : List Item) : (itemsC l).length = l.length * 2 := by
  induction l with
  | nil => rfl
  | cons x r ih => simp only [itemsC, List.flatMap_cons, List.length_append, List.length_cons, itemC, List.length_nil] at *; omega
theorem itemsC_snoc (l : List Item) (x : Item) : itemsC (l ++ [x]) = itemsC l ++ itemC x := by simp [itemsC]
theorem itemsC_at : ∀ (l : List Item) (i : Nat), i < l.length → (itemsC l)[i * 2]? = some (.int .i64 (itemAt l i).1) ∧ (itemsC l)[i * 2 + 1]? = some (.string (itemAt l i).2)
  | [], i, h => by simp at h
  | x :: r, 0, _ => ⟨rfl, rfl⟩
  | x :: r, i + 1, h => by
    have ih := itemsC_at r i (by simpa using h)
    have e : itemsC (x :: r) = .int .i64 x.1 :: .string x.2 :: itemsC r := rfl
    have e2 : itemAt (x :: r) (i + 1) = itemAt r i := by simp [itemAt, List.getD]
    rw [e, e2, show (i + 1) * 2 = i * 2 + 1 + 1 by omega]
    simpa using ih
/-- What a row of the call's own holds, as a slice that is read. -/
theorem tlvs_own {w : World} {base n : Nat} {v : Value} {l : List Item} (h : w.ownsRow base 49 2 v n (itemsC l)) (hn : n = l.length) : ∃ A cap, v = .slice A l.length cap ∧ Tlvs w A l := by
  subst hn
  rcases h.2 with ⟨hv, h0⟩ | ⟨g, cap, cur, hv, _⟩
  · have : l = [] := List.eq_nil_of_length_eq_zero h0
    subst this
    exact ⟨none, 0, hv, tlvs_nil _ _⟩
  · refine ⟨some ⟨g, 0, none⟩, cap, hv, fun i hi => ⟨_, rfl, ?_⟩⟩
    subst hv
    have e1 : (⟨g, 0, none⟩ : Addr).add (i * 2) = ⟨g, i * 2, none⟩ := by rw [Addr.add_lit, Nat.zero_add]
    rw [e1]
    have hc := itemsC_at l i hi
    exact ⟨(h.cellAt (i * 2) (by omega)).trans hc.1, (h.cellAt (i * 2 + 1) (by omega)).trans hc.2⟩
theorem owns_below {w w' : World} {base e size n : Nat} {v : Value} {xs : List Value} (h : w.ownsRow base e size v n xs) (hb : Below w.heap.size w w') : w'.ownsRow base e size v n xs := by
  refine ⟨h.1, ?_⟩
  rcases h.2 with h1 | ⟨g', cap, cur, h1, h2, h3, h4⟩
  · exact .inl h1
  · exact .inr ⟨g', cap, cur, h1, h2, obj_below h3 hb, h4⟩
/-- A slice's cells, one behind the other. -/
theorem tlvs_news {w : World} {a : Addr} {l : List Item} (h : Tlvs w (some a) l) : ∀ j u, (itemsC l)[j]? = some u → w.cell? (a.add j) = some u := by
  intro j u hu
  have hj := (List.getElem?_eq_some_iff.1 hu).1
  rw [itemsC_length] at hj
  obtain ⟨a', ha, hc, hd⟩ := h (j / 2) (by omega)
  injection ha with ha
  subst ha
  have hat := itemsC_at l (j / 2) (by omega)
  rcases Nat.mod_two_eq_zero_or_one j with hm | hm
  · have e : j / 2 * 2 = j := by omega
    rw [e] at hc hat
    rw [hc, ← hat.1, hu]
  · have e : j / 2 * 2 + 1 = j := by omega
    rw [e] at hat
    rw [hat.2] at hu
    rw [← hu, ← hd]
    congr 1
    have e3 : j = j / 2 * 2 + 1 := by omega
    generalize j / 2 * 2 = q at *
    subst e3
    unfold Addr.add
    by_cases hq : q = 0
    · subst hq; simp
    · simp [hq]; omega
theorem items_one (l : List Item) : ∀ u ∈ itemsC l, u.oneCell' = true := by
  intro u hu
  simp only [itemsC, List.mem_flatMap, itemC] at hu
  obtain ⟨x, _, hx⟩ := hu
  simp at hx
  rcases hx with rfl | rfl <;> rfl
/-- A copy of a slice, in a row of the call's own. -/
theorem tlvs_copy {w : World} {base g c n : Nat} {l : List Item} (h : w.ownsRow base 49 2 (.slice (some ⟨g, 0, none⟩) n c) n (itemsC l)) (hn : n = l.length) : Tlvs w (some ⟨g, 0, none⟩) l := by
  obtain ⟨A, cap, hv, ht⟩ := tlvs_own h hn
  injection hv with h1 h2 h3
  subst h1
  exact ht

/-- 'append([]api.Tlv{}, l...)': a slice of the call's own that holds the same, also where l is of none. -/
theorem wpList_copy_tlvs {ops : Array Oper} {rest : List Oper} {o : Oper} {a : Act} {Q : Exit → Act → World → Prop} (hgd : o.guard = none) (s x : Operand)
    (ho : o.op = .call { callee := .builtin .append, args := #[s, x], argTypes := #[37, 37] }) (W : World) (hs : a.eval s = .slice (some ⟨W.heap.size, 0, none⟩) 0 0)
    (A : Option Addr) (c len : Nat) (hx : a.eval x = .slice A len c) (l : List Item) (hlen : l.length = len) (hT : Tlvs W A l) (hl : len ≤ 5000000)
    (h : ∀ A' c' w', Tlvs w' A' l → Below W.heap.size W w' → wpList Tryd.prog ops Q rest (a.put o.dst (.slice A' len c')) w') : wpList Tryd.prog ops Q (o :: rest) a (W.alloc (.cells #[] 49)) := by
  obtain ⟨i0, hi, hz0, hz1, hz2⟩ := info_parts Tryd.infoTlv
  by_cases h0 : len = 0
  · subst h0
    have hnil : l = [] := List.eq_nil_of_length_eq_zero hlen
    subst hnil
    refine wpList_plain hgd fun K hK => ?_
    have hr : (Builtin.append_ #[37, 37] o.type #[.slice (some ⟨W.heap.size, 0, none⟩) 0 0, .slice A 0 c]).run Tryd.prog (W.alloc (.cells #[] 49)) = .ok (.slice (some ⟨W.heap.size, 0, none⟩) 0 0) (W.alloc (.cells #[] 49)) := by
      cases A <;> simp [Builtin.append_, run_underlying Tryd.underlying37, sizeOf, typeInfo, hi, Builtin.lenOf, Builtin.firstCells, storeCells, loadCells, loadCellsFrom]
    unfold Oper.wp execOp
    simp only [ho, resolve, invoke, builtin, Sem.run_bind, Sem.run_pure, Result.andThen_ok, List.map_toArray, List.map_cons, List.map_nil, hs, hx, hr]
    exact hK _ _ (h _ _ _ (tlvs_nil _ _) (below_al _ _))
  · obtain ⟨a', rfl, _⟩ := hT 0 (by omega)
    have hown : (W.alloc (.cells #[] 49)).ownsRow W.heap.size 49 2 (.slice (some ⟨W.heap.size, 0, none⟩) 0 0) 0 [] := World.ownsRow_lit W #[] 0 (Nat.le_refl _) (by unfold maxLen; omega) rfl
    refine wpList_append_lies _ hgd s x _ ho W.heap.size 49 i0 _ 2 24 Tryd.underlying37 hi hz0 hz1 hz2 rfl (by omega) (.slice (some ⟨W.heap.size, 0, none⟩) 0 0) 0 [] hs hown a' len c (itemsC l) hx (by rw [itemsC_length, hlen]) (tlvs_news (hT.below (below_al W (.cells #[] 49)))) (items_one l) (by omega) (by unfold maxLen; omega) (by omega) (by simp) (W.heap.size + 1) (by simp) ?_
    intro g' cap' w2 hown2 hgrow hat hlt2
    rw [Nat.zero_add] at hown2 ⊢
    exact h _ _ _ (tlvs_copy (by simpa using hown2) hlen.symm) ((below_al W _).grown hgrow (by simp) (by intro q hq; simp [Value.ownBlock] at hq; omega))

end Go.Proofs.YtmobillfeldcjaaDoor
