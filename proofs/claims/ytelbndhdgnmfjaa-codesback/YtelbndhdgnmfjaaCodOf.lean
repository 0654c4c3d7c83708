/-
  Slices of pairs of texts: one that is read, a row of the call's own, a copy, one behind another.
-/
import Derived.Test.YtelbndhdgnmfjaaObjs
import Derived.Test.YtelbndhdgnmfjaaCodMath
import Derived.Deep.AppendLies
import Derived.Laws.OwnMore
namespace Go.Proofs.Ytelbndhdgnmfjaa
open Go.RowKit

def duoC (x : Duo) : List Value := [.string x.1, .string x.2]
def duosC (l : List Duo) : List Value := l.flatMap duoC
/-- A slice that holds these pairs. -/
def Prs (w : World) (A : Option Addr) (l : List Duo) : Prop := ∀ i, i < l.length → ∃ a, A = some a ∧ w.cell? (a.add (i * 2)) = some (.string (duoAt l i).1) ∧ w.cell? ⟨(a.add (i * 2)).block, (a.add (i * 2)).off + 1, none⟩ = some (.string (duoAt l i).2)
theorem Prs.below {w w' : World} {A : Option Addr} {l : List Duo} (h : Prs w A l) (hb : Below w.heap.size w w') : Prs w' A l := fun i hi => by
  obtain ⟨a, ha, hc, hd⟩ := h i hi
  refine ⟨a, ha, ?_, ?_⟩
  · rw [hb.cell (block_lt_of_cell hc)]; exact hc
  · rw [hb.cell (block_lt_of_cell hd)]; exact hd
theorem prs_nil (w : World) (A : Option Addr) : Prs w A [] := fun i hi => by simp at hi
theorem Prs.at_ {w : World} {A : Option Addr} {l : List Duo} (h : Prs w A l) {i : Nat} (hi : i < l.length) : ∃ a s t, A = some a ∧ duoAt l i = (s, t) ∧ w.cell? (a.add (i * 2)) = some (.string s) ∧ w.cell? ⟨(a.add (i * 2)).block, (a.add (i * 2)).off + 1, none⟩ = some (.string t) := by
  obtain ⟨a, ha, hc, hd⟩ := h i hi
  exact ⟨a, _, _, ha, rfl, hc, hd⟩

theorem Try.infoPair : (Try.prog.info? 40).map (fun i => (i.zero, i.size, i.bytes)) = some (some (.agg #[.string ⟨#[]⟩, .string ⟨#[]⟩]), 2, 32) := by kernel_rfl
theorem duosC_length (l : List Duo) : (duosC l).length = l.length * 2 := by
  induction l with
  | nil => rfl
  | cons x r ih => simp only [duosC, List.flatMap_cons, List.length_append, List.length_cons, duoC, List.length_nil] at *; omega
theorem duosC_snoc (l : List Duo) (x : Duo) : duosC (l ++ [x]) = duosC l ++ duoC x := by simp [duosC]
theorem duosC_app (l m : List Duo) : duosC (l ++ m) = duosC l ++ duosC m := by simp [duosC]
theorem duosC_at : ∀ (l : List Duo) (i : Nat), i < l.length → (duosC l)[i * 2]? = some (.string (duoAt l i).1) ∧ (duosC l)[i * 2 + 1]? = some (.string (duoAt l i).2)
  | [], i, h => by simp at h
  | x :: r, 0, _ => ⟨rfl, rfl⟩
  | x :: r, i + 1, h => by
    have ih := duosC_at r i (by simpa using h)
    have e : duosC (x :: r) = .string x.1 :: .string x.2 :: duosC r := rfl
    have e2 : duoAt (x :: r) (i + 1) = duoAt r i := by simp [duoAt, List.getD]
    rw [e, e2, show (i + 1) * 2 = i * 2 + 1 + 1 by omega]
    simpa using ih
/-- What a row of the call's own holds, as a slice that is read. -/
theorem prs_own {w : World} {base n : Nat} {v : Value} {l : List Duo} (h : w.ownsRow base 40 2 v n (duosC l)) (hn : n = l.length) : ∃ A cap, v = .slice A l.length cap ∧ Prs w A l := by
  subst hn
  rcases h.2 with ⟨hv, h0⟩ | ⟨g, cap, cur, hv, _⟩
  · have : l = [] := List.eq_nil_of_length_eq_zero h0
    subst this
    exact ⟨none, 0, hv, prs_nil _ _⟩
  · refine ⟨some ⟨g, 0, none⟩, cap, hv, fun i hi => ⟨_, rfl, ?_⟩⟩
    subst hv
    have e1 : (⟨g, 0, none⟩ : Addr).add (i * 2) = ⟨g, i * 2, none⟩ := by rw [Addr.add_lit, Nat.zero_add]
    rw [e1]
    have hc := duosC_at l i hi
    exact ⟨(h.cellAt (i * 2) (by omega)).trans hc.1, (h.cellAt (i * 2 + 1) (by omega)).trans hc.2⟩
theorem prs_row {w : World} {base n cap : Nat} {A : Option Addr} {l : List Duo} (h : w.ownsRow base 40 2 (.slice A n cap) n (duosC l)) (hn : n = l.length) : Prs w A l := by
  obtain ⟨A', cap', hv, ht⟩ := prs_own h hn
  injection hv with h1 h2 h3
  subst h1
  exact ht
theorem pown_below {w w' : World} {base e size n : Nat} {v : Value} {xs : List Value} (h : w.ownsRow base e size v n xs) (hb : Below w.heap.size w w') : w'.ownsRow base e size v n xs := by
  refine ⟨h.1, ?_⟩
  rcases h.2 with h1 | ⟨g', cap, cur, h1, h2, h3, h4⟩
  · exact .inl h1
  · exact .inr ⟨g', cap, cur, h1, h2, obj_below h3 hb, h4⟩
/-- A slice's cells, one behind the other. -/
theorem prs_news {w : World} {a : Addr} {l : List Duo} (h : Prs w (some a) l) : ∀ j u, (duosC l)[j]? = some u → w.cell? (a.add j) = some u := by
  intro j u hu
  have hj := (List.getElem?_eq_some_iff.1 hu).1
  rw [duosC_length] at hj
  obtain ⟨a', ha, hc, hd⟩ := h (j / 2) (by omega)
  injection ha with ha
  subst ha
  have hat := duosC_at l (j / 2) (by omega)
  rcases Nat.mod_two_eq_zero_or_one j with hm | hm
  · have e : j / 2 * 2 = j := by omega
    rw [e] at hc hat
    rw [hc, ← hat.1, hu]
  · have e : j / 2 * 2 + 1 = j := by omega
    rw [e] at hat
    rw [hat.2] at hu
    rw [← hu, ← hd]
    congr 1
    have e3 : j = j / 2 * 2 + 1 := by omega
    generalize j / 2 * 2 = q at *
    subst e3
    unfold Addr.add
    by_cases hq : q = 0
    · subst hq; simp
    · simp [hq]; omega
theorem duos_one (l : List Duo) : ∀ u ∈ duosC l, u.oneCell' = true := by
  intro u hu
  simp only [duosC, List.mem_flatMap, duoC] at hu
  obtain ⟨x, _, hx⟩ := hu
  simp at hx
  rcases hx with rfl | rfl <;> rfl
/-- A part of a slice. -/
theorem Prs.head {w : World} {A : Option Addr} {l : List Duo} (h : Prs w A l) (k : Nat) : Prs w A (l.take k) := fun i hi => by
  rw [List.length_take] at hi
  rw [duoAt_take (by omega)]
  exact h i (by omega)
theorem duoAt_drop (l : List Duo) (k i : Nat) : duoAt (l.drop k) i = duoAt l (k + i) := by simp [duoAt, List.getD]
theorem add_two (a : Addr) (k i : Nat) : (a.add (k * 2)).add (i * 2) = a.add ((k + i) * 2) := by
  unfold Addr.add
  by_cases hk : k * 2 = 0
  · have : k = 0 := by omega
    subst this; simp
  · by_cases hi : i * 2 = 0
    · have : i = 0 := by omega
      subst this; simp
    · have h3 : ¬ (k + i) * 2 = 0 := by omega
      simp only [hk, hi, h3, if_false]
      congr 1
      omega
theorem Prs.tail {w : World} {a : Addr} {l : List Duo} (h : Prs w (some a) l) (k : Nat) : Prs w (some (a.add (k * 2))) (l.drop k) := fun i hi => by
  rw [List.length_drop] at hi
  obtain ⟨a', ha, hc, hd⟩ := h (k + i) (by omega)
  injection ha with ha
  subst ha
  refine ⟨_, rfl, ?_⟩
  rw [duoAt_drop, add_two]
  exact ⟨hc, hd⟩

/-- 'append([]api.Pair{}, l...)': a row of the call's own that holds the same, also where l is of none. -/
theorem wpList_copy_prs {ops : Array Oper} {rest : List Oper} {o : Oper} {a : Act} {Q : Exit → Act → World → Prop} (hgd : o.guard = none) (s x : Operand)
    (ho : o.op = .call { callee := .builtin .append, args := #[s, x], argTypes := #[22, 22] }) (W : World) (hs : a.eval s = .slice (some ⟨W.heap.size, 0, none⟩) 0 0)
    (A : Option Addr) (c len : Nat) (hx : a.eval x = .slice A len c) (l : List Duo) (hlen : l.length = len) (hT : Prs W A l) (hl : len ≤ 5000000)
    (h : ∀ A' c' w', w'.ownsRow W.heap.size 40 2 (.slice A' len c') len (duosC l) → Below W.heap.size W w' → wpList Try.prog ops Q rest (a.put o.dst (.slice A' len c')) w') : wpList Try.prog ops Q (o :: rest) a (W.alloc (.cells #[] 40)) := by
  obtain ⟨i0, hi, hz0, hz1, hz2⟩ := info_parts Try.infoPair
  have hown : (W.alloc (.cells #[] 40)).ownsRow W.heap.size 40 2 (.slice (some ⟨W.heap.size, 0, none⟩) 0 0) 0 [] := World.ownsRow_lit W #[] 0 (Nat.le_refl _) (by unfold maxLen; omega) rfl
  by_cases h0 : len = 0
  · subst h0
    have hnil : l = [] := List.eq_nil_of_length_eq_zero hlen
    subst hnil
    refine wpList_plain hgd fun K hK => ?_
    have hr : (Builtin.append_ #[22, 22] o.type #[.slice (some ⟨W.heap.size, 0, none⟩) 0 0, .slice A 0 c]).run Try.prog (W.alloc (.cells #[] 40)) = .ok (.slice (some ⟨W.heap.size, 0, none⟩) 0 0) (W.alloc (.cells #[] 40)) := by
      cases A <;> simp [Builtin.append_, run_underlying Try.underlying22, sizeOf, typeInfo, hi, Builtin.lenOf, Builtin.firstCells, storeCells, loadCells, loadCellsFrom]
    unfold Oper.wp execOp
    simp only [ho, resolve, invoke, builtin, Sem.run_bind, Sem.run_pure, Result.andThen_ok, List.map_toArray, List.map_cons, List.map_nil, hs, hx, hr]
    exact hK _ _ (h _ _ _ hown (below_al _ _))
  · obtain ⟨a', rfl, _⟩ := hT 0 (by omega)
    refine wpList_append_lies _ hgd s x _ ho W.heap.size 40 i0 _ 2 32 Try.underlying22 hi hz0 hz1 hz2 rfl (by omega) (.slice (some ⟨W.heap.size, 0, none⟩) 0 0) 0 [] hs hown a' len c (duosC l) hx (by rw [duosC_length, hlen]) (prs_news (hT.below (below_al W (.cells #[] 40)))) (duos_one l) (by omega) (by unfold maxLen; omega) (by omega) (by simp) (W.heap.size + 1) (by simp) ?_
    intro g' cap' w2 hown2 hgrow hat hlt2
    rw [Nat.zero_add] at hown2 ⊢
    exact h _ _ _ (by simpa using hown2) ((below_al W _).grown hgrow (by simp) (by intro q hq; simp [Value.ownBlock] at hq; omega))

/-- 'append(s, l...)', s in a row of the call's own, l of some or of none (but somewhere). -/
theorem wp_app_prs {o : Oper} {a : Act} {K : Act → World → Prop} {Q : Exit → Act → World → Prop} (s x : Operand)
    (ho : o.op = .call { callee := .builtin .append, args := #[s, x], argTypes := #[22, 22] }) (W : World) (base g c n : Nat) (hs : a.eval s = .slice (some ⟨g, 0, none⟩) n c) (l : List Duo)
    (hown : W.ownsRow base 40 2 (.slice (some ⟨g, 0, none⟩) n c) n (duosC l)) (b : Addr) (m cm : Nat) (hx : a.eval x = .slice (some b) m cm) (k : List Duo) (hm : k.length = m) (hT : Prs W (some b) k) (hl : n + m ≤ 5000000) (hb : base ≤ W.heap.size)
    (h : ∀ A' c' w', w'.ownsRow base 40 2 (.slice A' (n + m) c') (n + m) (duosC (l ++ k)) → Below base W w' → K (a.put o.dst (.slice A' (n + m) c')) w') : o.wp Try.prog a W K Q := by
  obtain ⟨i0, hi, hz0, hz1, hz2⟩ := info_parts Try.infoPair
  by_cases h0 : m = 0
  · subst h0
    have hnil : k = [] := List.eq_nil_of_length_eq_zero hm
    subst hnil
    obtain ⟨hw, hcap⟩ : (∃ cur, W.heap[g]? = some (.cells cur 40 (0, 0))) ∧ n ≤ c := by
      rcases hown.2 with ⟨h1, _⟩ | ⟨g', cap, cur, h1, _, h3, h4, _⟩
      · cases h1
      · injection h1 with h1 _ h2
        injection h1 with h1
        injection h1 with h1
        subst h1 h2
        exact ⟨⟨cur, h3⟩, h4⟩
    have hr : (Builtin.append_ #[22, 22] o.type #[.slice (some ⟨g, 0, none⟩) n c, .slice (some b) 0 cm]).run Try.prog W = .ok (.slice (some ⟨g, 0, none⟩) n c) W := by
      simp [Builtin.append_, run_underlying Try.underlying22, sizeOf, typeInfo, hi, Builtin.lenOf, Builtin.firstCells, storeCells, loadCells, loadCellsFrom, hcap]
    unfold Oper.wp execOp
    simp only [ho, resolve, invoke, builtin, Sem.run_bind, Sem.run_pure, Result.andThen_ok, List.map_toArray, List.map_cons, List.map_nil, hs, hx, hr]
    exact h _ _ _ (by simpa using hown) ⟨rfl, rfl, rfl, Nat.le_refl _, fun _ _ => rfl⟩
  · refine wp_append_lies _ s x _ ho base 40 i0 _ 2 32 Try.underlying22 hi hz0 hz1 hz2 rfl (by omega) (.slice (some ⟨g, 0, none⟩) n c) n (duosC l) hs hown b m cm (duosC k) hx (by rw [duosC_length, hm]) (prs_news hT) (duos_one k) (by omega) (by unfold maxLen; omega) (by omega) hb W.heap.size rfl ?_
    intro g' cap' w2 hown2 hgrow hat hlt2
    exact h _ _ _ (by rw [duosC_app]; exact hown2) ((Below.refl _ _).grown hgrow hb (fun q hq => (hown.lt q hq).1))

end Go.Proofs.Ytelbndhdgnmfjaa
