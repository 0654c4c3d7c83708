/-
  Laws on regions that draw their order and call: a call that is the only one that may come up is met by its contract; what is known of the world is shown anew behind it.
-/
import Derived.Test.YtelbndhdgnmfjaaRegTake
import Derived.Below
import Derived.Laws.Rows
namespace Go.Proofs.Ytelbndhdgnmfjaa
open Go.RowKit

section
variable {P : Program} {ops : Array Oper} {Q : Exit → Act → World → Prop} {md : Region.Mode} {S : World → Prop}

/-- An operation that enters a function, by the function's contract. -/
theorem wp_enters {o : Oper} {a : Act} {w : World} {K : Act → World → Prop} {v : Value} {T : World → Prop} (f : FuncId) (args : Array Value)
    (hc : Calls P f args w fun e w' => e = .returned v ∧ T w') (hy : (execOp a.eval o).run P w = .ok (.enter f args) w) (h : ∀ w', T w' → K (a.put o.dst v) w') : Oper.wp P o a w K Q := by
  unfold Oper.wp
  rw [hy]
  refine Calls.mono hc fun e w' ⟨he, hT⟩ => ?_
  subst he
  exact h w' hT
/-- A call that is the only one that may come up. -/
theorem only_call {i : Nat} {oi : Oper} {v : Value} {fuel : Nat} {listed : Array Bool} {a : Act} {w : World} (f : FuncId) (args : Array Value) (hi : ops.toList[i]? = some oi) (hr : Region.ready md ops listed = [i])
    (hw : Region.wanted oi (yielded ops a.tmps) = true) (hc : Calls P f args w fun e w' => e = .returned v ∧ S w') (hy : (execOp a.eval oi).run P w = .ok (.enter f args) w)
    (h : ∀ w', S w' → wpAnyH P md ops Q S fuel (listed.setIfInBounds i true) (a.put oi.dst v) w') : wpAnyH P md ops Q S (fuel + 1) listed a w :=
  only hi hr hw fun _ hK => wp_enters f args hc hy fun w' hS => hK.out _ _ hS (h w' hS)

/-- One of those that may come up: a call, by its contract. -/
theorem arm_call {i : Nat} {oi : Oper} {v : Value} {T : World → Prop} {fuel : Nat} {listed : Array Bool} {a : Act} {w : World} {rs : List Nat} (f : FuncId) (args : Array Value) (hi : ops.toList[i]? = some oi)
    (hw : Region.wanted oi (yielded ops a.tmps) = true) (hc : Calls P f args w fun e w' => e = .returned v ∧ T w') (hy : (execOp a.eval oi).run P w = .ok (.enter f args) w)
    (h : ∀ w', T w' → S w' ∧ wpAnyH P md ops Q S fuel (listed.setIfInBounds i true) (a.put oi.dst v) w') (hs : AllReadyH P md ops Q S fuel listed a w rs) : AllReadyH P md ops Q S fuel listed a w (i :: rs) := by
  refine AllReadyH.cons (at_list hi) (fun K hK => ?_) hs
  rw [if_pos hw]
  exact wp_enters f args hc hy fun w' hT => hK.out _ _ (h w' hT).1 fun _ => (h w' hT).2
/-- One of those that may come up: a new block. -/
theorem arm_alloc {i : Nat} {oi : Oper} {fuel : Nat} {listed : Array Bool} {a : Act} {w : World} {rs : List Nat} (O : Obj) (hi : ops.toList[i]? = some oi)
    (hw : Region.wanted oi (yielded ops a.tmps) = true) (hy : (execOp a.eval oi).run P w = .ok (.value (.pointer (some ⟨w.heap.size, 0, none⟩))) (w.alloc O))
    (h : ∀ p w', Below w.heap.size w w' → w'.heap[p]? = some O → w.heap.size ≤ p → S w' ∧ wpAnyH P md ops Q S fuel (listed.setIfInBounds i true) (a.put oi.dst (.pointer (some ⟨p, 0, none⟩))) w')
    (hs : AllReadyH P md ops Q S fuel listed a w rs) : AllReadyH P md ops Q S fuel listed a w (i :: rs) := by
  refine AllReadyH.cons (at_list hi) (fun K hK => ?_) hs
  rw [if_pos hw]
  unfold Oper.wp
  rw [hy]
  have hh := h w.heap.size (w.alloc O) ((Below.refl _ _).alloc (Nat.le_refl _) O) (heap_alloc_new w O) (Nat.le_refl _)
  exact hK.out _ _ hh.1 fun _ => hh.2
/-- An operation that enters a function, by a contract whose answer is told by the world behind it. -/
theorem wp_enters_some {o : Oper} {a : Act} {w : World} {K : Act → World → Prop} {T : Value → World → Prop} (f : FuncId) (args : Array Value)
    (hc : Calls P f args w fun e w' => ∃ v, e = .returned v ∧ T v w') (hy : (execOp a.eval o).run P w = .ok (.enter f args) w) (h : ∀ v w', T v w' → K (a.put o.dst v) w') : Oper.wp P o a w K Q := by
  unfold Oper.wp
  rw [hy]
  refine Calls.mono hc fun e w' ⟨v, he, hT⟩ => ?_
  subst he
  exact h v w' hT
theorem only_some {i : Nat} {oi : Oper} {T : Value → World → Prop} {fuel : Nat} {listed : Array Bool} {a : Act} {w : World} (f : FuncId) (args : Array Value) (hi : ops.toList[i]? = some oi) (hr : Region.ready md ops listed = [i])
    (hw : Region.wanted oi (yielded ops a.tmps) = true) (hc : Calls P f args w fun e w' => ∃ v, e = .returned v ∧ T v w') (hy : (execOp a.eval oi).run P w = .ok (.enter f args) w)
    (h : ∀ v w', T v w' → S w' ∧ wpAnyH P md ops Q S fuel (listed.setIfInBounds i true) (a.put oi.dst v) w') : wpAnyH P md ops Q S (fuel + 1) listed a w :=
  only hi hr hw fun _ hK => wp_enters_some f args hc hy fun v w' hT => hK.out _ _ (h v w' hT).1 (h v w' hT).2
theorem arm_some {i : Nat} {oi : Oper} {T : Value → World → Prop} {fuel : Nat} {listed : Array Bool} {a : Act} {w : World} {rs : List Nat} (f : FuncId) (args : Array Value) (hi : ops.toList[i]? = some oi)
    (hw : Region.wanted oi (yielded ops a.tmps) = true) (hc : Calls P f args w fun e w' => ∃ v, e = .returned v ∧ T v w') (hy : (execOp a.eval oi).run P w = .ok (.enter f args) w)
    (h : ∀ v w', T v w' → S w' ∧ wpAnyH P md ops Q S fuel (listed.setIfInBounds i true) (a.put oi.dst v) w') (hs : AllReadyH P md ops Q S fuel listed a w rs) : AllReadyH P md ops Q S fuel listed a w (i :: rs) := by
  refine AllReadyH.cons (at_list hi) (fun K hK => ?_) hs
  rw [if_pos hw]
  exact wp_enters_some f args hc hy fun v w' hT => hK.out _ _ (h v w' hT).1 fun _ => (h v w' hT).2
/-- One of those that may come up: a new row, as a slice. -/
theorem arm_slice {i : Nat} {oi : Oper} {fuel : Nat} {listed : Array Bool} {a : Act} {w : World} {rs : List Nat} (O : Obj) (n : Nat) (hi : ops.toList[i]? = some oi)
    (hw : Region.wanted oi (yielded ops a.tmps) = true) (hy : (execOp a.eval oi).run P w = .ok (.value (.slice (some ⟨w.heap.size, 0, none⟩) n n)) (w.alloc O))
    (h : ∀ p w', Below w.heap.size w w' → w'.heap[p]? = some O → w.heap.size ≤ p → S w' ∧ wpAnyH P md ops Q S fuel (listed.setIfInBounds i true) (a.put oi.dst (.slice (some ⟨p, 0, none⟩) n n)) w')
    (hs : AllReadyH P md ops Q S fuel listed a w rs) : AllReadyH P md ops Q S fuel listed a w (i :: rs) := by
  refine AllReadyH.cons (at_list hi) (fun K hK => ?_) hs
  rw [if_pos hw]
  unfold Oper.wp
  rw [hy]
  have hh := h w.heap.size (w.alloc O) ((Below.refl _ _).alloc (Nat.le_refl _) O) (heap_alloc_new w O) (Nat.le_refl _)
  exact hK.out _ _ hh.1 fun _ => hh.2
end
end Go.Proofs.Ytelbndhdgnmfjaa
