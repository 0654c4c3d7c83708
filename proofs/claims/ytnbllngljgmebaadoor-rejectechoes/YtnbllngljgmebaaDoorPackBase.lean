/-
  Texts of one family, laid together: RegTake, RegLate, RegHeld, Byt, Objs, Ints, Strs.
-/
import Derived.OrdersHeld
import Derived.RegionTactic
import Derived.Deep.RegionHeld3
import Derived.Below
import Derived.Laws.Rows
import Derived.Test.YtnbllngljgmebaaDoorRows
import Derived.WalkKit
import Derived.WalkSpells
import Derived.WalkLawsBesides
import Derived.Lib.Hide
import Derived.Deep.Draws
import Derived.Deep.AppendLies
import Derived.Laws.OwnMore
import Derived.IntWalk
import Derived.Laws.BitsLemmas

/-
  A law on regions that draw their order: an operation that gives one value in every world that meets S, and leaves that world as it is, be it plain or A CALL, may be taken first.
  Conditions: nobody else in the region touches its temporaries ahead of it.
-/
namespace Go.Proofs.YtnbllngljgmebaaDoor

section
variable {P : Program} {ops : Array Oper} {Q : Exit → Act → World → Prop} {md : Region.Mode} {S : World → Prop}

/-- r is v, at once or out of a call, and the world is w again. -/
def Still (P : Program) (r : Result Next) (v : Value) (w : World) : Prop :=
  r = .ok (.value v) w ∨ ∃ f args, r = .ok (.enter f args) w ∧ Calls P f args w fun e w' => e = .returned v ∧ w = w'
def Gives (P : Program) (ops : Array Oper) (S : World → Prop) (o : Oper) (v : Value) (a : Act) : Prop :=
  (Region.wanted o (yielded ops a.tmps) = true ∧ ∀ w, S w → Still P ((execOp a.eval o).run P w) v w) ∨ (Region.wanted o (yielded ops a.tmps) = false ∧ v = undef)

theorem Gives.at_ {i : Nat} {o : Oper} {v : Value} {a : Act} (hi : ops[i]? = some o) (hy : Gives P ops S o v a) {K : Act → World → Prop} {w : World} (hS : S w)
    (h : K (a.put o.dst v) w) : wpOp P ops Q i K a w := by
  rcases hy with hy | ⟨hy, rfl⟩
  case inr =>
    unfold wpOp
    simp only [hi, hy, Bool.false_eq_true, if_false]
    exact h
  have hr := hy.2 w hS
  unfold wpOp
  simp only [hi, hy.1, if_true, Oper.wp]
  refine .inl ?_
  rcases hr with hr | ⟨f, args, hr, hc⟩
  · rw [hr]; exact h
  · rw [hr]
    refine Calls.mono hc fun e w' ⟨he, hw⟩ => ?_
    subst he hw
    exact h
theorem Gives.same {o : Oper} {v : Value} {a b : Act} (hy : Gives P ops S o v a) (he : execOp b.eval o = execOp a.eval o)
    (hw : Region.wanted o (yielded ops b.tmps) = Region.wanted o (yielded ops a.tmps)) : Gives P ops S o v b := by
  unfold Gives
  rw [he, hw]
  exact hy

/-- Another operation ahead of it: it gives the same value behind that one, and that one does the same behind it. -/
theorem Gives.past {j : Nat} {oi oj : Oper} {v : Value} (hj : ops[j]? = some oj) (hap : oi.apart ops oj = true) (hsi : ∀ cs b, oi.op ≠ .select cs b) (hsj : ∀ cs b, oj.op ≠ .select cs b)
    (hQ : ∀ c a w, Q (.panic c) (a.put oi.dst v) w → Q (.panic c) a w) {K : Act → World → Prop} {a : Act} {w : World} (hy : Gives P ops S oi v a)
    (h : wpOp P ops Q j K (a.put oi.dst v) w) : wpOp P ops Q j (fun b w' => Gives P ops S oi v b ∧ K (b.put oi.dst v) w') a w := by
  obtain ⟨h1, h2, h3⟩ := Oper.apart_spec hap
  have on : ∀ (b : Act), Gives P ops S oi v b → ∀ u, Gives P ops S oi v (b.put oj.dst u) := fun b hb u => hb.same (execOp_put oi hsi b oj.dst u h3) (wanted_put oi b oj.dst u h3)
  have swap : ∀ (b : Act) u, K ((b.put oi.dst v).put oj.dst u) = K ((b.put oj.dst u).put oi.dst v) := fun b u => by rw [Act.put_comm b v u h2]
  unfold wpOp at h ⊢
  simp only [hj] at h ⊢
  rw [wanted_put oj a oi.dst v h1] at h
  cases hw : Region.wanted oj (yielded ops a.tmps)
  · simp only [hw, Bool.false_eq_true, if_false] at h ⊢
    exact ⟨on a hy _, by rw [← swap]; exact h⟩
  · simp only [hw, if_true] at h ⊢
    rcases h with h | ⟨ha, hl⟩
    · left
      unfold Oper.wp at h ⊢
      rw [execOp_put oj hsj a oi.dst v h1] at h
      cases hr : (execOp a.eval oj).run P w with
      | ok n w' =>
        rw [hr] at h
        cases n <;> simp only [Oper.upon] at h ⊢
        case value u => exact ⟨on a hy u, by rw [← swap]; exact h⟩
        case skip => exact ⟨on a hy _, by rw [← swap]; exact h⟩
        case defer d =>
          refine ⟨on { a with defers := d :: a.defers } (hy.same rfl rfl) _, ?_⟩
          rw [← swap, ← Act.put_defers]
          exact h
        case enter f args =>
          refine Calls.mono h fun e w'' he => ?_
          cases e with
          | returned u => exact ⟨on a hy u, by rw [← swap]; exact he⟩
          | panicked c => exact hQ _ _ _ he
          | outgrown => exact he
        case row r args => exact Rows.mono h fun u w'' he => ⟨on a hy u, by rw [← swap]; exact he⟩
      | halt x w' =>
        rw [hr] at h
        cases x <;> simp only [Oper.upon] at h ⊢
        case panic u => exact hQ _ _ _ h
    · right
      exact ⟨by unfold Oper.asks at *; rw [execOp_put oj hsj a oi.dst v h1] at ha; exact ha, hl⟩

theorem give_first {i : Nat} {oi : Oper} {v : Value} (hi : ops[i]? = some oi) (hsel : ∀ (j : Nat) (o : Oper) cs b, ops[j]? = some o → o.op ≠ .select cs b)
    (hQ : ∀ c a w, Q (.panic c) (a.put oi.dst v) w → Q (.panic c) a w) : ∀ (fuel : Nat) (listed : Array Bool) (a : Act) (w : World),
      (∀ j oj, ops[j]? = some oj → j ≠ i → listed.getD j true = false → (∀ e ∈ oj.after, Region.binds md e = true → e.on ≠ i) → oi.apart ops oj = true) →
      i ∈ Region.ready md ops listed → Gives P ops S oi v a → S w →
      wpAnyH P md ops Q S fuel (listed.setIfInBounds i true) (a.put oi.dst v) w → wpAnyH P md ops Q S (fuel + 1) listed a w
  | 0, listed, a, w, _, hr, hy, hS, H => by
    refine ⟨fun h => (by rw [h] at hr; cases hr), fun j hj => ?_⟩
    by_cases hji : j = i
    · subst hji; exact hy.at_ hi hS ⟨hS, H⟩
    · have := ready_mono hj hji
      rw [H.1] at this
      cases this
  | fuel + 1, listed, a, w, hfree, hr, hy, hS, H => by
    refine ⟨fun h => (by rw [h] at hr; cases hr), fun j hj => ?_⟩
    by_cases hji : j = i
    · subst hji; exact hy.at_ hi hS ⟨hS, H⟩
    · obtain ⟨hun, oj, hoj, hall⟩ := mem_ready.1 hj
      have hno : ∀ e ∈ oj.after, Region.binds md e = true → e.on ≠ i := by
        intro e he hb heq
        have g1 := hall e he hb
        have g0 := (mem_ready.1 hr).1
        rw [heq] at g1
        by_cases hs : i < listed.size
        · simp [hs] at g0 g1; rw [g0] at g1; cases g1
        · simp [Array.getElem?_eq_none (Nat.le_of_not_lt hs)] at g1
      have h2 := Gives.past hoj (hfree j oj hoj hji hun hno) (fun cs b => hsel i oi cs b hi) (fun cs b => hsel j oj cs b hoj) hQ hy (H.2 j (ready_mono hj hji))
      refine wpOp_mono (fun b w' hb => ⟨hb.2.1, give_first hi hsel hQ fuel (listed.setIfInBounds j true) b w' (fun k ok hk hki hu hn => ?_) (ready_mono hr (Ne.symm hji)) hb.1 hb.2.1 ?_⟩) h2
      · refine hfree k ok hk hki ?_ hn
        by_cases hjk : j = k
        · subst hjk; exact hun
        · rwa [getD_set_ne true hjk] at hu
      · rw [Array.setIfInBounds_comm _ _ hji]
        exact hb.2.2

/-- The move of a walk: number i is taken first. -/
theorem give {i : Nat} {oi : Oper} {v : Value} {fuel : Nat} {listed : Array Bool} {a : Act} {w : World} (hi : ops[i]? = some oi) (hs : Region.noSelect ops = true)
    (hf : Region.free md ops listed i = true) (hr : (Region.ready md ops listed).contains i = true) (hQ : ∀ c a w, Q (.panic c) (a.put oi.dst v) w → Q (.panic c) a w)
    (hy : Gives P ops S oi v a) (hS : S w) (h : wpAnyH P md ops Q S fuel (listed.setIfInBounds i true) (a.put oi.dst v) w) : wpAnyH P md ops Q S (fuel + 1) listed a w :=
  give_first hi (Region.noSelect_spec hs) hQ fuel listed a w (Region.free_spec hi hf) (by simpa using hr) hy hS h
theorem at_list {i : Nat} {o : Oper} (h : ops.toList[i]? = some o) : ops[i]? = some o := by simpa using h
/-- A plain operation, a call, taken first; the operation is looked up in the list. -/
theorem give_val {i : Nat} {oi : Oper} {v : Value} {fuel : Nat} {listed : Array Bool} {a : Act} {w : World} (hi : ops.toList[i]? = some oi) (hs : Region.noSelect ops = true)
    (hf : Region.free md ops listed i = true) (hr : (Region.ready md ops listed).contains i = true) (hQ : ∀ c a w, Q (.panic c) (a.put oi.dst v) w → Q (.panic c) a w)
    (hw : Region.wanted oi (yielded ops a.tmps) = true) (hy : ∀ w, S w → (execOp a.eval oi).run P w = .ok (.value v) w) (hS : S w)
    (h : wpAnyH P md ops Q S fuel (listed.setIfInBounds i true) (a.put oi.dst v) w) : wpAnyH P md ops Q S (fuel + 1) listed a w :=
  give (at_list hi) hs hf hr hQ (.inl ⟨hw, fun w hw => .inl (hy w hw)⟩) hS h
theorem give_call {i : Nat} {oi : Oper} {v : Value} {fuel : Nat} {listed : Array Bool} {a : Act} {w : World} (f : FuncId) (args : Array Value) (hi : ops.toList[i]? = some oi) (hs : Region.noSelect ops = true)
    (hf : Region.free md ops listed i = true) (hr : (Region.ready md ops listed).contains i = true) (hQ : ∀ c a w, Q (.panic c) (a.put oi.dst v) w → Q (.panic c) a w)
    (hw : Region.wanted oi (yielded ops a.tmps) = true) (hc : ∀ w, S w → Calls P f args w fun e w' => e = .returned v ∧ w = w') (hy : ∀ w, S w → (execOp a.eval oi).run P w = .ok (.enter f args) w) (hS : S w)
    (h : wpAnyH P md ops Q S fuel (listed.setIfInBounds i true) (a.put oi.dst v) w) : wpAnyH P md ops Q S (fuel + 1) listed a w :=
  give (at_list hi) hs hf hr hQ (.inl ⟨hw, fun w hw => .inr ⟨f, args, hy w hw, hc w hw⟩⟩) hS h
/-- An operation whose guard says no, taken first: it leaves nothing. -/
theorem give_skip {i : Nat} {oi : Oper} {fuel : Nat} {listed : Array Bool} {a : Act} {w : World} (hi : ops.toList[i]? = some oi) (hs : Region.noSelect ops = true)
    (hf : Region.free md ops listed i = true) (hr : (Region.ready md ops listed).contains i = true) (hQ : ∀ c a w, Q (.panic c) (a.put oi.dst undef) w → Q (.panic c) a w)
    (hw : Region.wanted oi (yielded ops a.tmps) = false) (hS : S w) (h : wpAnyH P md ops Q S fuel (listed.setIfInBounds i true) (a.put oi.dst undef) w) : wpAnyH P md ops Q S (fuel + 1) listed a w :=
  give (at_list hi) hs hf hr hQ (.inr ⟨hw, rfl⟩) hS h

/-- Number i is the only one that may come up: it is carried out, and S is shown anew. -/
theorem only {i : Nat} {oi : Oper} {fuel : Nat} {listed : Array Bool} {a : Act} {w : World} (hi : ops.toList[i]? = some oi) (hr : Region.ready md ops listed = [i])
    (hw : Region.wanted oi (yielded ops a.tmps) = true)
    (h : ∀ K : Act → World → Prop, Shut (∀ a' w', S w' → wpAnyH P md ops Q S fuel (listed.setIfInBounds i true) a' w' → K a' w') → Oper.wp P oi a w K Q) : wpAnyH P md ops Q S (fuel + 1) listed a w := by
  refine wpAnyH_ready hr (by simp) (AllReadyH.cons (at_list hi) (fun K hK => ?_) AllReadyH.nil)
  rw [if_pos hw]
  exact h K fun a' w' hS hW => hK a' w' hS fun _ => hW

/-- The same, in few words (their own proofs are found). -/
theorem gv (i : Nat) {oi : Oper} {v : Value} {fuel : Nat} {listed : Array Bool} {a : Act} {w : World} (hy : ∀ w, S w → (execOp a.eval oi).run P w = .ok (.value v) w) (hS : S w)
    (h : wpAnyH P md ops Q S fuel (listed.setIfInBounds i true) (a.put oi.dst v) w) (hi : ops.toList[i]? = some oi := by exact rfl) (hs : Region.noSelect ops = true := by kernel_rfl)
    (hf : Region.free md ops listed i = true := by kernel_rfl) (hr : (Region.ready md ops listed).contains i = true := by kernel_rfl) (hQ : ∀ c a w, Q (.panic c) (a.put oi.dst v) w → Q (.panic c) a w := by exact fun _ _ _ h => h)
    (hw : Region.wanted oi (yielded ops a.tmps) = true := by rfl) : wpAnyH P md ops Q S (fuel + 1) listed a w := give_val hi hs hf hr hQ hw hy hS h
/-- The next number behind the one that has come up last. -/
theorem gx {k : Nat} {oi : Oper} {v : Value} {fuel : Nat} {L : Array Bool} {a : Act} {w : World} (hy : ∀ w, S w → (execOp a.eval oi).run P w = .ok (.value v) w) (hS : S w)
    (h : wpAnyH P md ops Q S fuel ((L.setIfInBounds k true).setIfInBounds (k + 1) true) (a.put oi.dst v) w) (hi : ops.toList[k + 1]? = some oi := by exact rfl) (hs : Region.noSelect ops = true := by kernel_rfl)
    (hf : Region.free md ops (L.setIfInBounds k true) (k + 1) = true := by kernel_rfl) (hr : (Region.ready md ops (L.setIfInBounds k true)).contains (k + 1) = true := by kernel_rfl) (hQ : ∀ c a w, Q (.panic c) (a.put oi.dst v) w → Q (.panic c) a w := by exact fun _ _ _ h => h)
    (hw : Region.wanted oi (yielded ops a.tmps) = true := by rfl) : wpAnyH P md ops Q S (fuel + 1) (L.setIfInBounds k true) a w := give_val hi hs hf hr hQ hw hy hS h
theorem gs (i : Nat) {oi : Oper} {fuel : Nat} {listed : Array Bool} {a : Act} {w : World} (hS : S w) (h : wpAnyH P md ops Q S fuel (listed.setIfInBounds i true) (a.put oi.dst undef) w)
    (hi : ops.toList[i]? = some oi := by exact rfl) (hs : Region.noSelect ops = true := by kernel_rfl) (hf : Region.free md ops listed i = true := by kernel_rfl) (hr : (Region.ready md ops listed).contains i = true := by kernel_rfl)
    (hQ : ∀ c a w, Q (.panic c) (a.put oi.dst undef) w → Q (.panic c) a w := by exact fun _ _ _ h => h) (hw : Region.wanted oi (yielded ops a.tmps) = false := by rfl) : wpAnyH P md ops Q S (fuel + 1) listed a w := give_skip hi hs hf hr hQ hw hS h
/-- What is put stands there. -/
theorem puts : (∀ (a : Act) (d : Tmp) (v : Value), a.put (some d) v = { tmps := a.tmps.setIfInBounds d v, defers := a.defers }) ∧ (∀ (a : Act) (v : Value), a.put none v = a) ∧
    (∀ (l : List Value) (i : Nat) (x : Value), l.toArray.setIfInBounds i x = (l.set i x).toArray) ∧ (∀ (x : Value) (l : List Value) (y : Value), (x :: l).set 0 y = y :: l) ∧ (∀ (x : Value) (l : List Value) (n : Nat) (y : Value), (x :: l).set (n + 1) y = x :: l.set n y) :=
  ⟨fun _ _ _ => rfl, fun _ _ => rfl, fun _ _ _ => by simp, fun _ _ _ => rfl, fun _ _ _ _ => rfl⟩

end
end Go.Proofs.YtnbllngljgmebaaDoor

/-
  Laws on regions that draw their order and write near their end: till operation number s comes up the world meets T; an operation for which s waits, and which gives one value in every world that meets T, may be taken first.
  Conditions: nobody else in the region touches its temporaries ahead of it.
-/
namespace Go.Proofs.YtnbllngljgmebaaDoor

section
variable {P : Program} {ops : Array Oper} {Q : Exit → Act → World → Prop} {md : Region.Mode} {T : World → Prop} {s : Nat}

/-- Whatever order is picked from here on; behind every operation T holds, as long as number s has not come up. -/
def wpAnyL (P : Program) (md : Region.Mode) (ops : Array Oper) (Q : Exit → Act → World → Prop) (T : World → Prop) (s : Nat) : Nat → Array Bool → Act → World → Prop
  | 0, listed, a, w => Region.ready md ops listed = [] ∧ Q .normal a w
  | fuel + 1, listed, a, w =>
    (Region.ready md ops listed = [] → Q .normal a w) ∧
    ∀ i ∈ Region.ready md ops listed, wpOp P ops Q i (fun a' w' => ((listed.setIfInBounds i true).getD s true = false → T w') ∧ wpAnyL P md ops Q T s fuel (listed.setIfInBounds i true) a' w') a w

theorem wpAny_of_late : ∀ (fuel : Nat) (listed : Array Bool) (a : Act) (w : World), wpAnyL P md ops Q T s fuel listed a w → wpAny P md ops Q fuel listed a w
  | 0, _, _, _, h => h
  | fuel + 1, _, _, _, h => ⟨h.1, fun i hi => wpOp_mono (fun a' w' h' => wpAny_of_late fuel _ a' w' h'.2) (h.2 i hi)⟩

/-- D: the operations that come up behind number i alone, i and s among them; none has come up. -/
def Behind (md : Region.Mode) (ops : Array Oper) (listed : Array Bool) (i s : Nat) (D : List Nat) : Prop :=
  (i ≠ s ∧ i ∈ D) ∧ s ∈ D ∧ (∀ j ∈ D, listed.getD j true = false) ∧ ∀ j ∈ D, j ≠ i → ∀ o, ops[j]? = some o → ∃ e ∈ o.after, Region.binds md e = true ∧ e.on ∈ D
theorem Behind.not {listed : Array Bool} {i j : Nat} {D : List Nat} (h : Behind md ops listed i s D) (hj : j ∈ Region.ready md ops listed) (hji : j ≠ i) : j ∉ D := by
  intro hd
  obtain ⟨_, oj, hoj, hall⟩ := mem_ready.1 hj
  obtain ⟨e, he, hb, hD⟩ := h.2.2.2 j hd hji oj hoj
  have g1 := hall e he hb
  have g0 := h.2.2.1 _ hD
  by_cases hs : e.on < listed.size
  · simp [hs] at g0 g1; rw [g0] at g1; cases g1
  · simp [Array.getElem?_eq_none (Nat.le_of_not_lt hs)] at g1
theorem Behind.next {listed : Array Bool} {i j : Nat} {D : List Nat} (h : Behind md ops listed i s D) (hj : j ∈ Region.ready md ops listed) (hji : j ≠ i) : Behind md ops (listed.setIfInBounds j true) i s D := by
  refine ⟨h.1, h.2.1, fun k hk => ?_, h.2.2.2⟩
  have hne : j ≠ k := fun e => h.not hj hji (e ▸ hk)
  rw [getD_set_ne true hne]
  exact h.2.2.1 k hk

theorem late_first {i : Nat} {oi : Oper} {v : Value} {D : List Nat} (hi : ops[i]? = some oi) (hsel : ∀ (j : Nat) (o : Oper) cs b, ops[j]? = some o → o.op ≠ .select cs b)
    (hQ : ∀ c a w, Q (.panic c) (a.put oi.dst v) w → Q (.panic c) a w) : ∀ (fuel : Nat) (listed : Array Bool) (a : Act) (w : World),
      (∀ j oj, ops[j]? = some oj → j ≠ i → listed.getD j true = false → (∀ e ∈ oj.after, Region.binds md e = true → e.on ≠ i) → oi.apart ops oj = true) → Behind md ops listed i s D →
      i ∈ Region.ready md ops listed → Gives P ops T oi v a → T w →
      wpAnyL P md ops Q T s fuel (listed.setIfInBounds i true) (a.put oi.dst v) w → wpAnyL P md ops Q T s (fuel + 1) listed a w
  | 0, listed, a, w, _, _, hr, hy, hS, H => by
    refine ⟨fun h => (by rw [h] at hr; cases hr), fun j hj => ?_⟩
    by_cases hji : j = i
    · subst hji; exact hy.at_ hi hS ⟨fun _ => hS, H⟩
    · have := ready_mono hj hji
      rw [H.1] at this
      cases this
  | fuel + 1, listed, a, w, hfree, hD, hr, hy, hS, H => by
    refine ⟨fun h => (by rw [h] at hr; cases hr), fun j hj => ?_⟩
    by_cases hji : j = i
    · subst hji; exact hy.at_ hi hS ⟨fun _ => hS, H⟩
    · obtain ⟨hun, oj, hoj, hall⟩ := mem_ready.1 hj
      have hno : ∀ e ∈ oj.after, Region.binds md e = true → e.on ≠ i := by
        intro e he hb heq
        have g1 := hall e he hb
        have g0 := (mem_ready.1 hr).1
        rw [heq] at g1
        by_cases hs : i < listed.size
        · simp [hs] at g0 g1; rw [g0] at g1; cases g1
        · simp [Array.getElem?_eq_none (Nat.le_of_not_lt hs)] at g1
      have hD2 := hD.next hj hji
      have h2 := Gives.past hoj (hfree j oj hoj hji hun hno) (fun cs b => hsel i oi cs b hi) (fun cs b => hsel j oj cs b hoj) hQ hy (H.2 j (ready_mono hj hji))
      have his : i ≠ s := hD.1.1
      refine wpOp_mono (fun b w' hb => ?_) h2
      have hT : T w' := hb.2.1 (by
        rw [Array.setIfInBounds_comm _ _ (Ne.symm hji), getD_set_ne true his]
        exact hD2.2.2.1 s hD2.2.1)
      refine ⟨fun _ => hT, late_first hi hsel hQ fuel (listed.setIfInBounds j true) b w' (fun k ok hk hki hu hn => ?_) hD2 (ready_mono hr (Ne.symm hji)) hb.1 hT ?_⟩
      · refine hfree k ok hk hki ?_ hn
        by_cases hjk : j = k
        · subst hjk; exact hun
        · rwa [getD_set_ne true hjk] at hu
      · rw [Array.setIfInBounds_comm _ _ hji]
        exact hb.2.2

def waitsB (md : Region.Mode) (ops : Array Oper) (D : List Nat) (j : Nat) : Bool := match ops[j]? with | none => false | some o => o.after.any fun e => Region.binds md e && D.contains e.on
def depsOf (md : Region.Mode) (ops : Array Oper) (i : Nat) : List Nat := (List.range ops.size).foldl (fun D j => if waitsB md ops D j then j :: D else D) [i]
def behindB (md : Region.Mode) (ops : Array Oper) (listed : Array Bool) (i s : Nat) (D : List Nat) : Bool := (i != s) && D.contains i && D.contains s && D.all fun j => !(listed.getD j true) && (j == i || waitsB md ops D j)
theorem behind_of {listed : Array Bool} {i : Nat} {D : List Nat} (h : behindB md ops listed i s D = true) : Behind md ops listed i s D := by
  unfold behindB at h
  simp only [Bool.and_eq_true, bne_iff_ne, List.contains_iff_mem, List.all_eq_true, Bool.not_eq_true', Bool.or_eq_true, beq_iff_eq] at h
  obtain ⟨⟨⟨h1, h2⟩, h3⟩, h4⟩ := h
  refine ⟨⟨h1, h2⟩, h3, fun j hj => (h4 j hj).1, fun j hj hji o ho => ?_⟩
  rcases (h4 j hj).2 with h | h
  · exact absurd h hji
  · unfold waitsB at h
    rw [ho] at h
    simp only [Array.any_eq_true', Bool.and_eq_true, List.contains_iff_mem] at h
    obtain ⟨e, he, hb, hD⟩ := h
    exact ⟨e, he, hb, hD⟩

/-- A plain operation, a quiet call, taken first. -/
theorem late_val {i : Nat} {oi : Oper} {v : Value} {fuel : Nat} {listed : Array Bool} {a : Act} {w : World} (hi : ops.toList[i]? = some oi) (hs : Region.noSelect ops = true)
    (hf : Region.free md ops listed i = true) (hr : (Region.ready md ops listed).contains i = true) (hD : behindB md ops listed i s (depsOf md ops i) = true) (hQ : ∀ c a w, Q (.panic c) (a.put oi.dst v) w → Q (.panic c) a w)
    (hw : Region.wanted oi (yielded ops a.tmps) = true) (hy : ∀ w, T w → (execOp a.eval oi).run P w = .ok (.value v) w) (hS : T w)
    (h : wpAnyL P md ops Q T s fuel (listed.setIfInBounds i true) (a.put oi.dst v) w) : wpAnyL P md ops Q T s (fuel + 1) listed a w :=
  late_first (at_list hi) (Region.noSelect_spec hs) hQ fuel listed a w (Region.free_spec (at_list hi) hf) (behind_of hD) (by simpa using hr) (.inl ⟨hw, fun w hw => .inl (hy w hw)⟩) hS h
theorem lv (i : Nat) {oi : Oper} {v : Value} {fuel : Nat} {listed : Array Bool} {a : Act} {w : World} (hy : ∀ w, T w → (execOp a.eval oi).run P w = .ok (.value v) w) (hS : T w)
    (h : wpAnyL P md ops Q T s fuel (listed.setIfInBounds i true) (a.put oi.dst v) w) (hi : ops.toList[i]? = some oi := by exact rfl) (hs : Region.noSelect ops = true := by kernel_rfl)
    (hf : Region.free md ops listed i = true := by kernel_rfl) (hr : (Region.ready md ops listed).contains i = true := by kernel_rfl) (hD : behindB md ops listed i s (depsOf md ops i) = true := by kernel_rfl)
    (hQ : ∀ c a w, Q (.panic c) (a.put oi.dst v) w → Q (.panic c) a w := by exact fun _ _ _ h => h) (hw : Region.wanted oi (yielded ops a.tmps) = true := by rfl) : wpAnyL P md ops Q T s (fuel + 1) listed a w := late_val hi hs hf hr hD hQ hw hy hS h
theorem lx {k : Nat} {oi : Oper} {v : Value} {fuel : Nat} {L : Array Bool} {a : Act} {w : World} (hy : ∀ w, T w → (execOp a.eval oi).run P w = .ok (.value v) w) (hS : T w)
    (h : wpAnyL P md ops Q T s fuel ((L.setIfInBounds k true).setIfInBounds (k + 1) true) (a.put oi.dst v) w) (hi : ops.toList[k + 1]? = some oi := by exact rfl) (hs : Region.noSelect ops = true := by kernel_rfl)
    (hf : Region.free md ops (L.setIfInBounds k true) (k + 1) = true := by kernel_rfl) (hr : (Region.ready md ops (L.setIfInBounds k true)).contains (k + 1) = true := by kernel_rfl) (hD : behindB md ops (L.setIfInBounds k true) (k + 1) s (depsOf md ops (k + 1)) = true := by kernel_rfl)
    (hQ : ∀ c a w, Q (.panic c) (a.put oi.dst v) w → Q (.panic c) a w := by exact fun _ _ _ h => h) (hw : Region.wanted oi (yielded ops a.tmps) = true := by rfl) : wpAnyL P md ops Q T s (fuel + 1) (L.setIfInBounds k true) a w := late_val hi hs hf hr hD hQ hw hy hS h
theorem late_call {i : Nat} {oi : Oper} {v : Value} {fuel : Nat} {listed : Array Bool} {a : Act} {w : World} (f : FuncId) (args : Array Value) (hi : ops.toList[i]? = some oi) (hs : Region.noSelect ops = true)
    (hf : Region.free md ops listed i = true) (hr : (Region.ready md ops listed).contains i = true) (hD : behindB md ops listed i s (depsOf md ops i) = true) (hQ : ∀ c a w, Q (.panic c) (a.put oi.dst v) w → Q (.panic c) a w)
    (hw : Region.wanted oi (yielded ops a.tmps) = true) (hc : ∀ w, T w → Calls P f args w fun e w' => e = .returned v ∧ w = w') (hy : ∀ w, T w → (execOp a.eval oi).run P w = .ok (.enter f args) w) (hS : T w)
    (h : wpAnyL P md ops Q T s fuel (listed.setIfInBounds i true) (a.put oi.dst v) w) : wpAnyL P md ops Q T s (fuel + 1) listed a w :=
  late_first (at_list hi) (Region.noSelect_spec hs) hQ fuel listed a w (Region.free_spec (at_list hi) hf) (behind_of hD) (by simpa using hr) (.inl ⟨hw, fun w hw => .inr ⟨f, args, hy w hw, hc w hw⟩⟩) hS h

/-- Number s is the only one that may come up: it is carried out; nothing is asked of the world behind it. -/
theorem late_only {os : Oper} {fuel : Nat} {listed : Array Bool} {a : Act} {w : World} (hi : ops.toList[s]? = some os) (hr : Region.ready md ops listed = [s])
    (hw : Region.wanted os (yielded ops a.tmps) = true)
    (h : ∀ K : Act → World → Prop, Shut (∀ a' w', wpAnyL P md ops Q T s fuel (listed.setIfInBounds s true) a' w' → K a' w') → Oper.wp P os a w K Q) : wpAnyL P md ops Q T s (fuel + 1) listed a w := by
  refine ⟨fun h0 => absurd (hr ▸ h0) (by simp), fun j hj => ?_⟩
  rw [hr] at hj
  have hj' := List.mem_singleton.1 hj
  subst hj'
  refine wpOp_step (at_list hi) fun K hK => ?_
  rw [if_pos hw]
  refine h K fun a' w' hW => hK a' w' ⟨fun hb => ?_, hW⟩
  exfalso
  by_cases hs : j < listed.size
  · simp [hs] at hb
  · simp [hs] at hb
/-- A call, ahead of number s, that is the only one that may come up: by its contract; T is shown anew. -/
theorem late_call_only {i : Nat} {oi : Oper} {v : Value} {fuel : Nat} {listed : Array Bool} {a : Act} {w : World} (f : FuncId) (args : Array Value) (hi : ops.toList[i]? = some oi) (hr : Region.ready md ops listed = [i])
    (hw : Region.wanted oi (yielded ops a.tmps) = true) (hc : Calls P f args w fun e w' => e = .returned v ∧ T w') (hy : (execOp a.eval oi).run P w = .ok (.enter f args) w)
    (h : ∀ w', T w' → wpAnyL P md ops Q T s fuel (listed.setIfInBounds i true) (a.put oi.dst v) w') : wpAnyL P md ops Q T s (fuel + 1) listed a w := by
  refine ⟨fun h0 => absurd (hr ▸ h0) (by simp), fun j hj => ?_⟩
  rw [hr] at hj
  have hj' := List.mem_singleton.1 hj
  subst hj'
  refine wpOp_step (at_list hi) fun K hK => ?_
  rw [if_pos hw]
  unfold Oper.wp
  rw [hy]
  refine Calls.mono hc fun e w' ⟨he, hT⟩ => ?_
  subst he
  exact hK _ w' ⟨fun _ => hT, h w' hT⟩
/-- An operation that is the only one that may come up: it is carried out; T is shown anew as long as number s has not come up. -/
theorem late_lone {i : Nat} {oi : Oper} {fuel : Nat} {listed : Array Bool} {a : Act} {w : World} (hi : ops.toList[i]? = some oi) (hr : Region.ready md ops listed = [i])
    (hw : Region.wanted oi (yielded ops a.tmps) = true)
    (h : ∀ K : Act → World → Prop, Shut (∀ a' w', T w' → wpAnyL P md ops Q T s fuel (listed.setIfInBounds i true) a' w' → K a' w') → Oper.wp P oi a w K Q) : wpAnyL P md ops Q T s (fuel + 1) listed a w := by
  refine ⟨fun h0 => absurd (hr ▸ h0) (by simp), fun j hj => ?_⟩
  rw [hr] at hj
  have hj' := List.mem_singleton.1 hj
  subst hj'
  refine wpOp_step (at_list hi) fun K hK => ?_
  rw [if_pos hw]
  exact h K fun a' w' hT hW => hK a' w' ⟨fun _ => hT, hW⟩
theorem late_done {listed : Array Bool} {a : Act} {w : World} (hr : Region.ready md ops listed = []) (h : Q .normal a w) : ∀ fuel, wpAnyL P md ops Q T s fuel listed a w
  | 0 => ⟨hr, h⟩
  | _ + 1 => ⟨fun _ => h, by rw [hr]; simp⟩
theorem wp_region_late {id : Nat} {a : Act} {w : World} (T : World → Prop) (s : Nat) (hm : P.follows .mixedOrders = true) (hT : T w.drew)
    (h : T w.drew → wpAnyL P .any ops Q T s ops.size (Array.replicate ops.size false) a w.drew) : (Code.region id ops true).wp P Q a w :=
  wp_region_any hm (wpAny_of_late _ _ _ _ (h hT))
end
end Go.Proofs.YtnbllngljgmebaaDoor

/-
  Laws on regions that draw their order and call: a call that is the only one that may come up is met by its contract; what is known of the world is shown anew behind it.
-/
namespace Go.Proofs.YtnbllngljgmebaaDoor
open Go.RowKit

section
variable {P : Program} {ops : Array Oper} {Q : Exit → Act → World → Prop} {md : Region.Mode} {S : World → Prop}

/-- An operation that enters a function, by the function's contract. -/
theorem wp_enters {o : Oper} {a : Act} {w : World} {K : Act → World → Prop} {v : Value} {T : World → Prop} (f : FuncId) (args : Array Value)
    (hc : Calls P f args w fun e w' => e = .returned v ∧ T w') (hy : (execOp a.eval o).run P w = .ok (.enter f args) w) (h : ∀ w', T w' → K (a.put o.dst v) w') : Oper.wp P o a w K Q := by
  unfold Oper.wp
  rw [hy]
  refine Calls.mono hc fun e w' ⟨he, hT⟩ => ?_
  subst he
  exact h w' hT
/-- A call that is the only one that may come up. -/
theorem only_call {i : Nat} {oi : Oper} {v : Value} {fuel : Nat} {listed : Array Bool} {a : Act} {w : World} (f : FuncId) (args : Array Value) (hi : ops.toList[i]? = some oi) (hr : Region.ready md ops listed = [i])
    (hw : Region.wanted oi (yielded ops a.tmps) = true) (hc : Calls P f args w fun e w' => e = .returned v ∧ S w') (hy : (execOp a.eval oi).run P w = .ok (.enter f args) w)
    (h : ∀ w', S w' → wpAnyH P md ops Q S fuel (listed.setIfInBounds i true) (a.put oi.dst v) w') : wpAnyH P md ops Q S (fuel + 1) listed a w :=
  only hi hr hw fun _ hK => wp_enters f args hc hy fun w' hS => hK.out _ _ hS (h w' hS)

/-- One of those that may come up: a call, by its contract. -/
theorem arm_call {i : Nat} {oi : Oper} {v : Value} {T : World → Prop} {fuel : Nat} {listed : Array Bool} {a : Act} {w : World} {rs : List Nat} (f : FuncId) (args : Array Value) (hi : ops.toList[i]? = some oi)
    (hw : Region.wanted oi (yielded ops a.tmps) = true) (hc : Calls P f args w fun e w' => e = .returned v ∧ T w') (hy : (execOp a.eval oi).run P w = .ok (.enter f args) w)
    (h : ∀ w', T w' → S w' ∧ wpAnyH P md ops Q S fuel (listed.setIfInBounds i true) (a.put oi.dst v) w') (hs : AllReadyH P md ops Q S fuel listed a w rs) : AllReadyH P md ops Q S fuel listed a w (i :: rs) := by
  refine AllReadyH.cons (at_list hi) (fun K hK => ?_) hs
  rw [if_pos hw]
  exact wp_enters f args hc hy fun w' hT => hK.out _ _ (h w' hT).1 fun _ => (h w' hT).2
/-- One of those that may come up: a new block. -/
theorem arm_alloc {i : Nat} {oi : Oper} {fuel : Nat} {listed : Array Bool} {a : Act} {w : World} {rs : List Nat} (O : Obj) (hi : ops.toList[i]? = some oi)
    (hw : Region.wanted oi (yielded ops a.tmps) = true) (hy : (execOp a.eval oi).run P w = .ok (.value (.pointer (some ⟨w.heap.size, 0, none⟩))) (w.alloc O))
    (h : ∀ p w', Below w.heap.size w w' → w'.heap[p]? = some O → w.heap.size ≤ p → S w' ∧ wpAnyH P md ops Q S fuel (listed.setIfInBounds i true) (a.put oi.dst (.pointer (some ⟨p, 0, none⟩))) w')
    (hs : AllReadyH P md ops Q S fuel listed a w rs) : AllReadyH P md ops Q S fuel listed a w (i :: rs) := by
  refine AllReadyH.cons (at_list hi) (fun K hK => ?_) hs
  rw [if_pos hw]
  unfold Oper.wp
  rw [hy]
  have hh := h w.heap.size (w.alloc O) ((Below.refl _ _).alloc (Nat.le_refl _) O) (heap_alloc_new w O) (Nat.le_refl _)
  exact hK.out _ _ hh.1 fun _ => hh.2
/-- An operation that enters a function, by a contract whose answer is told by the world behind it. -/
theorem wp_enters_some {o : Oper} {a : Act} {w : World} {K : Act → World → Prop} {T : Value → World → Prop} (f : FuncId) (args : Array Value)
    (hc : Calls P f args w fun e w' => ∃ v, e = .returned v ∧ T v w') (hy : (execOp a.eval o).run P w = .ok (.enter f args) w) (h : ∀ v w', T v w' → K (a.put o.dst v) w') : Oper.wp P o a w K Q := by
  unfold Oper.wp
  rw [hy]
  refine Calls.mono hc fun e w' ⟨v, he, hT⟩ => ?_
  subst he
  exact h v w' hT
theorem only_some {i : Nat} {oi : Oper} {T : Value → World → Prop} {fuel : Nat} {listed : Array Bool} {a : Act} {w : World} (f : FuncId) (args : Array Value) (hi : ops.toList[i]? = some oi) (hr : Region.ready md ops listed = [i])
    (hw : Region.wanted oi (yielded ops a.tmps) = true) (hc : Calls P f args w fun e w' => ∃ v, e = .returned v ∧ T v w') (hy : (execOp a.eval oi).run P w = .ok (.enter f args) w)
    (h : ∀ v w', T v w' → S w' ∧ wpAnyH P md ops Q S fuel (listed.setIfInBounds i true) (a.put oi.dst v) w') : wpAnyH P md ops Q S (fuel + 1) listed a w :=
  only hi hr hw fun _ hK => wp_enters_some f args hc hy fun v w' hT => hK.out _ _ (h v w' hT).1 (h v w' hT).2
theorem arm_some {i : Nat} {oi : Oper} {T : Value → World → Prop} {fuel : Nat} {listed : Array Bool} {a : Act} {w : World} {rs : List Nat} (f : FuncId) (args : Array Value) (hi : ops.toList[i]? = some oi)
    (hw : Region.wanted oi (yielded ops a.tmps) = true) (hc : Calls P f args w fun e w' => ∃ v, e = .returned v ∧ T v w') (hy : (execOp a.eval oi).run P w = .ok (.enter f args) w)
    (h : ∀ v w', T v w' → S w' ∧ wpAnyH P md ops Q S fuel (listed.setIfInBounds i true) (a.put oi.dst v) w') (hs : AllReadyH P md ops Q S fuel listed a w rs) : AllReadyH P md ops Q S fuel listed a w (i :: rs) := by
  refine AllReadyH.cons (at_list hi) (fun K hK => ?_) hs
  rw [if_pos hw]
  exact wp_enters_some f args hc hy fun v w' hT => hK.out _ _ (h v w' hT).1 fun _ => (h v w' hT).2
/-- One of those that may come up: a new row, as a slice. -/
theorem arm_slice {i : Nat} {oi : Oper} {fuel : Nat} {listed : Array Bool} {a : Act} {w : World} {rs : List Nat} (O : Obj) (n : Nat) (hi : ops.toList[i]? = some oi)
    (hw : Region.wanted oi (yielded ops a.tmps) = true) (hy : (execOp a.eval oi).run P w = .ok (.value (.slice (some ⟨w.heap.size, 0, none⟩) n n)) (w.alloc O))
    (h : ∀ p w', Below w.heap.size w w' → w'.heap[p]? = some O → w.heap.size ≤ p → S w' ∧ wpAnyH P md ops Q S fuel (listed.setIfInBounds i true) (a.put oi.dst (.slice (some ⟨p, 0, none⟩) n n)) w')
    (hs : AllReadyH P md ops Q S fuel listed a w rs) : AllReadyH P md ops Q S fuel listed a w (i :: rs) := by
  refine AllReadyH.cons (at_list hi) (fun K hK => ?_) hs
  rw [if_pos hw]
  unfold Oper.wp
  rw [hy]
  have hh := h w.heap.size (w.alloc O) ((Below.refl _ _).alloc (Nat.le_refl _) O) (heap_alloc_new w O) (Nat.le_refl _)
  exact hK.out _ _ hh.1 fun _ => hh.2
end
end Go.Proofs.YtnbllngljgmebaaDoor

/-
  A byte of a string, a row of the call's own, and what is told below a mark: small facts that the walks share.
-/
namespace Go.Proofs.YtnbllngljgmebaaDoor
open Go.RowKit

theorem Tryd.infoX8 : (Tryd.prog.info? 5).map (fun i => (i.zero, i.size, i.bytes)) = some (some (.int .u8 0), 1, 1) := by kernel_rfl
def xb (c : UInt8) : Value := .int .u8 (c.toNat : Int)

theorem ix_str (s : ByteArray) (k : Nat) (h : k < s.size) (w : World) : (Instr.index 9 (.string s) (.int .i64 (k : Int))).run Tryd.prog w = .ok (.int .u8 ((s[k].toNat : Nat) : Int)) w := by
  rw [run_index_string (P := Tryd.prog) w 9 s .i64 (k : Int) Tryd.underlying9, dif_pos ⟨by omega, by omega⟩]
  rfl
theorem own_base {w : World} {base e size g n c : Nat} {xs : List Value} (h : w.ownsRow base e size (.slice (some ⟨g, 0, none⟩) n c) n xs) : base ≤ g := by
  rcases h.2 with ⟨h1, _⟩ | ⟨g', cap, cur, h1, hb, _⟩
  · cases h1
  · injection h1 with h1
    injection h1 with h1
    injection h1 with h1
    omega
theorem hbt {a b c : World} (h : Below a.heap.size a b) (k : Below b.heap.size b c) : Below a.heap.size a c := h.trans (k.mono h.size)
theorem below_drewN (w : World) (n : Nat) : Below w.heap.size w (w.drewN n) := ⟨rfl, rfl, rfl, Nat.le_refl _, fun _ _ => rfl⟩

end Go.Proofs.YtnbllngljgmebaaDoor

/-
  Blocks of memory that a walk carries through calls and stores: small facts that the walks share.
-/
namespace Go.Proofs.YtnbllngljgmebaaDoor
open Go.RowKit

theorem below_al (w : World) (o : Obj) : Below w.heap.size w (w.alloc o) := (Below.refl _ _).alloc (Nat.le_refl _) o
theorem heap_al (w : World) (o : Obj) (g : Nat) (hg : g = w.heap.size) : (w.alloc o).heap[g]? = some o := by subst hg; exact heap_alloc_new w o
theorem obj_below {w w' : World} {g : Nat} {O : Obj} (h : w.heap[g]? = some O) (hb : Below w.heap.size w w') : w'.heap[g]? = some O := by
  have hg : g < w.heap.size := by
    by_cases hlt : g < w.heap.size
    · exact hlt
    · have hn : w.heap[g]? = none := by simp; omega
      rw [hn] at h; cases h
  rw [hb.block g hg]; exact h
theorem obj_lt {w : World} {g : Nat} {O : Obj} (h : w.heap[g]? = some O) : g < w.heap.size := by
  by_cases hlt : g < w.heap.size
  · exact hlt
  · have hn : w.heap[g]? = none := by simp; omega
    rw [hn] at h; cases h
theorem obj_cells {u : World} {g : Nat} {a b : Value} {t : TypeId} (h : u.heap[g]? = some (.cells #[a, b] t)) :
    u.cell? ⟨g, 0, none⟩ = some a ∧ u.cell? ⟨g, 1, none⟩ = some b ∧ u.frozen? ⟨g, 0, none⟩ = false ∧ u.frozen? ⟨g, 1, none⟩ = false :=
  ⟨cell_of_row u g 0 _ t _ h, cell_of_row u g 1 _ t _ h, frozen_of_row u g 0 _ t h, frozen_of_row u g 1 _ t h⟩
theorem obj_set2 {u : World} {g : Nat} {a b : Value} {t : TypeId} (h : u.heap[g]? = some (.cells #[a, b] t)) (c d : Value) : ((u.setCell ⟨g, 0, none⟩ c).setCell ⟨g, 1, none⟩ d).heap[g]? = some (.cells #[c, d] t) :=
  heap_setCell_same _ g 1 _ t d (heap_setCell_same u g 0 _ t c h)

theorem obj_set_other {u : World} {p q : Nat} {O : Obj} (h : u.heap[q]? = some O) (hq : q ≠ p) (c d : Value) : ((u.setCell ⟨p, 0, none⟩ c).setCell ⟨p, 1, none⟩ d).heap[q]? = some O := by
  rw [heap_setCell_other _ _ _ _ hq, heap_setCell_other _ _ _ _ hq]
  exact h
theorem below_set2 {w u : World} {p : Nat} (h : Below w.heap.size w u) (hp : w.heap.size ≤ p) (c d : Value) : Below w.heap.size w ((u.setCell ⟨p, 0, none⟩ c).setCell ⟨p, 1, none⟩ d) :=
  (h.setCell (p := ⟨p, 0, none⟩) hp c).setCell (p := ⟨p, 1, none⟩) hp d
theorem heap_alloc_old' (w : World) (o : Obj) (i : Nat) (h : i < w.heap.size) : (w.alloc o).heap[i]? = w.heap[i]? := (below_al w o).block i h

/-- Results: a struct's or an array's block, then two slots. -/
theorem results_cell_row2 {P : Program} {fn : Func} {p u v : Tmp} {ty : TypeId} (h : fn.results = #[.cell p ty, .tmp u, .tmp v]) (tmps : Array Value) (w : World) (g : Nat) (t : TypeId) (cs : Array Value) (fr : Nat × Nat) (d : TypeDesc)
    (hp : tmps.getD p undef = .pointer (some ⟨g, 0, none⟩)) (hg : w.heap[g]? = some (.cells cs t fr))
    (hu : P.underlying ty = some d) (hd : (match d with | .struct _ | .array _ _ => true | _ => false) = true) (hi : (P.info? ty).map (·.size) = some cs.size) :
    (results fn tmps).run P w = .ok (.tuple #[.agg cs, tmps.getD u undef, tmps.getD v undef]) w := by
  have hp' : tmps[p]?.getD undef = .pointer (some ⟨g, 0, none⟩) := by simpa using hp
  simp [results, h, hp', asAddr, run_loadVar_row w g t ty cs fr d hg hu hd hi]

end Go.Proofs.YtnbllngljgmebaaDoor

/-
  Slices of numbers: one that is read, a row of the call's own, a copy.
-/
namespace Go.Proofs.YtnbllngljgmebaaDoor
open Go.RowKit

theorem getD_get (zs : List Int) (i : Nat) (h : i < zs.length) : zs.getD i 0 = zs[i] := by simp [List.getD, h]
/-- A slice that holds these numbers. -/
def Ints (w : World) (A : Option Addr) (zs : List Int) : Prop := ∀ i, i < zs.length → ∃ a, A = some a ∧ w.cell? (a.add i) = some (.int .i64 (zs.getD i 0))
theorem Ints.below {w w' : World} {A : Option Addr} {zs : List Int} (h : Ints w A zs) (hb : Below w.heap.size w w') : Ints w' A zs := fun i hi => by
  obtain ⟨a, ha, hc⟩ := h i hi
  refine ⟨a, ha, ?_⟩
  rw [hb.cell (block_lt_of_cell hc)]
  exact hc

theorem Tryd.infoX64 : (Tryd.prog.info? 3).map (fun i => (i.zero, i.size, i.bytes)) = some (some (.int .i64 0), 1, 8) := by kernel_rfl
def zi (l : List Nat) : List Int := l.map fun (k : Nat) => (k : Int)
theorem zi_length (l : List Nat) : (zi l).length = l.length := by simp [zi]
def iv (k : Nat) : Value := .int .i64 (k : Int)
/-- What a row of the call's own holds, as a slice that is read. -/
theorem ints_own {w : World} {base g n c : Nat} {l : List Nat} (h : w.ownsRow base 3 1 (.slice (some ⟨g, 0, none⟩) n c) n (l.map iv)) (hn : l.length = n) : Ints w (some ⟨g, 0, none⟩) (zi l) := by
  intro i hi
  refine ⟨_, rfl, ?_⟩
  have hi' : i < l.length := by simpa [zi] using hi
  have hc := h.cellAt i (by omega)
  rw [show (⟨g, 0, none⟩ : Addr).add i = ⟨g, i, none⟩ from by rw [Addr.add_lit, Nat.zero_add], hc]
  simp [iv, zi, hi', List.getD]

theorem own_below {w w' : World} {base e size g n c : Nat} {xs : List Value} (h : w.ownsRow base e size (.slice (some ⟨g, 0, none⟩) n c) n xs) (hb : Below w.heap.size w w') : w'.ownsRow base e size (.slice (some ⟨g, 0, none⟩) n c) n xs := by
  refine ⟨h.1, ?_⟩
  rcases h.2 with ⟨h1, _⟩ | ⟨g', cap, cur, h1, h2, h3, h4⟩
  · cases h1
  · exact .inr ⟨g', cap, cur, h1, h2, obj_below h3 hb, h4⟩
/-- A copy of a slice's numbers, in a row of the call's own. -/
theorem ints_copy {w : World} {base g n c : Nat} {zs : List Int} (h : w.ownsRow base 3 1 (.slice (some ⟨g, 0, none⟩) n c) n (zs.map fun z => .int .i64 z)) (hn : zs.length = n) : Ints w (some ⟨g, 0, none⟩) zs := by
  intro i hi
  refine ⟨_, rfl, ?_⟩
  have hc := h.cellAt i (by omega)
  rw [show (⟨g, 0, none⟩ : Addr).add i = ⟨g, i, none⟩ from by rw [Addr.add_lit, Nat.zero_add], hc]
  simp [hi, List.getD]
theorem ints_nil (w : World) (A : Option Addr) : Ints w A [] := fun i hi => by simp at hi
theorem ints_news {w : World} {a : Addr} {zs : List Int} (h : Ints w (some a) zs) : ∀ j u, (zs.map fun z => Value.int .i64 z)[j]? = some u → w.cell? (a.add j) = some u := by
  intro j u hu
  obtain ⟨hj, he⟩ := List.getElem?_eq_some_iff.1 hu
  have hj' : j < zs.length := by simpa using hj
  obtain ⟨a', ha, hc⟩ := h j hj'
  injection ha with ha
  subst ha
  rw [hc, ← he]
  simp [hj', List.getD]

end Go.Proofs.YtnbllngljgmebaaDoor

/-
  Strings of a few bytes: made out of literals, a byte at a place, two of them held against each other: small facts that the walks share.
-/
namespace Go.Proofs.YtnbllngljgmebaaDoor
open Go.RowKit

theorem ofNat_val {n : Nat} (h : n < 256) : (UInt8.ofNat n).toNat = n := by rw [UInt8.toNat_ofNat']; omega

/-- 'string([]byte{a})' and 'string([]byte{a, b})' in the world that the literal leaves. -/
theorem conv_one (a : Nat) (ha : a < 256) (w : World) :
    (convert 117 9 (.slice (some ⟨w.heap.size, 0, none⟩) 1 1)).run Tryd.prog (w.alloc (.cells #[.int .u8 (a : Int)] 5)) = .ok (.string ⟨#[UInt8.ofNat a]⟩) (w.alloc (.cells #[.int .u8 (a : Int)] 5)) := by
  have h := run_convert_bytes_back (P := Tryd.prog) (w.alloc (.cells #[.int .u8 (a : Int)] 5)) 117 9 5 ⟨w.heap.size, 0, none⟩ 1 [UInt8.ofNat a] Tryd.underlying117 Tryd.underlying5 Tryd.underlying9 (by
    intro j hj
    have hj0 : j = 0 := by simpa using hj
    subst hj0
    have e : ((UInt8.ofNat a).toNat : Int) = (a : Int) := by rw [UInt8.toNat_ofNat']; omega
    simp [Addr.add]
    omega)
  exact h
theorem conv_two (a b : Nat) (ha : a < 256) (hb : b < 256) (w : World) :
    (convert 117 9 (.slice (some ⟨w.heap.size, 0, none⟩) 2 2)).run Tryd.prog (w.alloc (.cells #[.int .u8 (a : Int), .int .u8 (b : Int)] 5)) = .ok (.string ⟨#[UInt8.ofNat a, UInt8.ofNat b]⟩) (w.alloc (.cells #[.int .u8 (a : Int), .int .u8 (b : Int)] 5)) := by
  have h := run_convert_bytes_back (P := Tryd.prog) (w.alloc (.cells #[.int .u8 (a : Int), .int .u8 (b : Int)] 5)) 117 9 5 ⟨w.heap.size, 0, none⟩ 2 [UInt8.ofNat a, UInt8.ofNat b] Tryd.underlying117 Tryd.underlying5 Tryd.underlying9 (by
    intro j hj
    have hj0 : j = 0 ∨ j = 1 := by have : j < 2 := hj; omega
    have e1 : ((UInt8.ofNat a).toNat : Int) = (a : Int) := by rw [UInt8.toNat_ofNat']; omega
    have e2 : ((UInt8.ofNat b).toNat : Int) = (b : Int) := by rw [UInt8.toNat_ofNat']; omega
    rcases hj0 with rfl | rfl
    · simp [Addr.add]
      omega
    · simp [Addr.add]
      omega)
  exact h
theorem conv_three (a b c : Nat) (ha : a < 256) (hb : b < 256) (hc : c < 256) (w : World) :
    (convert 117 9 (.slice (some ⟨w.heap.size, 0, none⟩) 3 3)).run Tryd.prog (w.alloc (.cells #[.int .u8 (a : Int), .int .u8 (b : Int), .int .u8 (c : Int)] 5)) = .ok (.string ⟨#[UInt8.ofNat a, UInt8.ofNat b, UInt8.ofNat c]⟩) (w.alloc (.cells #[.int .u8 (a : Int), .int .u8 (b : Int), .int .u8 (c : Int)] 5)) := by
  have h := run_convert_bytes_back (P := Tryd.prog) (w.alloc (.cells #[.int .u8 (a : Int), .int .u8 (b : Int), .int .u8 (c : Int)] 5)) 117 9 5 ⟨w.heap.size, 0, none⟩ 3 [UInt8.ofNat a, UInt8.ofNat b, UInt8.ofNat c] Tryd.underlying117 Tryd.underlying5 Tryd.underlying9 (by
    intro j hj
    have hj0 : j = 0 ∨ j = 1 ∨ j = 2 := by have : j < 3 := hj; omega
    rcases hj0 with rfl | rfl | rfl
    · simp [Addr.add]
      omega
    · simp [Addr.add]
      omega
    · simp [Addr.add]
      omega)
  exact h

theorem tag_wraps (n : Int) (h0 : 0 ≤ n) (h1 : n < 2 ^ 62) : IntKind.i64.wrap n = n := by rw [IntKind.wrap_i64]; omega
theorem tag_join (p q : Nat) (hp : p < 256) (hq : q < 256) : bits .or .i64 ((p : Int) * 256) (q : Int) = ((256 * p + q : Nat) : Int) := by
  rw [bits_join .i64 62 (by decide) tag_wraps 8 (x := (p : Int) * 256) (y := (q : Int)) (by omega) (by omega) (by omega) (by omega) (by omega) (by omega)]
  omega

/-- The byte a stands at the place p. -/
def At (s : ByteArray) (p : Int) (a : Nat) : Prop := ∀ w, (Instr.index 9 (.string s) (.int .i64 p)).run Tryd.prog w = .ok (.int .u8 (a : Int)) w

theorem at_str (s : ByteArray) (p : Nat) (h : p < s.size) : At s (p : Int) s[p].toNat := ix_str s p h
theorem list_at (s : ByteArray) (p : Nat) (h : p < s.size) : s.data.toList[p]? = some s[p] := by
  rw [Array.getElem?_toList]
  exact Array.getElem?_eq_getElem h

theorem str_told {x y : ByteArray} {a b : Int} (h : x = y ↔ a = b) : (x.toList == y.toList) = (a == b) := by
  rw [Bool.eq_iff_iff, beq_iff_eq, beq_iff_eq, ← h]
  constructor
  · intro g
    rw [ByteArray.toList_eq, ByteArray.toList_eq] at g
    rw [ByteArray.ext_iff]
    exact Array.toList_inj.1 g
  · rintro rfl; rfl

/-- A piece of a text, as a list. -/
theorem piece_list (s : ByteArray) (p z : Nat) : (s.extract p (p + z)).data.toList = (s.data.toList.drop p).take z := by
  rw [ByteArray.data_extract, Array.toList_extract]
  simp [List.extract]
theorem whole_piece (z : ByteArray) : z.extract 0 z.size = z := by rw [ByteArray.ext_iff]; apply Array.toList_inj.1; simp
theorem first_piece (l : List UInt8) (k : Nat) : (⟨l.toArray⟩ : ByteArray).extract 0 k = ⟨(l.take k).toArray⟩ := by
  rw [ByteArray.ext_iff]
  apply Array.toList_inj.1
  simp
theorem mk_size (l : List UInt8) : (⟨l.toArray⟩ : ByteArray).size = l.length := by show l.toArray.size = _; rw [List.size_toArray]
theorem mk_list (l : List UInt8) : (⟨l.toArray⟩ : ByteArray).data.toList = l := by simp

end Go.Proofs.YtnbllngljgmebaaDoor
