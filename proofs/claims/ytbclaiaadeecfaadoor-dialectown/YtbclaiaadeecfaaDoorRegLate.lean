/-
  Laws on regions that draw their order and write near their end: till operation number s comes up the world meets T; an operation for which s waits, and which gives one value in every world that meets T, may be taken first.
  Conditions: nobody else in the region touches its temporaries ahead of it.
-/
import Derived.Test.YtbclaiaadeecfaaDoorRegTake
namespace Go.Proofs.YtbclaiaadeecfaaDoor

section
variable {P : Program} {ops : Array Oper} {Q : Exit → Act → World → Prop} {md : Region.Mode} {T : World → Prop} {s : Nat}

/-- Whatever order is picked from here on; behind every operation T holds, as long as number s has not come up. -/
def wpAnyL (P : Program) (md : Region.Mode) (ops : Array Oper) (Q : Exit → Act → World → Prop) (T : World → Prop) (s : Nat) : Nat → Array Bool → Act → World → Prop
  | 0, listed, a, w => Region.ready md ops listed = [] ∧ Q .normal a w
  | fuel + 1, listed, a, w =>
    (Region.ready md ops listed = [] → Q .normal a w) ∧
    ∀ i ∈ Region.ready md ops listed, wpOp P ops Q i (fun a' w' => ((listed.setIfInBounds i true).getD s true = false → T w') ∧ wpAnyL P md ops Q T s fuel (listed.setIfInBounds i true) a' w') a w

theorem wpAny_of_late : ∀ (fuel : Nat) (listed : Array Bool) (a : Act) (w : World), wpAnyL P md ops Q T s fuel listed a w → wpAny P md ops Q fuel listed a w
  | 0, _, _, _, h => h
  | fuel + 1, _, _, _, h => ⟨h.1, fun i hi => wpOp_mono (fun a' w' h' => wpAny_of_late fuel _ a' w' h'.2) (h.2 i hi)⟩

/-- D: the operations that come up behind number i alone, i and s among them; none has come up. -/
def Behind (md : Region.Mode) (ops : Array Oper) (listed : Array Bool) (i s : Nat) (D : List Nat) : Prop :=
  (i ≠ s ∧ i ∈ D) ∧ s ∈ D ∧ (∀ j ∈ D, listed.getD j true = false) ∧ ∀ j ∈ D, j ≠ i → ∀ o, ops[j]? = some o → ∃ e ∈ o.after, Region.binds md e = true ∧ e.on ∈ D
theorem Behind.not {listed : Array Bool} {i j : Nat} {D : List Nat} (h : Behind md ops listed i s D) (hj : j ∈ Region.ready md ops listed) (hji : j ≠ i) : j ∉ D := by
  intro hd
  obtain ⟨_, oj, hoj, hall⟩ := mem_ready.1 hj
  obtain ⟨e, he, hb, hD⟩ := h.2.2.2 j hd hji oj hoj
  have g1 := hall e he hb
  have g0 := h.2.2.1 _ hD
  by_cases hs : e.on < listed.size
  · simp [hs] at g0 g1; rw [g0] at g1; cases g1
  · simp [Array.getElem?_eq_none (Nat.le_of_not_lt hs)] at g1
theorem Behind.next {listed : Array Bool} {i j : Nat} {D : List Nat} (h : Behind md ops listed i s D) (hj : j ∈ Region.ready md ops listed) (hji : j ≠ i) : Behind md ops (listed.setIfInBounds j true) i s D := by
  refine ⟨h.1, h.2.1, fun k hk => ?_, h.2.2.2⟩
  have hne : j ≠ k := fun e => h.not hj hji (e ▸ hk)
  rw [getD_set_ne true hne]
  exact h.2.2.1 k hk

theorem late_first {i : Nat} {oi : Oper} {v : Value} {D : List Nat} (hi : ops[i]? = some oi) (hsel : ∀ (j : Nat) (o : Oper) cs b, ops[j]? = some o → o.op ≠ .select cs b)
    (hQ : ∀ c a w, Q (.panic c) (a.put oi.dst v) w → Q (.panic c) a w) : ∀ (fuel : Nat) (listed : Array Bool) (a : Act) (w : World),
      (∀ j oj, ops[j]? = some oj → j ≠ i → listed.getD j true = false → (∀ e ∈ oj.after, Region.binds md e = true → e.on ≠ i) → oi.apart ops oj = true) → Behind md ops listed i s D →
      i ∈ Region.ready md ops listed → Gives P ops T oi v a → T w →
      wpAnyL P md ops Q T s fuel (listed.setIfInBounds i true) (a.put oi.dst v) w → wpAnyL P md ops Q T s (fuel + 1) listed a w
  | 0, listed, a, w, _, _, hr, hy, hS, H => by
    refine ⟨fun h => (by rw [h] at hr; cases hr), fun j hj => ?_⟩
    by_cases hji : j = i
    · subst hji; exact hy.at_ hi hS ⟨fun _ => hS, H⟩
    · have := ready_mono hj hji
      rw [H.1] at this
      cases this
  | fuel + 1, listed, a, w, hfree, hD, hr, hy, hS, H => by
    refine ⟨fun h => (by rw [h] at hr; cases hr), fun j hj => ?_⟩
    by_cases hji : j = i
    · subst hji; exact hy.at_ hi hS ⟨fun _ => hS, H⟩
    · obtain ⟨hun, oj, hoj, hall⟩ := mem_ready.1 hj
      have hno : ∀ e ∈ oj.after, Region.binds md e = true → e.on ≠ i := by
        intro e he hb heq
        have g1 := hall e he hb
        have g0 := (mem_ready.1 hr).1
        rw [heq] at g1
        by_cases hs : i < listed.size
        · simp [hs] at g0 g1; rw [g0] at g1; cases g1
        · simp [Array.getElem?_eq_none (Nat.le_of_not_lt hs)] at g1
      have hD2 := hD.next hj hji
      have h2 := Gives.past hoj (hfree j oj hoj hji hun hno) (fun cs b => hsel i oi cs b hi) (fun cs b => hsel j oj cs b hoj) hQ hy (H.2 j (ready_mono hj hji))
      have his : i ≠ s := hD.1.1
      refine wpOp_mono (fun b w' hb => ?_) h2
      have hT : T w' := hb.2.1 (by
        rw [Array.setIfInBounds_comm _ _ (Ne.symm hji), getD_set_ne true his]
        exact hD2.2.2.1 s hD2.2.1)
      refine ⟨fun _ => hT, late_first hi hsel hQ fuel (listed.setIfInBounds j true) b w' (fun k ok hk hki hu hn => ?_) hD2 (ready_mono hr (Ne.symm hji)) hb.1 hT ?_⟩
      · refine hfree k ok hk hki ?_ hn
        by_cases hjk : j = k
        · subst hjk; exact hun
        · rwa [getD_set_ne true hjk] at hu
      · rw [Array.setIfInBounds_comm _ _ hji]
        exact hb.2.2

def waitsB (md : Region.Mode) (ops : Array Oper) (D : List Nat) (j : Nat) : Bool := match ops[j]? with | none => false | some o => o.after.any fun e => Region.binds md e && D.contains e.on
def depsOf (md : Region.Mode) (ops : Array Oper) (i : Nat) : List Nat := (List.range ops.size).foldl (fun D j => if waitsB md ops D j then j :: D else D) [i]
def behindB (md : Region.Mode) (ops : Array Oper) (listed : Array Bool) (i s : Nat) (D : List Nat) : Bool := (i != s) && D.contains i && D.contains s && D.all fun j => !(listed.getD j true) && (j == i || waitsB md ops D j)
theorem behind_of {listed : Array Bool} {i : Nat} {D : List Nat} (h : behindB md ops listed i s D = true) : Behind md ops listed i s D := by
  unfold behindB at h
  simp only [Bool.and_eq_true, bne_iff_ne, List.contains_iff_mem, List.all_eq_true, Bool.not_eq_true', Bool.or_eq_true, beq_iff_eq] at h
  obtain ⟨⟨⟨h1, h2⟩, h3⟩, h4⟩ := h
  refine ⟨⟨h1, h2⟩, h3, fun j hj => (h4 j hj).1, fun j hj hji o ho => ?_⟩
  rcases (h4 j hj).2 with h | h
  · exact absurd h hji
  · unfold waitsB at h
    rw [ho] at h
    simp only [Array.any_eq_true', Bool.and_eq_true, List.contains_iff_mem] at h
    obtain ⟨e, he, hb, hD⟩ := h
    exact ⟨e, he, hb, hD⟩

/-- A plain operation, a quiet call, taken first. -/
theorem late_val {i : Nat} {oi : Oper} {v : Value} {fuel : Nat} {listed : Array Bool} {a : Act} {w : World} (hi : ops.toList[i]? = some oi) (hs : Region.noSelect ops = true)
    (hf : Region.free md ops listed i = true) (hr : (Region.ready md ops listed).contains i = true) (hD : behindB md ops listed i s (depsOf md ops i) = true) (hQ : ∀ c a w, Q (.panic c) (a.put oi.dst v) w → Q (.panic c) a w)
    (hw : Region.wanted oi (yielded ops a.tmps) = true) (hy : ∀ w, T w → (execOp a.eval oi).run P w = .ok (.value v) w) (hS : T w)
    (h : wpAnyL P md ops Q T s fuel (listed.setIfInBounds i true) (a.put oi.dst v) w) : wpAnyL P md ops Q T s (fuel + 1) listed a w :=
  late_first (at_list hi) (Region.noSelect_spec hs) hQ fuel listed a w (Region.free_spec (at_list hi) hf) (behind_of hD) (by simpa using hr) (.inl ⟨hw, fun w hw => .inl (hy w hw)⟩) hS h
theorem late_call {i : Nat} {oi : Oper} {v : Value} {fuel : Nat} {listed : Array Bool} {a : Act} {w : World} (f : FuncId) (args : Array Value) (hi : ops.toList[i]? = some oi) (hs : Region.noSelect ops = true)
    (hf : Region.free md ops listed i = true) (hr : (Region.ready md ops listed).contains i = true) (hD : behindB md ops listed i s (depsOf md ops i) = true) (hQ : ∀ c a w, Q (.panic c) (a.put oi.dst v) w → Q (.panic c) a w)
    (hw : Region.wanted oi (yielded ops a.tmps) = true) (hc : ∀ w, T w → Calls P f args w fun e w' => e = .returned v ∧ w = w') (hy : ∀ w, T w → (execOp a.eval oi).run P w = .ok (.enter f args) w) (hS : T w)
    (h : wpAnyL P md ops Q T s fuel (listed.setIfInBounds i true) (a.put oi.dst v) w) : wpAnyL P md ops Q T s (fuel + 1) listed a w :=
  late_first (at_list hi) (Region.noSelect_spec hs) hQ fuel listed a w (Region.free_spec (at_list hi) hf) (behind_of hD) (by simpa using hr) (.inl ⟨hw, fun w hw => .inr ⟨f, args, hy w hw, hc w hw⟩⟩) hS h

/-- Number s is the only one that may come up: it is carried out; nothing is asked of the world behind it. -/
theorem late_only {os : Oper} {fuel : Nat} {listed : Array Bool} {a : Act} {w : World} (hi : ops.toList[s]? = some os) (hr : Region.ready md ops listed = [s])
    (hw : Region.wanted os (yielded ops a.tmps) = true)
    (h : ∀ K : Act → World → Prop, Shut (∀ a' w', wpAnyL P md ops Q T s fuel (listed.setIfInBounds s true) a' w' → K a' w') → Oper.wp P os a w K Q) : wpAnyL P md ops Q T s (fuel + 1) listed a w := by
  refine ⟨fun h0 => absurd (hr ▸ h0) (by simp), fun j hj => ?_⟩
  rw [hr] at hj
  have hj' := List.mem_singleton.1 hj
  subst hj'
  refine wpOp_step (at_list hi) fun K hK => ?_
  rw [if_pos hw]
  refine h K fun a' w' hW => hK a' w' ⟨fun hb => ?_, hW⟩
  exfalso
  by_cases hs : j < listed.size
  · simp [hs] at hb
  · simp [hs] at hb
/-- A call, ahead of number s, that is the only one that may come up: by its contract; T is shown anew. -/
theorem late_call_only {i : Nat} {oi : Oper} {v : Value} {fuel : Nat} {listed : Array Bool} {a : Act} {w : World} (f : FuncId) (args : Array Value) (hi : ops.toList[i]? = some oi) (hr : Region.ready md ops listed = [i])
    (hw : Region.wanted oi (yielded ops a.tmps) = true) (hc : Calls P f args w fun e w' => e = .returned v ∧ T w') (hy : (execOp a.eval oi).run P w = .ok (.enter f args) w)
    (h : ∀ w', T w' → wpAnyL P md ops Q T s fuel (listed.setIfInBounds i true) (a.put oi.dst v) w') : wpAnyL P md ops Q T s (fuel + 1) listed a w := by
  refine ⟨fun h0 => absurd (hr ▸ h0) (by simp), fun j hj => ?_⟩
  rw [hr] at hj
  have hj' := List.mem_singleton.1 hj
  subst hj'
  refine wpOp_step (at_list hi) fun K hK => ?_
  rw [if_pos hw]
  unfold Oper.wp
  rw [hy]
  refine Calls.mono hc fun e w' ⟨he, hT⟩ => ?_
  subst he
  exact hK _ w' ⟨fun _ => hT, h w' hT⟩
/-- An operation that is the only one that may come up: it is carried out; T is shown anew as long as number s has not come up. -/
theorem late_lone {i : Nat} {oi : Oper} {fuel : Nat} {listed : Array Bool} {a : Act} {w : World} (hi : ops.toList[i]? = some oi) (hr : Region.ready md ops listed = [i])
    (hw : Region.wanted oi (yielded ops a.tmps) = true)
    (h : ∀ K : Act → World → Prop, Shut (∀ a' w', T w' → wpAnyL P md ops Q T s fuel (listed.setIfInBounds i true) a' w' → K a' w') → Oper.wp P oi a w K Q) : wpAnyL P md ops Q T s (fuel + 1) listed a w := by
  refine ⟨fun h0 => absurd (hr ▸ h0) (by simp), fun j hj => ?_⟩
  rw [hr] at hj
  have hj' := List.mem_singleton.1 hj
  subst hj'
  refine wpOp_step (at_list hi) fun K hK => ?_
  rw [if_pos hw]
  exact h K fun a' w' hT hW => hK a' w' ⟨fun _ => hT, hW⟩
theorem late_done {listed : Array Bool} {a : Act} {w : World} (hr : Region.ready md ops listed = []) (h : Q .normal a w) : ∀ fuel, wpAnyL P md ops Q T s fuel listed a w
  | 0 => ⟨hr, h⟩
  | _ + 1 => ⟨fun _ => h, by rw [hr]; simp⟩
theorem wp_region_late {id : Nat} {a : Act} {w : World} (T : World → Prop) (s : Nat) (hm : P.follows .mixedOrders = true) (hT : T w.drew)
    (h : T w.drew → wpAnyL P .any ops Q T s ops.size (Array.replicate ops.size false) a w.drew) : (Code.region id ops true).wp P Q a w :=
  wp_region_any hm (wpAny_of_late _ _ _ _ (h hT))
end
end Go.Proofs.YtbclaiaadeecfaaDoor
