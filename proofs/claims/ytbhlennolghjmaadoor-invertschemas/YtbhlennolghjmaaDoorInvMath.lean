/-
  Maps that can be undone: whether nothing gets lost, the other way round, and what follows. (Plain functions.)
-/
import Derived.Test.YtbhlennolghjmaaDoorXltList
namespace Go.Proofs.YtbhlennolghjmaaDoor

/-- A rule the other way round; rules. -/
def ruTurn (r : Ru) : Ru := (r.1, r.2.2.1, r.2.1, r.2.2.2.1, turnL r.2.2.2.2)
def turnRs (R : List Ru) : List Ru := R.map ruTurn
theorem ruTurn_twice (r : Ru) : ruTurn (ruTurn r) = r := by obtain ⟨k, f, t, s, P⟩ := r; simp [ruTurn, turn_turn]
theorem turnRs_twice (R : List Ru) : turnRs (turnRs R) = R := by simp [turnRs, Function.comp_def, ruTurn_twice]
theorem turnRs_len (R : List Ru) : (turnRs R).length = R.length := by simp [turnRs]
theorem turnRs_at {R : List Ru} {i : Nat} (h : i < R.length) : ruAt (turnRs R) i = ruTurn (ruAt R i) := by
  rw [ruAt_get (by rw [turnRs_len]; exact h), ruAt_get h]; simp [turnRs]
theorem turnRs_take {R : List Ru} {i : Nat} (h : i < R.length) : turnRs (R.take (i + 1)) = turnRs (R.take i) ++ [ruTurn (ruAt R i)] := by rw [take_ru h]; simp [turnRs]
/-- Does nothing get lost by a rule? -/
def ruInv (a b : List Sp) (r : Ru) : Bool :=
  if r.1 = 2 ∨ r.1 = 3 then false
  else if r.1 = 1 ∧ rlW (fndP r.2.1 a).1 (fndP r.2.2.1 b).1 = false then false
  else if r.1 = 4 ∧ (fndP r.2.2.1 b).1.2.2.2.1 < (fndP r.2.1 a).1.2.2.2.1 then false
  else if r.1 = 5 ∧ bijB r.2.2.2.2 = false then false else true
theorem ruInv_in {a b : List Sp} {r : Ru} (h : ruInv a b r = true) : r.1 ≠ 2 ∧ r.1 ≠ 3 ∧ (r.1 = 1 → rlW (fndP r.2.1 a).1 (fndP r.2.2.1 b).1 = true) ∧ (r.1 = 4 → (fndP r.2.1 a).1.2.2.2.1 ≤ (fndP r.2.2.1 b).1.2.2.2.1) ∧ (r.1 = 5 → bijB r.2.2.2.2 = true) := by
  unfold ruInv at h
  by_cases h1 : r.1 = 2 ∨ r.1 = 3
  · rw [if_pos h1] at h; cases h
  · rw [if_neg h1] at h
    by_cases h2 : r.1 = 1 ∧ rlW (fndP r.2.1 a).1 (fndP r.2.2.1 b).1 = false
    · rw [if_pos h2] at h; cases h
    · rw [if_neg h2] at h
      by_cases h3 : r.1 = 4 ∧ (fndP r.2.2.1 b).1.2.2.2.1 < (fndP r.2.1 a).1.2.2.2.1
      · rw [if_pos h3] at h; cases h
      · rw [if_neg h3] at h
        by_cases h4 : r.1 = 5 ∧ bijB r.2.2.2.2 = false
        · rw [if_pos h4] at h; cases h
        · exact ⟨fun e => h1 (Or.inl e), fun e => h1 (Or.inr e), fun e => by simpa using fun g => h2 ⟨e, g⟩, fun e => Int.not_lt.1 fun g => h3 ⟨e, g⟩, fun e => by simpa using fun g => h4 ⟨e, g⟩⟩
/-- Does nothing get lost by a map? -/
def invB (st v : Int) (a : List Sp) (st' v' : Int) (b : List Sp) (M : List PairT) (R : List Ru) : Bool := decide ((xltN st v a st' v' b M R).1 = 0) && bijB M && R.all (ruInv a b)
theorem invB_in {st v : Int} {a : List Sp} {st' v' : Int} {b : List Sp} {M : List PairT} {R : List Ru} (h : invB st v a st' v' b M R = true) : (xltN st v a st' v' b M R).1 = 0 ∧ bijB M = true ∧ ∀ r ∈ R, ruInv a b r = true := by
  unfold invB at h
  simp only [Bool.and_eq_true, decide_eq_true_eq, List.all_eq_true] at h
  exact ⟨h.1.1, h.1.2, h.2⟩
theorem inv_at {a b : List Sp} {R : List Ru} (h : ∀ r ∈ R, ruInv a b r = true) {i : Nat} (hi : i < R.length) : ruInv a b (ruAt R i) = true := by rw [ruAt_get hi]; exact h _ (List.getElem_mem hi)

theorem rlT_all {x y : Sp} : ∀ {l : List PairT}, (∀ p ∈ l, rlV x p.1 = 0 ∧ rlV y p.2 = 0) → rlT x y l = 0
  | [], _ => rfl
  | q :: r, h => by
    obtain ⟨h1, h2⟩ := h q (by simp)
    rw [rlT_next h1 h2]
    exact rlT_all fun p hp => h p (by simp [hp])
theorem rlT_turn {x y : Sp} {l : List PairT} (h : rlT x y l = 0) : rlT y x (turnL l) = 0 := by
  refine rlT_all fun p hp => ?_
  simp only [turnL, List.mem_map] at hp
  obtain ⟨q, hq, rfl⟩ := hp
  exact ⟨(rlT_zero h q hq).2, (rlT_zero h q hq).1⟩
/-- A rule by which nothing gets lost may go the other way round. -/
theorem ruN_turn {a b : List Sp} {r : Ru} (h : ruN a b r = 0) (hi : ruInv a b r = true) : ruN b a (ruTurn r) = 0 := by
  obtain ⟨k, f, t, s, P⟩ := r
  obtain ⟨h0, h1, h2, h3, h4⟩ := rulN_zero (show rulN k f t s P a b = 0 from h)
  obtain ⟨n2, n3, i1, i4, i5⟩ := ruInv_in hi
  have n2 : k ≠ 2 := n2
  have n3 : k ≠ 3 := n3
  show rulN k t f s (turnL P) b a = 0
  have hA : (fndP f a).2 = true := by simpa [rlA, n3] using h1
  have hB : (fndP t b).2 = true := by simpa [rlB, n2] using h2
  have hC : rlC k s (turnL P) = true := by unfold rlC at *; rw [turn_len]; exact h3
  rw [rulN_kind h0 (by simpa [rlA, n3] using hB) (by simpa [rlB, n2] using hA) hC]
  rcases kind_cases h0 with rfl | rfl | rfl | rfl | rfl
  · have := i1 rfl
    show (if rlW (fndP f a).1 (fndP t b).1 then (0 : Int) else 6) = 0
    rw [show rlW (fndP f a).1 (fndP t b).1 = true from this, if_pos rfl]
  · exact absurd rfl n2
  · exact absurd rfl n3
  · have h5 : (if rlR (fndP f a).1 && rlR (fndP t b).1 then (0 : Int) else 6) = 0 := h4
    show (if rlR (fndP t b).1 && rlR (fndP f a).1 then (0 : Int) else 6) = 0
    rw [Bool.and_comm]; exact h5
  · have h5 : (if (tabN P).1 ≠ 0 ∨ P = [] then (15 : Int) else rlT (fndP f a).1 (fndP t b).1 P) = 0 := h4
    by_cases e : (tabN P).1 ≠ 0 ∨ P = []
    · rw [if_pos e] at h5; cases h5
    · rw [if_neg e] at h5
      have hb : bijB P = true := i5 rfl
      have hz : (tabN (turnL P)).1 = 0 := by
        unfold bijB at hb
        simp only [Bool.and_eq_true, decide_eq_true_eq] at hb
        exact hb.2
      have hne : turnL P ≠ [] := fun g => e (Or.inr (List.eq_nil_of_length_eq_zero (by rw [← turn_len, g]; rfl)))
      show (if (tabN (turnL P)).1 ≠ 0 ∨ turnL P = [] then (15 : Int) else rlT (fndP t b).1 (fndP f a).1 (turnL P)) = 0
      rw [if_neg (fun g => g.elim (fun g' => g' hz) hne)]
      exact rlT_turn h5
theorem twice_turn (x y : Ru) : twiceB (ruTurn x) (ruTurn y) = twiceB x y := by unfold twiceB ruTurn; exact Bool.or_comm _ _
theorem ruE_of {a b : List Sp} {R : List Ru} {i : Nat} (hi : i < R.length) (h : ruN a b (ruAt R i) = 0) (h2 : ∀ j, j < i → twiceB (ruAt R j) (ruAt R i) = false) : ruE a b R i = 0 := by
  unfold ruE
  rw [if_neg (by simp [h]), if_neg]
  rw [List.any_eq_true]
  rintro ⟨x, hx, he⟩
  obtain ⟨j, hj, rfl⟩ := List.getElem_of_mem hx
  rw [List.length_take] at hj
  have := h2 j (by omega)
  rw [ruAt_get (by omega : j < R.length)] at this
  rw [List.getElem_take, this] at he
  cases he
theorem mpB_turn (va vb : Int) (p : PairT) : mpB vb va (p.2, p.1) = mpB va vb p := by
  unfold mpB
  rw [Bool.and_comm (mtiV p.2 vb), show (askB p.2.data.toList == askB p.1.data.toList) = (askB p.1.data.toList == askB p.2.data.toList) from BEq.comm]

section
variable {st v : Int} {a : List Sp} {st' v' : Int} {b : List Sp} {M : List PairT} {R : List Ru} {m : ByteArray} {l : List Item}

/-- P22.2: it may go the other way round. -/
theorem inv_turn (h : invB st v a st' v' b M R = true) : xltN st' v' b st v a (turnL M) (turnRs R) = (0, 0, 0) := by
  obtain ⟨h1, h2, h3⟩ := invB_in h
  obtain ⟨ha, hb, hM, hp, hR, hr⟩ := xlt_zero h1
  have hxr := xr_of h1
  refine xlt_ok hb ha (by rw [turn_len]; exact hM) (fun j hj => ?_) (by rw [turnRs_len]; exact hR) (fun j hj => ?_)
  · rw [turn_len] at hj
    have hz : (tabN (turnL M)).1 = 0 := by
      unfold bijB at h2
      simp only [Bool.and_eq_true, decide_eq_true_eq] at h2
      exact h2.2
    have hn := nodup_ahead.1 (tab_zero.1 hz).2 j (by rw [turn_len]; exact hj)
    unfold mpE
    rw [if_neg (by rw [turn_at hj, mpB_turn, (mpE_zero (hp j hj)).1]; simp), if_neg (by rw [memB_no hn]; simp)]
  · rw [turnRs_len] at hj
    refine ruE_of (by rw [turnRs_len]; exact hj) ?_ fun i hi => ?_
    · rw [turnRs_at hj]; exact ruN_turn (hxr.1 j hj) (inv_at h3 hj)
    · rw [turnRs_at hj, turnRs_at (by omega), twice_turn]; exact hxr.2 i j hi hj
end

end Go.Proofs.YtbhlennolghjmaaDoor
