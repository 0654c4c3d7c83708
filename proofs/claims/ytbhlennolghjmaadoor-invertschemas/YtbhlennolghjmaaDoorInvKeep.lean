/-
  Whether a rule that may be loses nothing, as the program asks; what a map's rules come to. (Plain functions.)
-/
import Derived.Test.YtbhlennolghjmaaDoorInvMore
namespace Go.Proofs.YtbhlennolghjmaaDoor

/-- Does a rule lose nothing? (Both ways as wide.) -/
def kpB (a b : List Sp) (r : Ru) : Bool :=
  if r.1 = 1 then rlW (fndP r.2.1 a).1 (fndP r.2.2.1 b).1 && rlW (fndP r.2.2.1 b).1 (fndP r.2.1 a).1
  else if r.1 = 4 then decide ((fndP r.2.1 a).1.2.2.2.1 ≤ (fndP r.2.2.1 b).1.2.2.2.1)
  else if r.1 = 5 then bijB r.2.2.2.2 else false
theorem kp_of {a b : List Sp} {r : Ru} (h : ruN a b r = 0) : kpB a b r = ruInv a b r := by
  obtain ⟨k, f, t, s, P⟩ := r
  obtain ⟨h0, _, _, _, h4⟩ := rulN_zero (show rulN k f t s P a b = 0 from h)
  rcases kind_cases h0 with rfl | rfl | rfl | rfl | rfl
  · have h5 : (if rlW (fndP t b).1 (fndP f a).1 then (0 : Int) else 6) = 0 := h4
    have h6 : rlW (fndP t b).1 (fndP f a).1 = true := by
      cases e : rlW (fndP t b).1 (fndP f a).1
      · rw [e] at h5; cases h5
      · rfl
    show (rlW (fndP f a).1 (fndP t b).1 && rlW (fndP t b).1 (fndP f a).1) = ruInv a b (1, f, t, s, P)
    rw [h6, Bool.and_true]
    unfold ruInv
    cases e : rlW (fndP f a).1 (fndP t b).1 <;> simp
  · rfl
  · rfl
  · show decide ((fndP f a).1.2.2.2.1 ≤ (fndP t b).1.2.2.2.1) = ruInv a b (4, f, t, s, P)
    unfold ruInv
    by_cases e : (fndP t b).1.2.2.2.1 < (fndP f a).1.2.2.2.1
    · rw [decide_eq_false (by omega)]; simp [e]
    · rw [decide_eq_true (by omega)]; simp [e]
  · show bijB P = ruInv a b (5, f, t, s, P)
    unfold ruInv
    cases e : bijB P <;> simp

section
variable {st v : Int} {a : List Sp} {st' v' : Int} {b : List Sp} {M : List PairT} {R : List Ru}
theorem inv_err (h : (xltN st v a st' v' b M R).1 ≠ 0) : invB st v a st' v' b M R = false := by simp [invB, h]
theorem inv_bij (h : bijB M = false) : invB st v a st' v' b M R = false := by simp [invB, h]
theorem inv_bad {i : Nat} (hi : i < R.length) (h : ruInv a b (ruAt R i) = false) : invB st v a st' v' b M R = false := by
  have : R.all (ruInv a b) = false := by
    rw [List.all_eq_false]
    refine ⟨ruAt R i, ?_, by simp [h]⟩
    rw [ruAt_get hi]; exact List.getElem_mem hi
  simp [invB, this]
theorem inv_yes (h : (xltN st v a st' v' b M R).1 = 0) (h2 : bijB M = true) (h3 : ∀ i, i < R.length → ruInv a b (ruAt R i) = true) : invB st v a st' v' b M R = true := by
  have : R.all (ruInv a b) = true := by
    rw [List.all_eq_true]
    intro r hr
    obtain ⟨i, hi, rfl⟩ := ru_mem hr
    exact h3 i hi
  simp [invB, h, h2, this]
theorem kp_at (h : (xltN st v a st' v' b M R).1 = 0) {i : Nat} (hi : i < R.length) : kpB a b (ruAt R i) = ruInv a b (ruAt R i) := kp_of ((xr_of h).1 i hi)
/-- What a rule that may be finds. -/
theorem inv_found (h : (xltN st v a st' v' b M R).1 = 0) {i : Nat} (hi : i < R.length) {k f t : Int} {s : ByteArray} {P : List PairT} (hx : ruAt R i = (k, f, t, s, P)) :
    (k = 1 ∨ k = 2 ∨ k = 3 ∨ k = 4 ∨ k = 5) ∧ (k ≠ 3 → (fndP f a).2 = true) ∧ (k ≠ 2 → (fndP t b).2 = true) := by
  have hr := (xr_of h).1 i hi
  rw [hx] at hr
  obtain ⟨h0, h1, h2, _, _⟩ := rulN_zero (show rulN k f t s P a b = 0 from hr)
  exact ⟨kind_cases h0, fun n => by simpa [rlA, n] using h1, fun n => by simpa [rlB, n] using h2⟩
end

/-- The law's three maps. -/
theorem los_all : (losR.filter fun _ => true) = losR := List.filter_eq_self.2 fun _ _ => rfl
theorem los_one : invB 1 0 acqL 2 1 issL losM losR = true := by rw [← los_all]; exact los_inv _
theorem los_drop : invB 1 0 acqL 2 1 issL losM (losR ++ [(2, 13, 0, ⟨#[]⟩, [])]) = false := by decide +kernel
theorem los_turned : invB 2 1 issL 1 0 acqL (turnL losM) (turnRs losR) = false := by decide +kernel
theorem los_len : losR.length = 21 ∧ losM.length = 2 ∧ (turnRs losR).length = 21 := by decide +kernel
theorem los_none : ∀ r ∈ losR, r.2.2.2.1 = ⟨#[]⟩ ∧ r.2.2.2.2 = [] := by decide +kernel
theorem los_at {k : Nat} (h : k < 21) : ruAt losR k = (if losL.getD k 0 = 12 then 4 else 1, losL.getD k 0, losL.getD k 0, ⟨#[]⟩, []) := by
  have h2 : k < losL.length := h
  rw [ruAt_get (by unfold losR; rw [List.length_map]; exact h2)]
  unfold losR
  rw [List.getElem_map, show losL.getD k 0 = losL[k] by simp [List.getD, h2]]

end Go.Proofs.YtbhlennolghjmaaDoor
