/-
  Which messages become something by a map by which nothing gets lost; the maps of the lossless fields alone. (Plain functions.)
-/
import Derived.Test.YtbhlennolghjmaaDoorInvPure
import Derived.Test.YtbhlennolghjmaaDoorPackDia
namespace Go.Proofs.YtbhlennolghjmaaDoor

/-- Has a field a rule, and a pair, if that is a table? (The last rule that takes it.) -/
def ruledR (x : Item) (r : Ru) : Bool := decide (r.1 ≠ 5) || r.2.2.2.2.any fun p => decide (p.1 = x.2)
def ruledN (x : Item) (R : List Ru) : Bool := R.foldl (fun g r => if r.2.1 = x.1 then ruledR x r else g) false
theorem ruled_step {x : Item} {R : List Ru} {k : Nat} (hk : k < R.length) : ruledN x (R.take (k + 1)) = if (ruAt R k).2.1 = x.1 then ruledR x (ruAt R k) else ruledN x (R.take k) := by
  unfold ruledN
  rw [take_ru hk, List.foldl_append]
  rfl
theorem any_from (P : List PairT) (t : ByteArray) : (P.any fun p => decide (p.1 = t)) = appB P t := by
  rw [app_ahead]
  simp [memB, froms, List.any_map, Function.comp_def]
theorem any_from_step {P : List PairT} {k : Nat} (hk : k < P.length) (t : ByteArray) : ((P.take (k + 1)).any fun p => decide (p.1 = t)) = (((P.take k).any fun p => decide (p.1 = t)) || decide ((duoAt P k).1 = t)) := by
  rw [take_succ_duo hk, List.any_append]; simp

section
variable {st v : Int} {a : List Sp} {st' v' : Int} {b : List Sp} {M : List PairT} {R : List Ru} {m : ByteArray} {l : List Item}

theorem ruled_take (hR : XR a b R) {x : Item} (h0 : x.1 ≠ 0) {i : Nat} (hi : ruI x.1 R = some i) : ∀ k, k ≤ R.length → ruledN x (R.take k) = if i < k then ruledR x (ruAt R i) else false
  | 0, _ => by rw [if_neg (by omega)]; rfl
  | k + 1, hk => by
    have ih := ruled_take hR h0 hi k (by omega)
    obtain ⟨h1, h2, h3⟩ := ruI_some hi
    rw [ruled_step (by omega), ih]
    by_cases hik : k = i
    · subst hik
      rw [if_pos h2, if_pos (by omega)]
    · have hne : (ruAt R k).2.1 ≠ x.1 := by
        have := (hR.apart h1 (show k < R.length by omega) (fun e => hik e.symm)).1 (by rw [h2]; exact h0)
        rw [h2] at this
        exact fun e => this e.symm
      rw [if_neg hne]
      by_cases h4 : i < k
      · rw [if_pos h4, if_pos (by omega)]
      · rw [if_neg h4, if_neg (by omega)]
theorem ruled_is (hR : XR a b R) {x : Item} (h0 : x.1 ≠ 0) {i : Nat} (hi : ruI x.1 R = some i) : ruledN x R = ruledR x (ruAt R i) := by
  have h := ruled_take hR h0 hi R.length (Nat.le_refl _)
  rw [List.take_of_length_le (Nat.le_refl _)] at h
  rw [h, if_pos (ruI_some hi).1]
theorem ruled_none {x : Item} : ∀ {R : List Ru}, ruI x.1 R = none → ruledN x R = false := by
  intro R h
  have hno : ∀ j, j < R.length → (ruAt R j).2.1 ≠ x.1 := by
    unfold ruI at h
    rw [List.find?_eq_none] at h
    exact fun j hj => by simpa using h j (by simpa using hj)
  have : ∀ k, k ≤ R.length → ruledN x (R.take k) = false := by
    intro k
    induction k with
    | zero => intro _; rfl
    | succ k ih => intro hk; rw [ruled_step (by omega), if_neg (hno k (by omega))]; exact ih (by omega)
  have h2 := this R.length (Nat.le_refl _)
  rwa [List.take_of_length_le (Nat.le_refl _)] at h2
/-- A field becomes something just if it has a rule, and a pair, if that is a table. -/
theorem one_ruled (h : invB st v a st' v' b M R = true) {x : Item} (hx : okV a x) : (xone b R x).2.2 = 0 ↔ ruledN x R = true := by
  obtain ⟨h1, h2, h3⟩ := invB_in h
  obtain ⟨ha, hb, _⟩ := xlt_zero h1
  have hR := xr_of h1
  have hno := okV_range ha hx
  cases hri : ruI x.1 R with
  | none => rw [one_none hri, ruled_none hri]; simp
  | some i =>
    obtain ⟨hi, hf, _⟩ := ruI_some hri
    have hinv := ruInv_in (inv_at h3 hi)
    have hrn := hR.1 i hi
    rw [one_some hri, ruled_is hR (by omega) hri]
    generalize ruAt R i = r at *
    obtain ⟨k, f, t, s, P⟩ := r
    have hf : f = x.1 := hf
    subst hf
    obtain ⟨h0, r1, r2, _, r4⟩ := rulN_zero (show rulN k x.1 t s P a b = 0 from hrn)
    obtain ⟨n2, n3, i1, i4, i5⟩ := hinv
    have n2 : k ≠ 2 := n2
    have n3 : k ≠ 3 := n3
    show (rapN k t s P b x.2).2.2 = 0 ↔ (decide (k ≠ 5) || P.any fun p => decide (p.1 = x.2)) = true
    have hB : (fndP t b).2 = true := by simpa [rlB, n2] using r2
    rcases kind_cases h0 with rfl | rfl | rfl | rfl | rfl
    · simp [rap_1]
    · exact absurd rfl n2
    · exact absurd rfl n3
    · have hle : (fndP x.1 a).1.2.2.2.1 ≤ (fndP t b).1.2.2.2.1 := i4 rfl
      have h5 : (if rlR (fndP x.1 a).1 && rlR (fndP t b).1 then (0 : Int) else 6) = 0 := r4
      have hrr : rlR (fndP x.1 a).1 = true ∧ rlR (fndP t b).1 = true := by
        cases e1 : rlR (fndP x.1 a).1 <;> cases e2 : rlR (fndP t b).1 <;> rw [e1, e2] at h5 <;> first | exact ⟨rfl, rfl⟩ | cases h5
      have hsp : spkS (fndP t b).1 = 0 := (right_rise hb).right _ (fnd_no t b hB).2
      obtain ⟨p1, _, _⟩ := pad_back hrr.1 hrr.2 hsp hle hx.2
      rw [rap_4, if_neg (by simp [hB]), if_neg (by simp [p1])]
      simp
    · rw [any_from, rap_5]
      cases e : appB P x.2
      · simp
      · simp
/-- P22.3: which messages become something. -/
theorem inv_makes (h : invB st v a st' v' b M R = true) (hm : msgN st v a m l = (0, 0)) : decide ((xltT st v a st' v' b M R m l).2.2 = (0, 0)) = ((M.any fun p => decide (p.1 = m)) && l.all fun x => ruledN x R) := by
  obtain ⟨h1, _, _⟩ := invB_in h
  obtain ⟨_, _, hl⟩ := valid_in hm
  have hfit := fits_in hl
  have hm1 : (msgN st v a m l).1 = 0 := by rw [hm]
  rw [any_from]
  cases hp : appB M m
  · rw [xt_mti h1 hm1 hp]; rfl
  · rw [Bool.true_and]
    by_cases he : (xerr b R l).1 = 0
    · rw [xt_ok h1 hm1 hp he]
      have : (l.all fun x => ruledN x R) = true := by
        rw [List.all_eq_true]
        intro x hx
        exact (one_ruled h (hfit x hx)).1 (xerr_zero he x hx)
      rw [this]; rfl
    · rw [xt_field h1 hm1 hp he]
      have : (l.all fun x => ruledN x R) = false := by
        rw [List.all_eq_false]
        refine Decidable.byContradiction fun g => he ?_
        rw [xerr_all fun x hx => ?_]
        rw [one_ruled h (hfit x hx)]
        refine Decidable.byContradiction fun g2 => g ⟨x, hx, by simpa using g2⟩
      rw [this, decide_eq_false_iff_not]
      intro e
      exact he (by rw [show xerr b R l = (0, 0) from e])
end

/-- The map of the lossless fields. -/
def losR : List Ru := losL.map fun no => (if no = 12 then 4 else 1, no, no, ⟨#[]⟩, [])
def losM : List PairT := [(⟨#[48, 50, 48, 48]⟩, ⟨#[49, 50, 48, 48]⟩), (⟨#[48, 50, 49, 48]⟩, ⟨#[49, 50, 49, 48]⟩)]
theorem losR_ok : ∀ r ∈ losR, ruN acqL issL r = 0 ∧ ruInv acqL issL r = true := by decide +kernel
theorem losR_apart : losR.Pairwise fun x y => twiceB x y = false := by decide +kernel
theorem losM_ok : (schN 1 0 acqL).1 = 0 ∧ (schN 2 1 issL).1 = 0 ∧ (∀ j, j < losM.length → mpE 0 1 losM j = 0) ∧ bijB losM = true := by decide +kernel
theorem los_inv (p : Ru → Bool) : invB 1 0 acqL 2 1 issL losM (losR.filter p) = true := by
  obtain ⟨h1, h2, h3, h4⟩ := losM_ok
  have hlen : (losR.filter p).length ≤ 256 := Nat.le_trans (List.length_filter_le _ _) (by decide)
  have hap : (losR.filter p).Pairwise fun x y => twiceB x y = false := List.Pairwise.filter _ losR_apart
  have hok : ∀ r ∈ losR.filter p, ruN acqL issL r = 0 ∧ ruInv acqL issL r = true := fun r hr => losR_ok r (List.mem_filter.1 hr).1
  have hx : xltN 1 0 acqL 2 1 issL losM (losR.filter p) = (0, 0, 0) := by
    refine xlt_ok h1 h2 (by decide) h3 hlen fun j hj => ruE_of hj ?_ fun i hi => ?_
    · rw [ruAt_get hj]; exact (hok _ (List.getElem_mem hj)).1
    · rw [ruAt_get (by omega : i < _), ruAt_get hj]; exact List.pairwise_iff_getElem.1 hap i j (by omega) hj hi
  unfold invB
  simp only [Bool.and_eq_true, decide_eq_true_eq, List.all_eq_true]
  exact ⟨⟨by rw [hx], h4⟩, fun r hr => (hok r hr).2⟩

end Go.Proofs.YtbhlennolghjmaaDoor
