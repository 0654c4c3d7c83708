/-
  What follows of rules: what one that may be makes of a value that its field may have; a schema and itself. (Plain functions.)
-/
import Derived.Test.YthheflgfbdcnlaaGreatDoorRulOf
import Derived.Test.YthheflgfbdcnlaaGreatDoorPackSpc
namespace Go.Proofs.YthheflgfbdcnlaaGreatDoor

theorem isO_digit : ∀ c : Fin 256, isO 1 c.val = (decide (48 ≤ c.val) && decide (c.val ≤ 57)) := by decide +kernel
theorem isO_isD (c : UInt8) : isO 1 c.toNat = isD c := by
  have := isO_digit ⟨c.toNat, c.toNat_lt⟩
  exact this
theorem rul_digits {l : List UInt8} (h : allD l = true) : fst 1 l = -1 := by
  refine fst_all ?_
  rw [List.all_eq_true]
  intro c hc
  rw [isO_isD]
  exact List.all_eq_true.1 h c hc
theorem digits_fst {l : List UInt8} (h : ¬ 0 ≤ fst 1 l) : allD l = true := by
  rcases fst_cases 1 l with ⟨_, h2⟩ | ⟨k, _, h2, _⟩
  · unfold allD
    rw [List.all_eq_true] at h2 ⊢
    intro c hc
    rw [← isO_isD]
    exact h2 c hc
  · rw [h2] at h; omega
theorem isD_nought : isD 48 = true := by decide
theorem padL_digits {l : List UInt8} {w : Int} (h : allD l = true) : allD (padL l w) = true := by
  unfold padL allD
  rw [List.all_append, Bool.and_eq_true]
  refine ⟨?_, allD_drop h _⟩
  rw [List.all_eq_true]
  intro c hc
  rw [(List.mem_replicate.1 hc).2]
  exact isD_nought
theorem padL_size {l : List UInt8} {w : Int} : (padL l w).length = w.toNat := by
  unfold padL
  rw [List.length_append, List.length_replicate, List.length_drop]
  omega
theorem padB_in {l : List UInt8} {w : Int} (h : padB l w = true) : allD l = true ∧ 1 ≤ w ∧ w ≤ 999 := by
  unfold padB padA at h
  simp only [Bool.and_eq_true, decide_eq_true_eq] at h
  exact ⟨h.1.1.1.2, h.1.1.2, h.1.2⟩
/-- Digits of a fixed length: what is repadded is a value. -/
theorem rlV_pad {x : Sp} {u : ByteArray} (hs : spkS x = 0) (hr : rlR x = true) (hp : padB u.data.toList x.2.2.2.1 = true) : rlV x (padS u.data.toList x.2.2.2.1) = 0 := by
  obtain ⟨n, c, f, lo, hi⟩ := x
  unfold rlR at hr
  simp only [Bool.and_eq_true, beq_iff_eq] at hr
  obtain ⟨rfl, rfl⟩ := hr
  have hk : spk n 1 1 lo hi = 0 := hs
  obtain ⟨_, h1, h2, h3⟩ := spk_in hk
  have hlen : lo = hi := by
    by_cases e : lo = hi
    · exact e
    · have hn := spk_no hk
      rw [spk_range (by omega) (by decide) (by omega) (by rw [lenB_one ⟨h1, h2, h3⟩]; simpa using e)] at hk
      cases hk
  subst hlen
  obtain ⟨hd, _, _⟩ := padB_in hp
  show spv n 1 1 lo lo (padS u.data.toList lo) = 0
  rw [padS_yes hp]
  have hsz : ((⟨(padL u.data.toList lo).toArray⟩ : ByteArray).size : Int) = lo := by
    show ((padL u.data.toList lo).toArray.size : Int) = lo
    rw [List.size_toArray, padL_size]
    omega
  have hl : (⟨(padL u.data.toList lo).toArray⟩ : ByteArray).data.toList = padL u.data.toList lo := by simp
  refine spv_ok hk (by rw [hsz]; omega) ?_ (by omega)
  rw [hl, rul_digits (padL_digits hd)]
  omega
/-- Digits of as many: they stay. -/
theorem pad_same {x : Sp} {u : ByteArray} (hr : rlR x = true) (hv : rlV x u = 0) : padB u.data.toList x.2.2.2.1 = true ∧ padS u.data.toList x.2.2.2.1 = u := by
  obtain ⟨n, c, f, lo, hi⟩ := x
  unfold rlR at hr
  simp only [Bool.and_eq_true, beq_iff_eq] at hr
  obtain ⟨rfl, rfl⟩ := hr
  have hv' : spv n 1 1 lo hi u = 0 := hv
  obtain ⟨hk, hz, hf, _⟩ := spv_in hv'
  obtain ⟨_, h1, h2, h3⟩ := spk_in hk
  have hlen : lo = hi := by
    by_cases e : lo = hi
    · exact e
    · have hn := spk_no hk
      rw [spk_range (by omega) (by decide) (by omega) (by rw [lenB_one ⟨h1, h2, h3⟩]; simpa using e)] at hk
      cases hk
  subst hlen
  have hul : u.data.toList.length = u.size := by simp
  have hd := digits_fst hf
  have hA : padA u.data.toList lo = true := padA_yes (by omega) (by omega) hd h1 h3
  have hB : padB u.data.toList lo = true := by
    rw [padB_eq hA, show u.data.toList.length - lo.toNat = 0 by omega]
    rfl
  refine ⟨hB, ?_⟩
  show padS u.data.toList lo = u
  rw [padS_yes hB]
  apply bs_ext
  unfold padL
  rw [show lo.toNat - u.data.toList.length = 0 by omega, show u.data.toList.length - lo.toNat = 0 by omega]
  simp

theorem spkS_at {st v : Int} {l : List Sp} (h : (schN st v l).1 = 0) {k : Nat} (hk : k < l.length) : spkS (spAt l k) = 0 := by
  rw [spAt_get hk]
  exact (right_rise h).right _ (List.getElem_mem hk)

/-- P20.3: what a rule that may be makes of a value that From may have. -/
theorem rul_valid {k f t : Int} {s : ByteArray} {P : List PairT} {a b : List Sp} {st' v' : Int} {x : ByteArray} (h : rulN k f t s P a b = 0) (hb : (schN st' v' b).1 = 0)
    (hx : ∀ i : Nat, i < a.length → fndI f 0 a = (i : Int) → fndP f a = (spAt a i, true) → rlV (spAt a i) x = 0) :
    ((rapN k t s P b x).2.2 ≠ 0 ∧ ((k = 4 ∧ (rapN k t s P b x).2.2 = 5) ∨ (k = 5 ∧ (rapN k t s P b x).2.2 = 15)) ∧ (rapN k t s P b x).1 = 0 ∧ (rapN k t s P b x).2.1 = ⟨#[]⟩) ∨
    ((rapN k t s P b x).2.2 = 0 ∧ k = 2 ∧ (rapN k t s P b x).1 = 0 ∧ (rapN k t s P b x).2.1 = ⟨#[]⟩) ∨
    ((rapN k t s P b x).2.2 = 0 ∧ k ≠ 2 ∧ (rapN k t s P b x).1 = t ∧ ∃ j : Nat, j < b.length ∧ fndI t 0 b = (j : Int) ∧ rlV (spAt b j) (rapN k t s P b x).2.1 = 0) := by
  obtain ⟨h0, h1, h2, h3, h4⟩ := rulN_zero h
  have hto : k ≠ 2 → ∃ j : Nat, j < b.length ∧ fndI t 0 b = (j : Int) ∧ fndP t b = (spAt b j, true) := fun hk => by
    unfold rlB at h2
    rw [if_neg hk] at h2
    rcases fnd_cases t b with ⟨_, hn⟩ | hj
    · rw [hn] at h2; cases h2
    · exact hj
  rcases kind_cases h0 with rfl | rfl | rfl | rfl | rfl
  · obtain ⟨j, hj, hji, hjp⟩ := hto (by omega)
    refine Or.inr (Or.inr ⟨rfl, by omega, rfl, j, hj, hji, ?_⟩)
    rw [hjp] at h4
    unfold rlA at h1
    rw [if_neg (by omega)] at h1
    rcases fnd_cases f a with ⟨_, hn⟩ | ⟨i, hi, hii, hip⟩
    · rw [hn] at h1; cases h1
    · rw [hip] at h4
      have hw : rlW (spAt b j) (spAt a i) = true := by
        unfold rlK at h4
        rw [if_pos rfl] at h4
        by_cases e : rlW (spAt b j) (spAt a i) = true
        · exact e
        · rw [if_neg e] at h4; cases h4
      exact spw_keeps hw (hx i hi hii hip)
  · exact Or.inr (Or.inl ⟨rfl, rfl, rfl, rfl⟩)
  · obtain ⟨j, hj, hji, hjp⟩ := hto (by omega)
    refine Or.inr (Or.inr ⟨rfl, by omega, rfl, j, hj, hji, ?_⟩)
    rw [hjp] at h4
    exact h4
  · obtain ⟨j, hj, hji, hjp⟩ := hto (by omega)
    rw [rap_4, hjp]
    by_cases hp : padB x.data.toList (spAt b j).2.2.2.1 = false
    · rw [if_neg (by simp), if_pos hp]
      exact Or.inl ⟨by simp, Or.inl ⟨rfl, rfl⟩, rfl, rfl⟩
    · rw [if_neg (by simp), if_neg hp]
      refine Or.inr (Or.inr ⟨rfl, by omega, rfl, j, hj, hji, ?_⟩)
      rw [hjp] at h4
      have hr : rlR (spAt b j) = true := by
        have h5 : (if rlR (fndP f a).1 && rlR (spAt b j) then (0 : Int) else 6) = 0 := h4
        cases hr : rlR (spAt b j)
        · rw [hr, Bool.and_false] at h5; cases h5
        · rfl
      exact rlV_pad (spkS_at hb hj) hr (by simpa using hp)
  · obtain ⟨j, hj, hji, hjp⟩ := hto (by omega)
    rw [rap_5]
    by_cases hp : appB P x = false
    · rw [if_pos hp]
      exact Or.inl ⟨by simp, Or.inr ⟨rfl, rfl⟩, rfl, rfl⟩
    · rw [if_neg hp]
      refine Or.inr (Or.inr ⟨rfl, by omega, rfl, j, hj, hji, ?_⟩)
      rw [hjp] at h4
      have h5 : (if (tabN P).1 ≠ 0 ∨ P = [] then (15 : Int) else rlT (fndP f a).1 (spAt b j) P) = 0 := h4
      by_cases e : (tabN P).1 ≠ 0 ∨ P = []
      · rw [if_pos e] at h5; cases h5
      · rw [if_neg e] at h5
        exact (rlT_zero h5 _ (app_mem (by simpa using hp))).2

theorem spw_self {n c f lo hi : Int} (h : spk n c f lo hi = 0) : spw n c f lo hi n c f lo hi = true := by
  have hc := (spk_in h).1
  have hw : widC c c = true := by
    unfold widC
    by_cases h5 : c = 5
    · rw [if_pos h5]
    · rw [if_neg h5]
      by_cases h6 : c = 6
      · rw [if_pos (Or.inl h6)]; simp
      · rw [if_neg (by omega)]
        exact wid_all hc hc (fun _ _ h => h)
  simp [spw, h, hw]
/-- From a schema to itself. -/
theorem rul_copy {no : Int} {l : List Sp} {st v : Int} {i : Nat} (hs : (schN st v l).1 = 0) (hi : i < l.length) (hf : fndP no l = (spAt l i, true)) : rulN 1 no no ⟨#[]⟩ [] l l = 0 := by
  rw [rulN_kind (by omega) (by simp [rlA, hf]) (by simp [rlB, hf]) (by simp [rlC, noS])]
  rw [hf]
  have hw : rlW (spAt l i) (spAt l i) = true := spw_self (spkS_at hs hi)
  show (if rlW (spAt l i) (spAt l i) then (0 : Int) else 6) = 0
  rw [if_pos hw]
theorem rul_copy_none {no : Int} {l : List Sp} (hf : (fndP no l).2 = false) : rulN 1 no no ⟨#[]⟩ [] l l = 9 := rulN_from (by omega) (by simp [rlA, hf])
theorem rul_repad {no : Int} {l : List Sp} {i : Nat} (hf : fndP no l = (spAt l i, true)) (hr : rlR (spAt l i) = true) : rulN 4 no no ⟨#[]⟩ [] l l = 0 := by
  rw [rulN_kind (by omega) (by simp [rlA, hf]) (by simp [rlB, hf]) (by simp [rlC, noS])]
  rw [hf]
  show (if rlR (spAt l i) && rlR (spAt l i) then (0 : Int) else 6) = 0
  rw [hr]
  rfl
theorem rap_repad {no : Int} {l : List Sp} {i : Nat} {u : ByteArray} (hf : fndP no l = (spAt l i, true)) (hr : rlR (spAt l i) = true) (hv : rlV (spAt l i) u = 0) : rapN 4 no ⟨#[]⟩ [] l u = (no, u, 0) := by
  obtain ⟨h1, h2⟩ := pad_same hr hv
  rw [rap_4, hf, if_neg (by simp), if_neg (by simp [h1]), h2]

end Go.Proofs.YthheflgfbdcnlaaGreatDoor
