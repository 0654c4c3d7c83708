/-
  What a schema says of a field, over numbers alone: which specs may stand in a schema, which texts may be values, which spec is the wider one.
-/
import Derived.Test.YtmobillfeldcjaaDoorClsMath
import Derived.Test.YtmobillfeldcjaaDoorTlvMath
namespace Go.Proofs.YtmobillfeldcjaaDoor

/-- May these be the least and the greatest length, by the form? -/
def lenB (f lo hi : Int) : Bool := decide (1 ≤ lo) && decide (lo ≤ hi) && decide (hi ≤ 999) && (if f = 1 then lo == hi else if f = 2 then decide (hi ≤ 99) else true)
/-- The error that Check tells. -/
def spk (n c f lo hi : Int) : Int := if n < 2 ∨ 128 < n then 1 else if isC c = false then 6 else if f < 1 ∨ 3 < f then 3 else if lenB f lo hi = false then 5 else if c = 6 ∧ f = 1 then 13 else 0
/-- The error that Value tells. -/
def spv (n c f lo hi : Int) (s : ByteArray) : Int := if spk n c f lo hi ≠ 0 then 1 else if (s.size : Int) < lo ∨ hi < (s.size : Int) then 5 else if 0 ≤ fst c s.data.toList then 6 else if c = 6 ∧ (tlvN s).1 ≠ 0 then 13 else 0
/-- Which class is the wider one, lists' bytes apart. -/
def widC (a b : Int) : Bool := if a = 5 then true else if a = 6 ∨ b = 6 then a == b else wid a b
/-- Which spec is the wider one. -/
def spw (n c f lo hi n' c' f' lo' hi' : Int) : Bool := decide (spk n c f lo hi = 0) && decide (spk n' c' f' lo' hi' = 0) && decide (lo ≤ lo') && decide (hi' ≤ hi) && widC c c'

theorem spk_arg {n c f lo hi : Int} (h : n < 2 ∨ 128 < n) : spk n c f lo hi = 1 := by unfold spk; rw [if_pos h]
theorem spk_class {n c f lo hi : Int} (h : ¬ (n < 2 ∨ 128 < n)) (h1 : isC c = false) : spk n c f lo hi = 6 := by unfold spk; rw [if_neg h, if_pos h1]
theorem spk_form {n c f lo hi : Int} (h : ¬ (n < 2 ∨ 128 < n)) (h1 : isC c = true) (h2 : f < 1 ∨ 3 < f) : spk n c f lo hi = 3 := by unfold spk; rw [if_neg h, if_neg (by simp [h1]), if_pos h2]
theorem spk_range {n c f lo hi : Int} (h : ¬ (n < 2 ∨ 128 < n)) (h1 : isC c = true) (h2 : ¬ (f < 1 ∨ 3 < f)) (h3 : lenB f lo hi = false) : spk n c f lo hi = 5 := by unfold spk; rw [if_neg h, if_neg (by simp [h1]), if_neg h2, if_pos h3]
theorem spk_tag {n c f lo hi : Int} (h : ¬ (n < 2 ∨ 128 < n)) (h1 : isC c = true) (h2 : ¬ (f < 1 ∨ 3 < f)) (h3 : lenB f lo hi = true) (h4 : c = 6 ∧ f = 1) : spk n c f lo hi = 13 := by unfold spk; rw [if_neg h, if_neg (by simp [h1]), if_neg h2, if_neg (by simp [h3]), if_pos h4]
theorem spk_ok {n c f lo hi : Int} (h : ¬ (n < 2 ∨ 128 < n)) (h1 : isC c = true) (h2 : ¬ (f < 1 ∨ 3 < f)) (h3 : lenB f lo hi = true) (h4 : ¬ (c = 6 ∧ f = 1)) : spk n c f lo hi = 0 := by unfold spk; rw [if_neg h, if_neg (by simp [h1]), if_neg h2, if_neg (by simp [h3]), if_neg h4]
theorem lenB_in {f lo hi : Int} (h : lenB f lo hi = true) : 1 ≤ lo ∧ lo ≤ hi ∧ hi ≤ 999 := by
  simp [lenB] at h
  omega
theorem lenB_bad {f lo hi : Int} (h : ¬ (1 ≤ lo ∧ lo ≤ hi ∧ hi ≤ 999)) : lenB f lo hi = false := by
  cases e : lenB f lo hi
  · rfl
  · exact absurd (lenB_in e) h
theorem lenB_one {lo hi : Int} (h : 1 ≤ lo ∧ lo ≤ hi ∧ hi ≤ 999) : lenB 1 lo hi = (lo == hi) := by
  simp [lenB, h.1, h.2.1, h.2.2]
theorem lenB_two {lo hi : Int} (h : 1 ≤ lo ∧ lo ≤ hi ∧ hi ≤ 999) : lenB 2 lo hi = decide (hi ≤ 99) := by
  simp [lenB, h.1, h.2.1, h.2.2]
theorem lenB_three {lo hi : Int} (h : 1 ≤ lo ∧ lo ≤ hi ∧ hi ≤ 999) : lenB 3 lo hi = true := by
  simp [lenB, h.1, h.2.1, h.2.2]
theorem spk_in {n c f lo hi : Int} (h : spk n c f lo hi = 0) : isC c = true ∧ 1 ≤ lo ∧ lo ≤ hi ∧ hi ≤ 999 := by
  unfold spk at h
  split at h
  · omega
  split at h
  · omega
  rename_i h1
  split at h
  · omega
  split at h
  · omega
  rename_i h2
  exact ⟨by simpa using h1, lenB_in (by simpa using h2)⟩

theorem spv_arg {n c f lo hi : Int} {s : ByteArray} (h : spk n c f lo hi ≠ 0) : spv n c f lo hi s = 1 := by unfold spv; rw [if_pos h]
theorem spv_range {n c f lo hi : Int} {s : ByteArray} (h : spk n c f lo hi = 0) (h1 : (s.size : Int) < lo ∨ hi < (s.size : Int)) : spv n c f lo hi s = 5 := by unfold spv; rw [if_neg (by simp [h]), if_pos h1]
theorem spv_class {n c f lo hi : Int} {s : ByteArray} (h : spk n c f lo hi = 0) (h1 : ¬ ((s.size : Int) < lo ∨ hi < (s.size : Int))) (h2 : 0 ≤ fst c s.data.toList) : spv n c f lo hi s = 6 := by unfold spv; rw [if_neg (by simp [h]), if_neg h1, if_pos h2]
theorem spv_tag {n f lo hi : Int} {s : ByteArray} (h : spk n 6 f lo hi = 0) (h1 : ¬ ((s.size : Int) < lo ∨ hi < (s.size : Int))) (h2 : ¬ 0 ≤ fst 6 s.data.toList) (h3 : (tlvN s).1 ≠ 0) : spv n 6 f lo hi s = 13 := by unfold spv; rw [if_neg (by simp [h]), if_neg h1, if_neg h2, if_pos ⟨rfl, h3⟩]
theorem spv_list {n f lo hi : Int} {s : ByteArray} (h : spk n 6 f lo hi = 0) (h1 : ¬ ((s.size : Int) < lo ∨ hi < (s.size : Int))) (h2 : ¬ 0 ≤ fst 6 s.data.toList) (h3 : (tlvN s).1 = 0) : spv n 6 f lo hi s = 0 := by unfold spv; rw [if_neg (by simp [h]), if_neg h1, if_neg h2, if_neg (fun g => g.2 h3)]
theorem spv_ok {n c f lo hi : Int} {s : ByteArray} (h : spk n c f lo hi = 0) (h1 : ¬ ((s.size : Int) < lo ∨ hi < (s.size : Int))) (h2 : ¬ 0 ≤ fst c s.data.toList) (h3 : c ≠ 6) : spv n c f lo hi s = 0 := by unfold spv; rw [if_neg (by simp [h]), if_neg h1, if_neg h2, if_neg (fun g => h3 g.1)]
theorem spv_in {n c f lo hi : Int} {s : ByteArray} (h : spv n c f lo hi s = 0) : spk n c f lo hi = 0 ∧ ¬ ((s.size : Int) < lo ∨ hi < (s.size : Int)) ∧ ¬ 0 ≤ fst c s.data.toList ∧ ¬ (c = 6 ∧ (tlvN s).1 ≠ 0) := by
  unfold spv at h
  split at h
  · omega
  rename_i h0
  split at h
  · omega
  rename_i h1
  split at h
  · omega
  rename_i h2
  split at h
  · omega
  rename_i h3
  exact ⟨by simpa using h0, h1, h2, h3⟩

theorem isO_five (n : Nat) : isO 5 n = true := by
  rw [show isO 5 n = ((ks 5) &&& (kd n) != 0) from isO_at (k := 5) (by omega) (by omega) n]
  rcases kd_cases n with h | h | h | h <;> rw [h] <;> rfl
theorem fst_five (l : List UInt8) : fst 5 l = -1 := fst_all (by simp [isO_five])
theorem spw_in {n c f lo hi n' c' f' lo' hi' : Int} (h : spw n c f lo hi n' c' f' lo' hi' = true) : spk n c f lo hi = 0 ∧ spk n' c' f' lo' hi' = 0 ∧ lo ≤ lo' ∧ hi' ≤ hi ∧ widC c c' = true := by
  simp [spw] at h
  exact ⟨h.1.1.1.1, h.1.1.1.2, h.1.1.2, h.1.2, h.2⟩
theorem spw_keeps {n c f lo hi n' c' f' lo' hi' : Int} {s : ByteArray} (h : spw n c f lo hi n' c' f' lo' hi' = true) (hv : spv n' c' f' lo' hi' s = 0) : spv n c f lo hi s = 0 := by
  obtain ⟨h1, h2, h3, h4, h5⟩ := spw_in h
  obtain ⟨g1, g2, g3, g4⟩ := spv_in hv
  have hr : ¬ ((s.size : Int) < lo ∨ hi < (s.size : Int)) := by omega
  unfold widC at h5
  split at h5
  · rename_i hc
    subst hc
    exact spv_ok h1 hr (by rw [fst_five]; omega) (by omega)
  · split at h5
    · have hc : c = c' := by simpa using h5
      subst hc
      by_cases h6 : c = 6
      · subst h6
        exact spv_list h1 hr g3 (by
          apply Classical.byContradiction
          intro hn
          exact g4 ⟨rfl, hn⟩)
      · exact spv_ok h1 hr g3 h6
    · rename_i h6
      have hf := fst_keeps (l := s.data.toList) h5 (by omega)
      exact spv_ok h1 hr (by rw [hf]; omega) (fun e => h6 (Or.inl e))
theorem spv_long {n c f lo hi : Int} {s t : ByteArray} (h : spv n c f lo hi s = 0) (ht : hi < (t.size : Int)) : spv n c f lo hi t = 5 := spv_range (spv_in h).1 (Or.inr ht)

end Go.Proofs.YtmobillfeldcjaaDoor
