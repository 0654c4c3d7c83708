/-
  How many fields decoding reads, and how long their values are.
-/
import Derived.Test.YtlkpiapmdflahaaDoorStcMath
namespace Go.Proofs.YtlkpiapmdflahaaDoor

theorem decF_len {st : Nat} {sl : List Sp} {s : ByteArray} : ∀ (L : List Int) (p : Nat), (decF st sl s L p).1.length ≤ L.length
  | [], p => by rw [decF_nil]; exact Nat.le_refl _
  | no :: r, p => by
    cases h1 : (fndP no sl).2
    · rw [decF_none h1]; exact Nat.zero_le _
    · by_cases h2 : (cgetP st (fndP no sl).1 s p).2.2 = 0
      · have hc : cgetP st (fndP no sl).1 s p = ((cgetP st (fndP no sl).1 s p).1, (cgetP st (fndP no sl).1 s p).2.1, 0) := by rw [← h2]
        rw [decF_ok h1 hc]
        have := decF_len (st := st) (sl := sl) (s := s) r (cgetP st (fndP no sl).1 s p).2.1
        show _ + 1 ≤ r.length + 1
        omega
      · rw [decF_bad h1 h2]; exact Nat.zero_le _
theorem decN_len (st v : Int) (sl : List Sp) (s : ByteArray) : (decN st v sl s).2.1.length ≤ 128 := by
  unfold decN
  split
  · exact Nat.zero_le _
  · split
    · exact Nat.zero_le _
    · split
      · exact Nat.zero_le _
      · split
        · exact Nat.zero_le _
        · refine Nat.le_trans (decF_len _ _) ?_
          rw [zi_length]
          exact listN_length_le _ _ _
theorem decN_short_vals (st v : Int) (sl : List Sp) (s : ByteArray) : ∀ x ∈ (decN st v sl s).2.1, x.2.size ≤ maxLen := by
  rcases decN_told st v sl s with ⟨_, h, _⟩ | ⟨_, h, _⟩
  · rw [h]; intro x hx; simp at hx
  · intro x hx
    have := okV_size ((valid_all h).2 x hx)
    unfold maxLen
    omega

end Go.Proofs.YtlkpiapmdflahaaDoor
