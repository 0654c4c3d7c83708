/-
  Sets as keys of a map: two keys are the same just if the sets are.
-/
import Derived.Test.YtlclmhninhdfnaaFldSet
import Derived.Maps.Own
import Derived.DeepKeys4
import Derived.Carry
namespace Go.Proofs.Ytlclmhninhdfnaa
open Go.RowKit Go.Maps

theorem wf_u64 {x : Nat} (h : x < M64) : (Lit.int .u64 (x : Int)).wf = true := by
  have h' : x < 18446744073709551616 := h
  have h1 : IntKind.u64.min = 0 := rfl
  have h2 : IntKind.u64.max = 18446744073709551615 := rfl
  simp only [Lit.wf, Bool.and_eq_true, decide_eq_true_eq]
  omega
theorem keyed : Keyed Try.prog 24 := Keyed.of_law (deep_law_laid (m := 3) (by kernel_rfl) (by omega) (of_decide_eq_true (by kernel_rfl)) (by kernel_rfl) (by kernel_rfl))
theorem lit_u64 (d : Nat) {x : Nat} (h : x < M64) : Try.prog.keyLits (d + 1) 22 [.int .u64 (x : Int)] = some [.int .u64 (x : Int)] := by
  simp only [Program.keyLits, Try.underlying22]
  rw [if_pos ⟨trivial, wf_u64 h⟩]
theorem key_set {h l : Nat} (b1 : h < M64) (b2 : l < M64) : ∃ kl, keyOf Try.prog 24 (.agg #[.int .u64 (h : Int), .int .u64 (l : Int)]) = some (.string kl) := by
  have hk : Try.prog.keyType 24 = true := by kernel_rfl
  have hc : Try.prog.cellsOf 24 = 2 := by kernel_rfl
  have hc2 : Try.prog.cellsOf 22 = 1 := by kernel_rfl
  obtain ⟨d, hd⟩ : ∃ d, Try.prog.types.size = d + 1 := ⟨Try.prog.types.size - 1, by have : 0 < Try.prog.types.size := of_decide_eq_true (by kernel_rfl); omega⟩
  unfold keyOf
  rw [Try.underlying24]
  simp only [hk, Value.formed, Try.underlying24, hc, Bool.true_and, hd]
  simp [Program.keyLits, Try.underlying24, hc, hc2, Value.cells, Try.underlying22, wf_u64 b1, wf_u64 b2]

/-- One entry: what is at a key. -/
theorem at_one {H : Type} (k k' : List UInt8) (d z : DataW H) : ((DataW.map []).put (.string k) d).atKey (.string k') z = if k = k' then d else z := by
  by_cases h : k = k'
  · subst h; simp [DataW.put, DataW.atKey, DataW.insert, Lit.sameKey]
  · simp [DataW.put, DataW.atKey, DataW.insert, Lit.sameKey, h]

theorem zero_int (w : World) : (zeroValue 3).run Try.prog w = .ok (.int .i64 0) w := by kernel_rfl
/-- A new map with one key, and what is found in it. -/
theorem map_one (w : World) {h l : Nat} (b1 : h < M64) (b2 : l < M64) : ∃ w', (Instr.mapUpdate 47 (.map (some w.heap.size)) (.agg #[.int .u64 (h : Int), .int .u64 (l : Int)]) (.int .i64 1)).run Try.prog (w.alloc (.map #[] 0)) = .ok () w' ∧ Below w.heap.size w w' ∧
    ∀ h' l' : Nat, h' < M64 → l' < M64 → (Instr.lookup 47 (.map (some w.heap.size)) (.agg #[.int .u64 (h' : Int), .int .u64 (l' : Int)]) false).run Try.prog w' = .ok (.int .i64 (if h = h' ∧ l = l' then 1 else 0)) w' := by
  obtain ⟨k, hk⟩ := key_set b1 b2
  have hown := World.ownsMap_made (H := Unit) w Try.prog 24 (plainElem Try.prog 3)
  obtain ⟨w', hrun, hown', hgrow⟩ := hown.update keyed Try.underlying47 (by unfold maxLen; omega) hk (plainElem_int (q := .i64) (a := 1) Try.underlying3 (by decide))
  refine ⟨w', hrun, (below_al w _).grown hgrow (by simp) (fun q hq => by cases hq; exact Nat.le_refl _), fun h' l' c1 c2 => ?_⟩
  obtain ⟨k', hk'⟩ := key_set c1 c2
  obtain ⟨c, hrun', hat, _⟩ := hown'.lookup_int keyed Try.underlying47 Try.underlying3 (zero_int _) hk'
  rw [hrun']
  rw [at_one] at hat
  by_cases he : h = h' ∧ l = l'
  · obtain ⟨rfl, rfl⟩ := he
    rw [hk] at hk'
    injection hk' with hk'
    injection hk' with hk'
    rw [if_pos hk'] at hat
    injection hat with hat
    injection hat with _ hat
    rw [← hat, if_pos ⟨rfl, rfl⟩]
  · have hne : k ≠ k' := by
      intro e
      subst e
      have := keyed.inj hk hk'
      injection this with this
      simp at this
      exact he (by omega)
    rw [if_neg hne] at hat
    injection hat with hat
    injection hat with _ hat
    rw [← hat, if_neg he]

end Go.Proofs.Ytlclmhninhdfnaa
