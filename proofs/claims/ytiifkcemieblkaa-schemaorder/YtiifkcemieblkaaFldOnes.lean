/-
  What OnesCount64 and Len answer: for every number and set, in every world.
-/
import Derived.Test.YtiifkcemieblkaaFldSmall
import Derived.Laws.Bits128
import Derived.Laws.BitsLemmas
import Derived.Deep.RegionWith
namespace Go.Proofs.Ytiifkcemieblkaa
open Go.RowKit Go.Lib

theorem ones_facts (x : Nat) (hx : x < M64) : ∃ a b y c d z s t u v q : Nat,
    bits .and .u64 ((x : Int) / 2) 6148914691236517205 = (a : Int) ∧ bits .and .u64 (x : Int) 6148914691236517205 = (b : Int) ∧ IntKind.u64.wrap ((a : Int) + (b : Int)) = (y : Int) ∧
    bits .and .u64 ((y : Int) / 4) 3689348814741910323 = (c : Int) ∧ bits .and .u64 (y : Int) 3689348814741910323 = (d : Int) ∧ IntKind.u64.wrap ((c : Int) + (d : Int)) = (z : Int) ∧
    IntKind.u64.wrap ((z : Int) / 16 + (z : Int)) = (s : Int) ∧ bits .and .u64 (s : Int) 1085102592571150095 = (t : Int) ∧
    IntKind.u64.wrap ((t : Int) + (t : Int) / 256) = (u : Int) ∧ IntKind.u64.wrap ((u : Int) + (u : Int) / 65536) = (v : Int) ∧ IntKind.u64.wrap ((v : Int) + (v : Int) / 4294967296) = (q : Int) ∧
    q < 9223372036854775808 ∧ bits .and .i64 (q : Int) 127 = (onesCount x : Int) := by
  have hx' : x < 18446744073709551616 := hx
  have c1 := n1_le x
  have c2 := n2_le x
  have c3 := n3_le x
  have c6 := n6_pop x hx'
  refine ⟨x / 2 &&& 6148914691236517205, x &&& 6148914691236517205, n1 x, n1 x / 4 &&& 3689348814741910323, n1 x &&& 3689348814741910323, n2 x, n2 x / 16 + n2 x, n3 x, n4 x, n5 x, n6 x, ?_, ?_, ?_, ?_, ?_, ?_, ?_, ?_, ?_, ?_, ?_, c6.2, ?_⟩
  · rw [← u64_and_nat _ _ (by omega) (by omega)]; simp
  · rw [← u64_and_nat _ _ (by omega) (by omega)]; simp
  · rw [IntKind.wrap_u64]
    unfold n1 at *
    omega
  · rw [← u64_and_nat _ _ (by omega) (by omega)]; simp
  · rw [← u64_and_nat _ _ (by omega) (by omega)]; simp
  · rw [IntKind.wrap_u64]
    unfold n2 at *
    omega
  · rw [IntKind.wrap_u64]
    omega
  · unfold n3
    rw [← u64_and_nat _ _ (by omega) (by omega)]; simp
  · rw [IntKind.wrap_u64]
    unfold n4
    omega
  · rw [IntKind.wrap_u64]
    unfold n5 n4
    omega
  · rw [IntKind.wrap_u64]
    unfold n6 n5 n4
    omega
  · rw [i64_and127]; omega

set_option maxHeartbeats 800000 in
theorem ones_any (x : Nat) (hx : x < M64) (w : World) :
    Calls Try.prog 30 #[.int .u64 (x : Int)] w fun e w' => e = .returned (.int .i64 (onesCount x : Int)) ∧ w' = w := by
  obtain ⟨a, b, y, c, d, z, s, t, u, v, q, e1, e2, e3, e4, e5, e6, e7, e8, e9, e10, e11, hq, e12⟩ := ones_facts x hx
  clear hx
  generalize onesCount x = r at e12 ⊢
  have e13 : wrap64 (q : Int) = (q : Int) := by unfold wrap64; omega
  go_enter Try.func30, Try.ntmps30
  go_wp2
  go_ret
  exact ⟨rfl, rfl⟩

set_option maxHeartbeats 800000 in
theorem len_any (h l : Nat) (w : World) (b1 : h < M64) (b2 : l < M64) :
    Calls Try.prog 22 #[setV h l] w fun e w' => e = .returned (.int .i64 ((onesCount h + onesCount l : Nat) : Int)) ∧ Below w.heap.size w w' := by
  unfold setV
  have HA : Hid (∀ W, Calls Try.prog 30 #[.int .u64 (h : Int)] W fun e w' => e = .returned (.int .i64 (onesCount h : Int)) ∧ w' = W) := fun W => ones_any h b1 W
  have HB : Hid (∀ W, Calls Try.prog 30 #[.int .u64 (l : Int)] W fun e w' => e = .returned (.int .i64 (onesCount l : Int)) ∧ w' = W) := fun W => ones_any l b2 W
  have c1 := onesCount_le h
  have c2 := onesCount_le l
  generalize onesCount h = x at *
  generalize onesCount l = y at *
  go_enter Try.func22, Try.ntmps22
  go_wp2_with fail
  go_quiet (first | (go_at_call_of 30 (Value.int .u64 (h : Int)); exact Calls.quiet_of_same (HA.out _)) | (go_at_call_of 30 (Value.int .u64 (l : Int)); exact Calls.quiet_of_same (HB.out _)))
  go_wp2
  go_ret
  exact ⟨rfl, hbt (below_al _ _) (below_drewN _ _)⟩

end Go.Proofs.Ytiifkcemieblkaa
