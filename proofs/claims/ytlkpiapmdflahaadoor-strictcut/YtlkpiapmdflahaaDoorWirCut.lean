/-
  's[:k]' of a text; '==' of two texts, told.
-/
import Derived.Test.YtlkpiapmdflahaaDoorWirMath
import Derived.WalkKit
import Derived.Laws.Concat
namespace Go.Proofs.YtlkpiapmdflahaaDoor
open Go.RowKit

theorem str_bool {x y : ByteArray} {r : Bool} (h : x = y ↔ r = true) : (x.toList == y.toList) = r := by
  rw [Bool.eq_iff_iff, beq_iff_eq, ← h]
  constructor
  · intro g
    rw [ByteArray.toList_eq, ByteArray.toList_eq] at g
    rw [ByteArray.ext_iff]
    exact Array.toList_inj.1 g
  · rintro rfl; rfl
theorem cut_str (s : ByteArray) (k : Nat) (hk : k ≤ s.size) (W : World) : (Instr.slice 9 (.string s) none (some (.int .i64 (k : Int))) none).run Tryd.prog W = .ok (.string (s.extract 0 k)) W := by
  have h0 : (k : Int) ≤ (s.size : Int) := by omega
  simp [go_sem, h0]

end Go.Proofs.YtlkpiapmdflahaaDoor
