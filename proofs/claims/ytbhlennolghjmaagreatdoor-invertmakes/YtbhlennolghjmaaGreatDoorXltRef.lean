/-
  What the document's Check of a map answers: for every map of up to the model's greatest length and schemas of up to 1000 specs, in every world.
-/
import Derived.Test.YtbhlennolghjmaaGreatDoorXltSmall
import Derived.Test.YtbhlennolghjmaaGreatDoorPackRul
import Derived.Test.YtbhlennolghjmaaGreatDoorPackSch
import Derived.Test.YtbhlennolghjmaaGreatDoorPackCod
import Derived.Test.YtbhlennolghjmaaGreatDoorPackBase
namespace Go.Proofs.YtbhlennolghjmaaGreatDoor
open Go.RowKit

/-- 'l[:k]' of a slice of pairs. -/
theorem xcut_head (a : Addr) (n cap k : Nat) (hk : k ≤ cap) (W : World) : (Instr.slice 22 (.slice (some a) n cap) none (some (.int .i64 (k : Int))) none).run Tryz.prog W = .ok (.slice (some a) k cap) W := by
  obtain ⟨i0, hi, hz0, hz1, hz2⟩ := info_parts Tryz.infoPair
  rw [run_slice_h W 22 (some a) n cap (by kernel_rfl) .i64 (k : Int) (by omega) (by omega), show Tryz.prog.elem 22 = 42 by kernel_rfl, run_sizeOf W hi]
  simp [sliced, Result.andThen, Addr.add]
theorem ruE_told {a b : List Sp} {R : List Ru} {i : Nat} {r : Ru} (h : ruAt R i = r) : ruE a b R i = if ruN a b r ≠ 0 then ruN a b r else if (R.take i).any (fun x => twiceB x r) = true then 10 else 0 := by
  unfold ruE
  rw [h]
theorem any_twice {R : List Ru} {r : Ru} {p : Nat} (hp : p ≤ R.length) : ((R.take p).any (fun x => twiceB x r) = false) ↔ ∀ j, j < p → twiceB (ruAt R j) r = false := by
  constructor
  · intro h j hj
    rw [List.any_eq_false] at h
    have hm : ruAt R j ∈ R.take p := by
      rw [← ruAt_take hj, ruAt_get (by rw [List.length_take]; omega)]
      exact List.getElem_mem _
    simpa using h _ hm
  · intro h
    rw [List.any_eq_false]
    intro x hx
    obtain ⟨j, hj, rfl⟩ := List.getElem_of_mem hx
    rw [List.length_take] at hj
    have := h j (by omega)
    rw [← ruAt_take (k := p) (by omega), ruAt_get (by rw [List.length_take]; omega)] at this
    simpa using this
theorem mpE_told {va vb : Int} {M : List PairT} {i : Nat} {x y : ByteArray} (h : duoAt M i = (x, y)) : mpE va vb M i = if (mtiV x va && mtiV y vb && (askB x.data.toList == askB y.data.toList)) = false then 7 else if memB x (froms (M.take i)) = true then 10 else 0 := by
  unfold mpE mpB
  rw [h]
end Go.Proofs.YtbhlennolghjmaaGreatDoor
