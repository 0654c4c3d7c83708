/-
  What Put answers: for every number and width, in every world.
-/
import Derived.Test.YtildjjcepafhmaaDigAll
namespace Go.Proofs.Ytildjjcepafhmaa
open Go.RowKit

theorem Try.infoU8 : (Try.prog.info? 5).map (fun i => (i.zero, i.size, i.bytes)) = some (some (.int .u8 0), 1, 1) := by kernel_rfl

def vb (c : UInt8) : Value := .int .u8 (c.toNat : Int)
def row (n k j : Nat) : List Value := List.replicate (k - j) (.int .u8 0) ++ (putL n j).map vb
theorem row_length (n k j : Nat) (h : j ≤ k) : (row n k j).length = k := by
  simp [row, putL_length, Nat.sub_add_cancel h]
theorem row_step (n k j q : Nat) (hj : j < k) (hq : q = n / 10 ^ j) : (row n k j).set (k - 1 - j) (.int .u8 (48 + (q : Int) % 10)) = row n k (j + 1) := by
  have e : (Value.int .u8 (48 + (q : Int) % 10)) = vb (dg (n / 10 ^ j)) := by
    unfold vb; rw [dg_toNat, ← hq]; congr 1
  rw [e]
  unfold row
  rw [List.set_append_left _ _ (by simp; omega), putL_cons, List.map_cons]
  have e2 : (List.replicate (k - j) (Value.int .u8 0)).set (k - 1 - j) (vb (dg (n / 10 ^ j))) = List.replicate (k - (j + 1)) (Value.int .u8 0) ++ [vb (dg (n / 10 ^ j))] := by
    rw [show k - j = (k - 1 - j) + 1 from by omega, List.replicate_succ']
    rw [List.set_append_right _ _ (by simp)]
    simp
    omega
  rw [e2]
  simp

set_option maxHeartbeats 800000 in
theorem put_in (n k : Nat) (w : World) (hn : n ≤ 9223372036854775807) (h1 : 1 ≤ k) (h2 : k ≤ 18) :
    Calls Try.prog 22 #[.int .i64 (n : Int), .int .i64 (k : Int)] w fun e w' => e = .returned (.tuple #[.string (putS n k), .bool (putB n k)]) ∧ Below w.heap.size w w' := by
  obtain ⟨i0, hi, hz0, hz1, hz2⟩ := info_parts Try.infoU8
  have hneg : decide ((n : Int) < 0) = false := by simp
  go_enter Try.func22, Try.ntmps22
  go_wp2_with (first | (go_at_call 24; refine (within_yes _ _ _ (by omega) (by omega)).mono ?_; rintro e w' ⟨rfl, rfl⟩) | (at_make; refine wpList_make_full _ rfl _ _ 37 rfl w.heap.size 5 i0 (.int .u8 0) 1 Try.underlying37 hi hz0 hz1 _ _ _ _ k rfl rfl rfl rfl ?b1 ?b2 ?b3 ?_))
  case b1 => rw [hz2]; omega
  case b2 => unfold maxLen; omega
  case b3 => exact Nat.le_refl _
  intro w1 hown hg
  rw [show (madeCells #[Value.int .u8 0] k).toList = row n k 0 from by simp [row, putL, toList_madeCells_one]] at hown
  have hb1 : Below w.heap.size w w1 := (Below.refl _ _).grown hg (Nat.le_refl _) (by simp)
  clear hg hi hz0 hz1 hz2
  have HO := Lib.hid hown; clear hown
  go_wp2
  go_loopw [0, 7] (fun a i wr => ∃ j q : Nat, j ≤ k ∧ q = n / 10 ^ j ∧ i = .int .i64 ((k : Int) - 1 - (j : Int)) ∧ a = .int .i64 (q : Int) ∧ wr.ownsRow w.heap.size 5 1 (.slice (some ⟨w.heap.size, 0, none⟩) k k) k (row n k j) ∧ Below w.heap.size w wr) (fun _ i _ => (intOf i + 1).toNat)
  case atStart => exact ⟨0, n, Nat.zero_le _, by simp, by simp, rfl, HO.out, hb1⟩
  case round =>
    obtain ⟨j, q, hj, hq, rfl, rfl, hown, hb⟩ := hrel
    have hqn : q ≤ n := by rw [hq]; exact Nat.div_le_self _ _
    have HQ := Lib.hid hq; clear hq HO hb1
    by_cases hlt : j < k
    · obtain ⟨v0, hcell⟩ : ∃ v0, wr.cell? ⟨w.heap.size, k - 1 - j, none⟩ = some v0 := ⟨_, (hown.cellAt (k - 1 - j) (by omega)).trans (List.getElem?_eq_getElem (by rw [row_length _ _ _ hj]; omega))⟩
      have hfr := hown.frozenAt (k - 1 - j)
      have hst := hown.stored (k - 1 - j) (.int .u8 (48 + (q : Int) % 10))
      rw [row_step n k j q hlt HQ.out] at hst
      have HST := Lib.hid hst
      clear hst hown
      obtain ⟨m, hm⟩ : ∃ m : Nat, m = k - 1 - j := ⟨_, rfl⟩
      rw [← hm] at hcell hfr HST
      have hmi : (k : Int) - 1 - (j : Int) = (m : Int) := by omega
      rw [hmi]
      have HM := Lib.hid hm; clear hm
      have hmk : m < k := by have := HM.out; omega
      have HMI := Lib.hid hmi; clear hmi
      go_wp2
      go_roundw
      case rel => exact ⟨j + 1, q / 10, by omega, by rw [HQ.out, Nat.pow_succ, Nat.div_div_eq_div_mul], by have h := HMI.out; rw [← h]; go_num, by go_num, HST.out.1, hb.grown HST.out.2 (by exact hb.size) (by simp)⟩
      case measure => simp [intOf]
    · have hjk : j = k := by omega
      subst hjk
      have hcv : (convert 37 9 (.slice (some ⟨w.heap.size, 0, none⟩) j j)).run Try.prog wr = .ok (.string ⟨(putL n j).toArray⟩) wr := by
        have h := run_convert_bytes_back (P := Try.prog) wr 37 9 5 ⟨w.heap.size, 0, none⟩ j (putL n j) Try.underlying37 Try.underlying5 Try.underlying9 (by
          intro i hi
          rw [putL_length] at hi
          have hc := hown.cellAt i (by omega)
          rw [show (⟨w.heap.size, 0, none⟩ : Addr).add i = ⟨w.heap.size, i, none⟩ from by rw [Addr.add_lit, Nat.zero_add], hc]
          simp [row, vb, putL_length, hi])
        rw [putL_length] at h
        exact h
      clear hown
      by_cases hq0 : q = 0
      · subst hq0
        have hp : putB n j = true := putB_mk (by omega) (by omega) (by omega) (by simpa using HQ.out.symm)
        have HP := Lib.hid hp; clear hp
        go_wp2
        go_ret2
        exact ⟨by rw [putS_yes HP.out, HP.out]; rfl, hb⟩
      · have hp : putB n j = false := putB_no (Or.inr (Or.inr (Or.inr ⟨by omega, by rw [Int.toNat_natCast, Int.toNat_natCast, ← HQ.out]; omega⟩)))
        have HP := Lib.hid hp; clear hp
        go_wp2
        go_ret2
        exact ⟨by rw [putS_no HP.out, HP.out]; rfl, hb⟩

set_option maxHeartbeats 800000 in
theorem put_out (n k : Int) (w : World) (h : n < 0 ∨ k < 1 ∨ 18 < k) :
    Calls Try.prog 22 #[.int .i64 n, .int .i64 k] w fun e w' => e = .returned (.tuple #[.string (putS n k), .bool (putB n k)]) ∧ Below w.heap.size w w' := by
  have hp : putB n k = false := putB_no (by omega)
  have hs : putS n k = ⟨#[]⟩ := putS_no hp
  rw [hp, hs]
  clear hp hs
  by_cases h1 : n < 0
  · clear h
    have hneg : decide (n < 0) = true := by simpa using h1
    go_enter Try.func22, Try.ntmps22
    go_wp2
    go_ret2
    exact ⟨rfl, Below.refl _ _⟩
  · have hneg : decide (n < 0) = false := by simpa using h1
    have h2 : k < 1 ∨ 18 < k := by omega
    have H2 := Lib.hid h2; clear h h2
    go_enter Try.func22, Try.ntmps22
    go_wp2_with (go_at_call 24; refine (within_no _ _ _ H2.out).mono ?_; rintro e w' ⟨rfl, rfl⟩)
    go_ret2
    exact ⟨rfl, Below.refl _ _⟩
theorem put_any (n k : Int) (w : World) (hn : n ≤ 9223372036854775807) :
    Calls Try.prog 22 #[.int .i64 n, .int .i64 k] w fun e w' => e = .returned (.tuple #[.string (putS n k), .bool (putB n k)]) ∧ Below w.heap.size w w' := by
  by_cases h : n < 0 ∨ k < 1 ∨ 18 < k
  · exact put_out n k w h
  · obtain ⟨n, rfl⟩ := Int.eq_ofNat_of_zero_le (show 0 ≤ n by omega)
    obtain ⟨k, rfl⟩ := Int.eq_ofNat_of_zero_le (show 0 ≤ k by omega)
    exact put_in n k w (by omega) (by omega) (by omega)

end Go.Proofs.Ytildjjcepafhmaa
