/-
  What the document's Put answers: for every number and width, in every world.
-/
import Derived.Test.YtildjjcepafhmaaDigAll
namespace Go.Proofs.Ytildjjcepafhmaa
open Go.RowKit

/-- 'string([]byte{c})' in the world that the literal leaves. -/
theorem dconv_one (q : Nat) (w : World) :
    (convert 37 9 (.slice (some ⟨w.heap.size, 0, none⟩) 1 1)).run Try.prog (w.alloc (.cells #[.int .u8 (48 + (q : Int) % 10)] 5)) = .ok (.string ⟨#[dg q]⟩) (w.alloc (.cells #[.int .u8 (48 + (q : Int) % 10)] 5)) := by
  have h := run_convert_bytes_back (P := Try.prog) (w.alloc (.cells #[.int .u8 (48 + (q : Int) % 10)] 5)) 37 9 5 ⟨w.heap.size, 0, none⟩ 1 [dg q] Try.underlying37 Try.underlying5 Try.underlying9 (by
    intro j hj
    have hj0 : j = 0 := by simpa using hj
    subst hj0
    have e : ((dg q).toNat : Int) = 48 + (q : Int) % 10 := by rw [dg_toNat]; omega
    simp [Addr.add, e])
  exact h

theorem putL_app (n j : Nat) : (⟨#[dg (n / 10 ^ j)]⟩ : ByteArray) ++ ⟨(putL n j).toArray⟩ = ⟨(putL n (j + 1)).toArray⟩ := by
  rw [putL_cons, ByteArray.mk_append_mk]
  simp

set_option maxHeartbeats 800000 in
theorem refPut_in (n k : Nat) (w : World) (hn : n ≤ 9223372036854775807) (h1 : 1 ≤ k) (h2 : k ≤ 18) :
    Calls Try.prog 23 #[.int .i64 (n : Int), .int .i64 (k : Int)] w fun e w' => e = .returned (.tuple #[.string (putS n k), .bool (putB n k)]) ∧ Below w.heap.size w w' := by
  go_enter Try.func23, Try.ntmps23
  go_wp2
  go_loopw [0, 6, 7] (fun a s i wr => ∃ j q : Nat, j ≤ k ∧ q = n / 10 ^ j ∧ i = .int .i64 (j : Int) ∧ a = .int .i64 (q : Int) ∧ s = .string ⟨(putL n j).toArray⟩ ∧ Below w.heap.size w wr) (fun _ _ i _ => k - (intOf i).toNat)
  case atStart => exact ⟨0, n, Nat.zero_le _, by simp, rfl, rfl, rfl, Below.refl _ _⟩
  case round =>
    obtain ⟨j, q, hj, hq, rfl, rfl, rfl, hb⟩ := hrel
    have hqn : q ≤ n := by rw [hq]; exact Nat.div_le_self _ _
    have HQ := Lib.hid hq; clear hq
    by_cases hlt : j < k
    · have hcv := dconv_one q wr
      have hadd : ∀ W : World, (Op.stringOp .add ⟨#[dg q]⟩ ⟨(putL n j).toArray⟩).run Try.prog W = .ok (.string ⟨(putL n (j + 1)).toArray⟩) W := by
        intro W
        rw [run_string_add_sum W _ _ (by show 1 + (putL n j).toArray.size ≤ _; simp [putL_length]; omega), HQ.out, putL_app]
      go_wp2
      go_roundw
      case rel => exact ⟨j + 1, q / 10, by omega, by rw [HQ.out, Nat.pow_succ, Nat.div_div_eq_div_mul], by go_num, by go_num, rfl, hb.alloc (by exact hb.size) _⟩
      case measure => simp [intOf]; omega
    · have hjk : j = k := by omega
      subst hjk
      by_cases hq0 : q = 0
      · subst hq0
        have hp : putB n j = true := putB_mk (by omega) (by omega) (by omega) (by simpa using HQ.out.symm)
        have HP := Lib.hid hp; clear hp
        go_wp2
        go_ret2
        exact ⟨by rw [putS_yes HP.out, HP.out]; rfl, hb⟩
      · have hp : putB n j = false := putB_no (Or.inr (Or.inr (Or.inr ⟨by omega, by rw [Int.toNat_natCast, Int.toNat_natCast, ← HQ.out]; omega⟩)))
        have HP := Lib.hid hp; clear hp
        have hne : ((q : Int) != 0) = true := by rw [bne_iff_ne]; omega
        go_wp2
        go_ret2
        exact ⟨by rw [putS_no HP.out, HP.out]; rfl, hb⟩

set_option maxHeartbeats 800000 in
theorem refPut_out (n k : Int) (w : World) (h : n < 0 ∨ k < 1 ∨ 18 < k) :
    Calls Try.prog 23 #[.int .i64 n, .int .i64 k] w fun e w' => e = .returned (.tuple #[.string (putS n k), .bool (putB n k)]) ∧ Below w.heap.size w w' := by
  have hp : putB n k = false := putB_no (by omega)
  have hs : putS n k = ⟨#[]⟩ := putS_no hp
  rw [hp, hs]
  clear hp hs
  by_cases h1 : n < 0
  · clear h
    go_enter Try.func23, Try.ntmps23
    go_wp2
    go_ret2
    exact ⟨rfl, Below.refl _ _⟩
  · by_cases h2 : k < 1
    · clear h
      go_enter Try.func23, Try.ntmps23
      go_wp2
      go_ret2
      exact ⟨rfl, Below.refl _ _⟩
    · have h3 : 18 < k := by omega
      clear h
      go_enter Try.func23, Try.ntmps23
      go_wp2
      go_ret2
      exact ⟨rfl, Below.refl _ _⟩
theorem refPut_any (n k : Int) (w : World) (hn : n ≤ 9223372036854775807) :
    Calls Try.prog 23 #[.int .i64 n, .int .i64 k] w fun e w' => e = .returned (.tuple #[.string (putS n k), .bool (putB n k)]) ∧ Below w.heap.size w w' := by
  by_cases h : n < 0 ∨ k < 1 ∨ 18 < k
  · exact refPut_out n k w h
  · obtain ⟨n, rfl⟩ := Int.eq_ofNat_of_zero_le (show 0 ≤ n by omega)
    obtain ⟨k, rfl⟩ := Int.eq_ofNat_of_zero_le (show 0 ≤ k by omega)
    exact refPut_in n k w (by omega) (by omega) (by omega)

end Go.Proofs.Ytildjjcepafhmaa
