/-
  Two halves are the same just if their bytes are, one by one: what the operator == says.
-/
import Derived.Test.YtdnckiaeeikbhaaBmpSmall
import Derived.ChangeKeysEq
namespace Go.Proofs.Ytdnckiaeeikbhaa
open Go.RowKit

theorem run_part_u8 {xs : Array Value} {i : Nat} {v : Value} (h : xs[i]? = some v) (w : World) : (part 5 xs i).run Try.prog w = .ok v w := by
  simp [part, isAgg, run_underlying Try.underlying5, h]
theorem eqItems_u8 (d : Nat) (xs ys : Array Value) (f g : Nat → Int) (w : World) : ∀ is : List Nat, (∀ i ∈ is, xs[i]? = some (.int .u8 (f i))) → (∀ i ∈ is, ys[i]? = some (.int .u8 (g i))) →
    (Op.eqItems (d + 1) 5 1 xs ys is).run Try.prog w = .ok (is.all fun i => f i == g i) w
  | [], _, _ => by simp [Op.eqItems]
  | i :: is, hx, hy => by
    have h1 := run_part_u8 (hx i (by simp)) w
    have h2 := run_part_u8 (hy i (by simp)) w
    have h3 := run_equalIn_int (P := Try.prog) w d 5 .u8 .u8 (f i) (g i) Try.underlying5
    have ih := eqItems_u8 d xs ys f g w is (fun j hj => hx j (by simp [hj])) (fun j hj => hy j (by simp [hj]))
    simp only [Op.eqItems, Sem.run_bind, Nat.mul_one, h1, h2, h3, Result.andThen_ok]
    cases hb : f i == g i
    · simp [hb]
    · simp only [Bool.not_true, Bool.false_eq_true, if_false, List.all_cons, hb, Bool.true_and]
      exact ih
theorem half_eq (a b c d e f g i : Nat) (w : World) :
    (Op.equalIn 10000 50 (.agg #[.int .u8 (a : Int), .int .u8 (b : Int), .int .u8 (c : Int), .int .u8 (d : Int), .int .u8 (e : Int), .int .u8 (f : Int), .int .u8 (g : Int), .int .u8 (i : Int)]) (.agg #[.int .u8 0, .int .u8 0, .int .u8 0, .int .u8 0, .int .u8 0, .int .u8 0, .int .u8 0, .int .u8 0])).run Try.prog w =
      .ok (decide (a = 0 ∧ b = 0 ∧ c = 0 ∧ d = 0 ∧ e = 0 ∧ f = 0 ∧ g = 0 ∧ i = 0)) w := by
  obtain ⟨i0, hi, _⟩ := info_parts Try.infoX8
  rw [show (10000 : Nat) = 9999 + 1 from rfl, run_equalIn_array w 9999 _ _ Try.underlying50 hi, show Try.prog.cellsOf 5 = 1 by kernel_rfl]
  rw [show (9999 : Nat) = 9998 + 1 from rfl, eqItems_u8 9998 _ _ (fun j => ([a, b, c, d, e, f, g, i].getD j 0 : Nat)) (fun _ => 0) w (List.range 8) (by simp [show List.range 8 = [0, 1, 2, 3, 4, 5, 6, 7] from rfl]) (by simp [show List.range 8 = [0, 1, 2, 3, 4, 5, 6, 7] from rfl])]
  congr 1
  rw [show List.range 8 = [0, 1, 2, 3, 4, 5, 6, 7] from rfl]
  rw [Bool.eq_iff_iff]
  simp
theorem half_eq_yes (w : World) : (Op.equalIn 10000 50 (.agg #[.int .u8 0, .int .u8 0, .int .u8 0, .int .u8 0, .int .u8 0, .int .u8 0, .int .u8 0, .int .u8 0]) (.agg #[.int .u8 0, .int .u8 0, .int .u8 0, .int .u8 0, .int .u8 0, .int .u8 0, .int .u8 0, .int .u8 0])).run Try.prog w = .ok true w :=
  half_eq 0 0 0 0 0 0 0 0 w
theorem half_eq_no (a b c d e f g i : Nat) (h : ¬ (a = 0 ∧ b = 0 ∧ c = 0 ∧ d = 0 ∧ e = 0 ∧ f = 0 ∧ g = 0 ∧ i = 0)) (w : World) :
    (Op.equalIn 10000 50 (.agg #[.int .u8 (a : Int), .int .u8 (b : Int), .int .u8 (c : Int), .int .u8 (d : Int), .int .u8 (e : Int), .int .u8 (f : Int), .int .u8 (g : Int), .int .u8 (i : Int)]) (.agg #[.int .u8 0, .int .u8 0, .int .u8 0, .int .u8 0, .int .u8 0, .int .u8 0, .int .u8 0, .int .u8 0])).run Try.prog w = .ok false w := by
  rw [half_eq, decide_eq_false h]

end Go.Proofs.Ytdnckiaeeikbhaa
