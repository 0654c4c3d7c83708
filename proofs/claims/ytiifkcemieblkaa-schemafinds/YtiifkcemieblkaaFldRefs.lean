/-
  What the document's Halves and Same answer: for every list, in every world.
-/
import Derived.Test.YtiifkcemieblkaaFldRef
import Derived.IntWalk
namespace Go.Proofs.Ytiifkcemieblkaa
open Go.RowKit Go.Lib


theorem acc_step (p : Nat → Bool) (b k : Nat) (hk : k < 64) : ∃ y : Nat, accN p b k = y ∧ y < 9223372036854775808 ∧ accN p b (k + 1) = y * 2 + (if p (b + k + 1) = true then 1 else 0) := by
  refine ⟨accN p b k, rfl, ?_, rfl⟩
  have h1 := accN_lt p b k
  have h2 : 2 ^ k ≤ 2 ^ 63 := Nat.pow_le_pow_right (by omega) (by omega)
  omega

set_option maxRecDepth 100000 in
set_option maxHeartbeats 1600000 in
theorem refHalves_any (A : Option Addr) (cap : Nat) (zs : List Int) (w : World) (hI : Ints w A zs) (hz : zs.length ≤ 1000) :
    Calls Try.prog 14 #[.slice A zs.length cap] w fun e w' => e = .returned (.tuple #[.int .u64 (ofH zs : Int), .int .u64 (ofL zs : Int)]) ∧ w = w' := by
  have HI := Lib.hid (fun (n : Nat) => refIn_any A cap zs (n : Int) w hI hz)
  clear hI
  have HO := Lib.hid (acc_of zs)
  have hfun : (fun n : Nat => decide ((n : Int) ∈ zs)) = (fun n : Nat => decide ((n : Int) ∈ zs)) := rfl
  clear hfun
  generalize hp : (fun n : Nat => decide ((n : Int) ∈ zs)) = p at HO
  have HP : Hid (∀ n : Nat, Calls Try.prog 27 #[.slice A zs.length cap, .int .i64 (n : Int)] w fun e w' => e = .returned (.bool (p n)) ∧ w = w') := by
    intro n
    rw [← hp]
    exact HI.out n
  clear HI hp
  generalize zs.length = len at *
  go_enter Try.func14, Try.ntmps14
  go_wp2
  go_loop [4, 5, 6] (fun x y i => ∃ n m : Nat, n = m + 1 ∧ m ≤ 128 ∧ i = .int .i64 (n : Int) ∧ x = .int .u64 ((accN p 0 (min m 64) : Nat) : Int) ∧ y = .int .u64 ((accN p 64 (m - 64) : Nat) : Int)) (fun _ _ i => 129 - (intOf i).toNat)
  case atStart => exact ⟨1, 0, rfl, by omega, rfl, rfl, rfl⟩
  case round =>
    obtain ⟨n, m, hn, hm, rfl, rfl, rfl⟩ := hrel
    by_cases h1 : m < 64
    · have e1 : min m 64 = m := by omega
      have e2 : m - 64 = 0 := by omega
      obtain ⟨y, hy, hy1, hy2⟩ := acc_step p 0 (m) (by omega)
      rw [e1, e2, hy]
      have hc := HP.out n
      rw [show 0 + (m) + 1 = n by omega] at hy2
      have hw : IntKind.u64.wrap ((y : Int) * 2) = ((y * 2 : Nat) : Int) := by rw [IntKind.wrap_u64]; omega
      have hw2 : IntKind.u64.wrap (((y * 2 : Nat) : Int) + 1) = ((y * 2 + 1 : Nat) : Int) := by rw [IntKind.wrap_u64]; omega
      have hn1 : 1 ≤ n := by omega
      have hn2 : n ≤ 64 := by omega
      have HN := Lib.hid hn
      have H1 := Lib.hid h1
      generalize hz0 : accN p 64 0 = z0
      have HZ := Lib.hid hz0
      clear hy hn hm h1 hy1 hz0 e1 e2
      generalize y * 2 = z at *
      generalize hz1 : z + 1 = z1 at *
      have HZ1 := Lib.hid hz1; clear hz1
      cases hb : p n
      · rw [hb] at hc hy2
        have HC := Lib.hid hc; clear hc hb
        have H2 := Lib.hid hy2; clear hy2
        go_wp2_with fail
        refine HC.out.mono ?_
        rintro e w1 ⟨rfl, rfl⟩
        go_wp2
        go_round
        case rel =>
          have h3 := H2.out
          have h4 := HN.out
          have h5 := H1.out
          refine ⟨n + 1, m + 1, by omega, by omega, by go_num, ?_, ?_⟩
          · rw [show min (m + 1) 64 = m + 1 by omega, h3]; simp
          · rw [show m + 1 - 64 = 0 by omega, HZ.out]
        case measure => have := HN.out; have := H1.out; simp [intOf]; omega
      · rw [hb] at hc hy2
        have HC := Lib.hid hc; clear hc hb
        have H2 := Lib.hid hy2; clear hy2
        go_wp2_with fail
        refine HC.out.mono ?_
        rintro e w1 ⟨rfl, rfl⟩
        go_wp2
        go_round
        case rel =>
          have h3 := H2.out
          have h4 := HN.out
          have h5 := H1.out
          refine ⟨n + 1, m + 1, by omega, by omega, by go_num, ?_, ?_⟩
          · rw [show min (m + 1) 64 = m + 1 by omega, h3]; simp [HZ1.out]
          · rw [show m + 1 - 64 = 0 by omega, HZ.out]
        case measure => have := HN.out; have := H1.out; simp [intOf]; omega
    by_cases h2 : m < 128
    · have e1 : min m 64 = 64 := by omega
      obtain ⟨y, hy, hy1, hy2⟩ := acc_step p 64 (m - 64) (by omega)
      rw [e1, hy]
      have hc := HP.out n
      rw [show 64 + (m - 64) + 1 = n by omega] at hy2
      have hw : IntKind.u64.wrap ((y : Int) * 2) = ((y * 2 : Nat) : Int) := by rw [IntKind.wrap_u64]; omega
      have hw2 : IntKind.u64.wrap (((y * 2 : Nat) : Int) + 1) = ((y * 2 + 1 : Nat) : Int) := by rw [IntKind.wrap_u64]; omega
      have hn1 : 65 ≤ n := by omega
      have hn2 : n ≤ 128 := by omega
      have HN := Lib.hid hn
      have H1 := Lib.hid h1
      have H9 := Lib.hid h2; clear h2
      generalize hz0 : accN p 0 64 = z0
      have HZ := Lib.hid hz0
      clear hy hn hm h1 hy1 hz0 e1
      generalize y * 2 = z at *
      generalize hz1 : z + 1 = z1 at *
      have HZ1 := Lib.hid hz1; clear hz1
      cases hb : p n
      · rw [hb] at hc hy2
        have HC := Lib.hid hc; clear hc hb
        have H2 := Lib.hid hy2; clear hy2
        go_wp2_with fail
        refine HC.out.mono ?_
        rintro e w1 ⟨rfl, rfl⟩
        go_wp2
        go_round
        case rel =>
          have h3 := H2.out
          have h4 := HN.out
          have h5 := H1.out; have := H9.out
          refine ⟨n + 1, m + 1, by omega, by omega, by go_num, ?_, ?_⟩
          · rw [show min (m + 1) 64 = 64 by omega, HZ.out]
          · rw [show m + 1 - 64 = m - 64 + 1 by omega, h3]; simp
        case measure => have := HN.out; have := H1.out; have := H9.out; simp [intOf]; omega
      · rw [hb] at hc hy2
        have HC := Lib.hid hc; clear hc hb
        have H2 := Lib.hid hy2; clear hy2
        go_wp2_with fail
        refine HC.out.mono ?_
        rintro e w1 ⟨rfl, rfl⟩
        go_wp2
        go_round
        case rel =>
          have h3 := H2.out
          have h4 := HN.out
          have h5 := H1.out
          have h6 := H9.out
          refine ⟨n + 1, m + 1, by omega, by omega, by go_num, ?_, ?_⟩
          · rw [show min (m + 1) 64 = 64 by omega, HZ.out]
          · rw [show m + 1 - 64 = m - 64 + 1 by omega, h3]; simp [HZ1.out]
        case measure => have := HN.out; have := H1.out; have := H9.out; simp [intOf]; omega
    · have hm2 : m = 128 := by omega
      subst hm2
      obtain rfl : n = 129 := by omega
      have hO := HO.out
      rw [show min 128 64 = 64 from rfl, show 128 - 64 = 64 from rfl, hO.1, hO.2]
      go_wp2
      go_ret2
      exact ⟨rfl, rfl⟩

end Go.Proofs.Ytiifkcemieblkaa
