/-
  What Is and Wider answer: for every class and byte, in every world in which the table of kinds stands as the program's text lays it.
-/
import Derived.Test.YtmobillfeldcjaaDoorClsSmall
import Derived.Test.YtmobillfeldcjaaDoorByt
import Derived.BigQuiet
import Derived.Lib.LaidTab
import Derived.Deep.RegionWith
namespace Go.Proofs.YtmobillfeldcjaaDoor
open Go.RowKit

/-- The table of kinds stands as the program's text lays it. -/
def Kinds (w : World) : Prop := ∀ k, k < 7 → w.cell? ⟨0, k, none⟩ = some (.int .i64 (ks k : Int))
theorem Kinds.below {w w' : World} (h : Kinds w) (hb : Below w.heap.size w w') : Kinds w' := by
  have h0 : 0 < w.heap.size := by
    have := h 0 (by omega)
    apply Nat.lt_of_not_le
    intro hn
    simp [World.cell?, Array.getElem?_eq_none hn] at this
  intro k hk
  rw [hb.cell (p := ⟨0, k, none⟩) h0]
  exact h k hk

theorem and_ks : ∀ k, k < 7 → ∀ d, d < 16 → bits .and .i64 (ks k : Int) ((d : Nat) : Int) = ((ks k &&& d : Nat) : Int) := by decide +kernel
theorem andNot_ks : ∀ a, a < 7 → ∀ b, b < 7 → bits .andNot .i64 (ks b : Int) (ks a : Int) = ((ks b &&& (15 - ks a) : Nat) : Int) := by decide +kernel

theorem beq_cast (y : Nat) : ((y : Int) == 0) = (y == 0) := by
  rw [Bool.eq_iff_iff]; simp
theorem bne_cast (y : Nat) : ((y : Int) != 0) = (y != 0) := by
  unfold bne; rw [beq_cast]

theorem known_no {c : Int} (h : isC c = false) (w : World) : Calls Tryd.prog 15 #[.int .i64 c] w fun e w' => e = .returned (.bool false) ∧ w' = w := by
  refine (known_any c w).mono fun e w' ⟨he, hw⟩ => ?_
  rw [h] at he
  exact ⟨he, hw.symm⟩
theorem known_yes {c : Int} (h : isC c = true) (w : World) : Calls Tryd.prog 15 #[.int .i64 c] w fun e w' => e = .returned (.bool true) ∧ w' = w := by
  refine (known_any c w).mono fun e w' ⟨he, hw⟩ => ?_
  rw [h] at he
  exact ⟨he, hw.symm⟩
theorem kind_at (n : Nat) (w : World) : Calls Tryd.prog 31 #[.int .u8 (n : Int)] w fun e w' => e = .returned (.int .i64 (kd n : Int)) ∧ w' = w :=
  (kind_any n w).mono fun _ _ ⟨he, hw⟩ => ⟨he, hw.symm⟩

set_option maxHeartbeats 800000 in
theorem is_no {c : Int} (n : Nat) (w : World) (h : isC c = false) :
    Calls Tryd.prog 24 #[.int .i64 c, .int .u8 (n : Int)] w fun e w' => e = .returned (.bool false) ∧ Below w.heap.size w w' := by
  have HC := Lib.hid (known_no h); clear h
  go_enter Tryd.func24, Tryd.ntmps24
  go_wp2_with fail
  go_quiet ((go_at_call 15; exact Calls.quiet_of_same (HC.out _)))
  go_wp2
  go_ret
  exact ⟨rfl, below_drewN _ _⟩

set_option maxHeartbeats 800000 in
theorem is_yes (k : Nat) (n : Nat) (w : World) (hw : Kinds w) (h : k < 7) (h0 : 0 < k) :
    Calls Tryd.prog 24 #[.int .i64 (k : Int), .int .u8 (n : Int)] w fun e w' => e = .returned (.bool (isO (k : Int) n)) ∧ Below w.heap.size w w' := by
  have HC := Lib.hid (known_yes (c := (k : Int)) (isC_iff.2 (by omega)))
  have HN := Lib.hid (kind_at n)
  have hc := hw k h
  have hb := and_ks k h (kd n) (by rcases kd_cases n with e | e | e | e <;> omega)
  rw [isO_at h h0]
  generalize kd n = d at hb HN
  generalize ks k = z at hc hb
  generalize z &&& d = y at hb
  go_enter Tryd.func24, Tryd.ntmps24
  go_wp2_with fail
  go_quiet (first | (go_at_call 15; exact Calls.quiet_of_same (HC.out _)) | (go_at_call 31; exact Calls.quiet_of_same (HN.out _)))
  go_wp2
  go_ret
  exact ⟨congrArg (fun b => Ending.returned (Value.bool b)) (bne_cast y), below_drewN _ _⟩
theorem is_any (c : Int) (n : Nat) (w : World) (hw : Kinds w) :
    Calls Tryd.prog 24 #[.int .i64 c, .int .u8 (n : Int)] w fun e w' => e = .returned (.bool (isO c n)) ∧ Below w.heap.size w w' := by
  cases h : isC c
  · rw [isO_no h]
    exact is_no n w h
  · obtain ⟨k, h1, h2, rfl⟩ := isC_cases h
    exact is_yes k n w hw h1 h2

set_option maxHeartbeats 800000 in
theorem wider_no_a {a : Int} (b : Int) (w : World) (h : isC a = false) :
    Calls Tryd.prog 30 #[.int .i64 a, .int .i64 b] w fun e w' => e = .returned (.bool false) ∧ Below w.heap.size w w' := by
  have HC := Lib.hid (known_no h); clear h
  go_enter Tryd.func30, Tryd.ntmps30
  go_wp2_with fail
  go_quiet ((go_at_call 15; exact Calls.quiet_of_same (HC.out _)))
  go_wp2
  go_ret
  exact ⟨rfl, below_drewN _ _⟩
set_option maxHeartbeats 800000 in
theorem wider_no_b {a b : Int} (w : World) (ha : isC a = true) (hb : isC b = false) :
    Calls Tryd.prog 30 #[.int .i64 a, .int .i64 b] w fun e w' => e = .returned (.bool false) ∧ Below w.heap.size w w' := by
  have HA := Lib.hid (known_yes ha); clear ha
  have HB := Lib.hid (known_no hb); clear hb
  go_enter Tryd.func30, Tryd.ntmps30
  go_wp2_with fail
  go_quiet (first | (go_at_call_of 15 (Value.int .i64 a); exact Calls.quiet_of_same (HA.out _)) | (go_at_call_of 15 (Value.int .i64 b); exact Calls.quiet_of_same (HB.out _)))
  go_wp2
  go_ret
  exact ⟨rfl, below_drewN _ _⟩
set_option maxHeartbeats 800000 in
theorem wider_yes (a b : Nat) (w : World) (hw : Kinds w) (ha : a < 7) (ha0 : 0 < a) (hb : b < 7) (hb0 : 0 < b) :
    Calls Tryd.prog 30 #[.int .i64 (a : Int), .int .i64 (b : Int)] w fun e w' => e = .returned (.bool (wid (a : Int) (b : Int))) ∧ Below w.heap.size w w' := by
  have HA := Lib.hid (known_yes (c := (a : Int)) (isC_iff.2 (by omega)))
  have HB := Lib.hid (known_yes (c := (b : Int)) (isC_iff.2 (by omega)))
  have hca := hw a ha
  have hcb := hw b hb
  have hn := andNot_ks a ha b hb
  rw [wid_at a ha ha0 b hb hb0]
  unfold widK
  generalize ks b &&& (15 - ks a) = y at hn
  generalize ks a = za at hca hn
  generalize ks b = zb at hcb hn
  go_enter Tryd.func30, Tryd.ntmps30
  go_wp2_with fail
  go_quiet (first | (go_at_call_of 15 (Value.int .i64 (a : Int)); exact Calls.quiet_of_same (HA.out _)) | (go_at_call_of 15 (Value.int .i64 (b : Int)); exact Calls.quiet_of_same (HB.out _)))
  go_wp2
  go_ret
  exact ⟨congrArg (fun b => Ending.returned (Value.bool b)) (beq_cast y), below_drewN _ _⟩
theorem wider_any (a b : Int) (w : World) (hw : Kinds w) :
    Calls Tryd.prog 30 #[.int .i64 a, .int .i64 b] w fun e w' => e = .returned (.bool (wid a b)) ∧ Below w.heap.size w w' := by
  cases h : isC a
  · rw [wid_no_a h]
    exact wider_no_a b w h
  cases g : isC b
  · rw [wid_no_b g]
    exact wider_no_b w h g
  obtain ⟨k, h1, h2, rfl⟩ := isC_cases h
  obtain ⟨m, g1, g2, rfl⟩ := isC_cases g
  exact wider_yes k m w hw h1 h2 g1 g2

end Go.Proofs.YtmobillfeldcjaaDoor
