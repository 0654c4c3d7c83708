/-
  The examples of the document: awake returns true, in every world.
-/
import Derived.Test.YtldicdjkgoncoaaTlvPut
import Derived.Test.YtldicdjkgoncoaaTlvGet
namespace Go.Proofs.Ytldicdjkgoncoaa
open Go.RowKit Go.Maps

def lst0 : List Item := [(40706, ⟨#[1, 0]⟩), (90, ⟨#[]⟩)]
theorem lst0_chk : (chk lst0).1 = 0 := by decide +kernel
theorem lst0_good : Good lst0 := chk_zero lst0_chk
theorem lst0_put : tlvL lst0 = [159, 2, 2, 1, 0, 90, 0] := by decide +kernel
theorem lst0_get : tlvN ⟨#[159, 2, 2, 1, 0, 90, 0]⟩ = (0, 0, lst0) := tlvN_back lst0_good (by rw [lst0_put])
theorem lst0_fine : Fine lst0 := by
  intro i hi
  match i, hi with
  | 0, _ => exact ⟨by decide, by show 2 ≤ _; decide⟩
  | 1, _ => exact ⟨by decide, by show 0 ≤ _; decide⟩
theorem bad0_get : (tlvN ⟨#[90, 1, 65, 90, 0]⟩).1 = 10 ∧ (tlvN ⟨#[90, 1, 65, 90, 0]⟩).2.1 = 3 := by decide +kernel
theorem bad0_none : (tlvN ⟨#[90, 1, 65, 90, 0]⟩).2.2 = [] := tlvN_none (by rw [bad0_get.1]; decide)
theorem lst0_find : findS lst0 40706 = ⟨#[1, 0]⟩ ∧ findB lst0 40706 = true := find_hit (k := 0) (by decide) (fun j hj => by omega) rfl

set_option maxRecDepth 100000 in
set_option maxHeartbeats 3200000 in
theorem tlvawake_any (w : World) : Calls Try.prog 8 #[] w fun e w' => e = .returned (.bool true) ∧ Below w.heap.size w w' := by
  have HT : Hid (Tlvs (w.alloc (.cells #[.int .i64 40706, .string ⟨#[1, 0]⟩, .int .i64 90, .string ⟨#[]⟩] 42)) (some ⟨w.heap.size, 0, none⟩) lst0) :=
    tlvs_copy (base := w.heap.size) (n := 2) (c := 2) (World.ownsRow_lit w #[.int .i64 40706, .string ⟨#[1, 0]⟩, .int .i64 90, .string ⟨#[]⟩] 2 (Nat.le_refl _) (by unfold maxLen; omega) rfl) rfl
  have HP : Hid (∀ W A cap, Tlvs W A lst0 → Calls Try.prog 12 #[.slice A 2 cap] W fun e w' => e = .returned (.tuple #[.string ⟨#[159, 2, 2, 1, 0, 90, 0]⟩, .int .i64 0]) ∧ Below W.heap.size W w') := fun W A cap h => by
    have := tlvput_yes A cap lst0 W h (by decide) lst0_fine lst0_good (by rw [lst0_put]; decide)
    rwa [lst0_put] at this
  have HG : Hid (∀ W, Calls Try.prog 14 #[.string ⟨#[159, 2, 2, 1, 0, 90, 0]⟩] W fun e w' => ∃ A cap, e = .returned (.tuple #[.slice A 2 cap, .int .i64 0, .int .i64 0]) ∧ Tlvs w' A lst0 ∧ Below W.heap.size W w') := fun W => by
    have := tlvget_any ⟨#[159, 2, 2, 1, 0, 90, 0]⟩ W (by decide)
    rwa [lst0_get] at this
  have HE : Hid (∀ W, Calls Try.prog 14 #[.string ⟨#[90, 1, 65, 90, 0]⟩] W fun e w' => ∃ A cap, e = .returned (.tuple #[.slice A 0 cap, .int .i64 10, .int .i64 3]) ∧ Below W.heap.size W w') := fun W => by
    have := tlvget_any ⟨#[90, 1, 65, 90, 0]⟩ W (by decide)
    rw [bad0_none, bad0_get.1, bad0_get.2] at this
    refine this.mono ?_
    rintro e w' ⟨A, cap, h1, _, h2⟩
    exact ⟨A, cap, h1, h2⟩
  have HF : Hid (∀ W A cap, Tlvs W A lst0 → Calls Try.prog 17 #[.slice A 2 cap, .int .i64 40706] W fun e w' => e = .returned (.tuple #[.string ⟨#[1, 0]⟩, .bool true]) ∧ Below W.heap.size W w') := fun W A cap h => by
    have := tlvfind_any A cap lst0 40706 W h (by decide)
    rwa [lst0_find.1, lst0_find.2] at this
  have HS : Hid (∀ W A B ca cb, Tlvs W A lst0 → Tlvs W B lst0 → Calls Try.prog 16 #[.slice A 2 ca, .slice B 2 cb] W fun e w' => e = .returned (.bool true) ∧ Below W.heap.size W w') := fun W A B ca cb hA hB => same_yes A B ca cb lst0 W hA hB (by decide)
  go_enter Try.func8, Try.ntmps8
  go_wp2_with fail
  refine (HP.out _ _ _ HT.out).mono ?_
  rintro e w1 ⟨rfl, hb1⟩
  have HT1 := Lib.hid (HT.out.below hb1)
  have HB1 := Lib.hid (hbt (below_al w _) hb1)
  clear hb1 HT HP
  go_wp2_with fail
  refine (HG.out _).mono ?_
  rintro e w2 ⟨A, cap, rfl, hA, hb2⟩
  have HT2 := Lib.hid (HT1.out.below hb2)
  have HA2 := Lib.hid hA
  have HB2 := Lib.hid (hbt HB1.out hb2)
  clear hb2 hA HT1 HB1 HG
  go_wp2_with fail
  refine (HE.out _).mono ?_
  rintro e w3 ⟨A3, cap3, rfl, hb3⟩
  have HT3 := Lib.hid (HT2.out.below hb3)
  have HA3 := Lib.hid (HA2.out.below hb3)
  have HB3 := Lib.hid (hbt HB2.out hb3)
  clear hb3 HT2 HA2 HB2 HE
  go_wp2_with fail
  refine (HF.out _ _ _ HT3.out).mono ?_
  rintro e w4 ⟨rfl, hb4⟩
  have HT4 := Lib.hid (HT3.out.below hb4)
  have HA4 := Lib.hid (HA3.out.below hb4)
  have HB4 := Lib.hid (hbt HB3.out hb4)
  clear hb4 HT3 HA3 HB3 HF
  go_wp2_with fail
  refine (HS.out _ _ _ _ _ HA4.out HT4.out).mono ?_
  rintro e w5 ⟨rfl, hb5⟩
  have HB5 := Lib.hid (hbt HB4.out hb5)
  clear hb5 HT4 HA4 HB4 HS
  go_wp2
  go_ret
  exact ⟨rfl, HB5.out⟩

end Go.Proofs.Ytldicdjkgoncoaa
