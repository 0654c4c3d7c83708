/-
  The examples of the document: awake returns true, in every world.
-/
import Derived.Test.YtelbndhdgnmfjaaCodBij
namespace Go.Proofs.Ytelbndhdgnmfjaa
open Go.RowKit

def cl0 : List Duo := [(⟨#[48, 48]⟩, ⟨#[48, 48, 48]⟩), (⟨#[48, 53]⟩, ⟨#[49, 48, 48]⟩)]
def cl1 : List Duo := [(⟨#[48, 48]⟩, ⟨#[48, 48, 48]⟩), (⟨#[48, 53]⟩, ⟨#[49, 48, 48]⟩), (⟨#[48, 48]⟩, ⟨#[48, 48, 48]⟩)]
def cl2 : List Duo := [(⟨#[48, 48]⟩, ⟨#[48, 48, 48]⟩), (⟨#[48, 49]⟩, ⟨#[48, 48, 48]⟩)]
theorem fit2_small {l : List Duo} (h : (l.all fun x => decide (x.1.size ≤ 1000) && decide (x.2.size ≤ 1000)) = true) : Fit2 l := by
  intro x hx
  have := List.all_eq_true.1 h x hx
  simp only [Bool.and_eq_true, decide_eq_true_eq] at this
  unfold maxLen
  omega
theorem cl_facts : appS cl0 ⟨#[48, 53]⟩ = ⟨#[49, 48, 48]⟩ ∧ appB cl0 ⟨#[48, 53]⟩ = true ∧ appB cl0 ⟨#[48, 54]⟩ = false ∧ appS (turnL cl0) ⟨#[49, 48, 48]⟩ = ⟨#[48, 53]⟩ ∧ appB (turnL cl0) ⟨#[49, 48, 48]⟩ = true ∧ (tabN cl1) = (10, 2) ∧ bijB cl0 = true ∧ bijB cl2 = false ∧ bijB [] = true := by decide +kernel
theorem cl0_fit : Fit2 cl0 := fit2_small (by decide +kernel)
theorem cl1_fit : Fit2 cl1 := fit2_small (by decide +kernel)
theorem cl2_fit : Fit2 cl2 := fit2_small (by decide +kernel)

set_option maxRecDepth 100000 in
set_option maxHeartbeats 3200000 in
theorem cawake_any (w : World) : Calls Try.prog 8 #[] w fun e w' => e = .returned (.bool true) ∧ Below w.heap.size w w' := by
  obtain ⟨f1, f2, f3, f4, f5, f6, f7, f8, f9⟩ := cl_facts
  have f10 := app_none f3
  have HT : Hid (Prs (w.alloc (.cells #[.string ⟨#[48, 48]⟩, .string ⟨#[48, 48, 48]⟩, .string ⟨#[48, 53]⟩, .string ⟨#[49, 48, 48]⟩] 40)) (some ⟨w.heap.size, 0, none⟩) cl0) :=
    prs_row (base := w.heap.size) (n := 2) (cap := 2) (World.ownsRow_lit w #[.string ⟨#[48, 48]⟩, .string ⟨#[48, 48, 48]⟩, .string ⟨#[48, 53]⟩, .string ⟨#[49, 48, 48]⟩] 2 (Nat.le_refl _) (by unfold maxLen; omega) rfl) rfl
  have HL1 : Hid (∀ W : World, Prs (W.alloc (.cells #[.string ⟨#[48, 48]⟩, .string ⟨#[48, 48, 48]⟩, .string ⟨#[48, 53]⟩, .string ⟨#[49, 48, 48]⟩, .string ⟨#[48, 48]⟩, .string ⟨#[48, 48, 48]⟩] 40)) (some ⟨W.heap.size, 0, none⟩) cl1) := fun W =>
    prs_row (base := W.heap.size) (n := 3) (cap := 3) (World.ownsRow_lit W #[.string ⟨#[48, 48]⟩, .string ⟨#[48, 48, 48]⟩, .string ⟨#[48, 53]⟩, .string ⟨#[49, 48, 48]⟩, .string ⟨#[48, 48]⟩, .string ⟨#[48, 48, 48]⟩] 3 (Nat.le_refl _) (by unfold maxLen; omega) rfl) rfl
  have HL2 : Hid (∀ W : World, Prs (W.alloc (.cells #[.string ⟨#[48, 48]⟩, .string ⟨#[48, 48, 48]⟩, .string ⟨#[48, 49]⟩, .string ⟨#[48, 48, 48]⟩] 40)) (some ⟨W.heap.size, 0, none⟩) cl2) := fun W =>
    prs_row (base := W.heap.size) (n := 2) (cap := 2) (World.ownsRow_lit W #[.string ⟨#[48, 48]⟩, .string ⟨#[48, 48, 48]⟩, .string ⟨#[48, 49]⟩, .string ⟨#[48, 48, 48]⟩] 2 (Nat.le_refl _) (by unfold maxLen; omega) rfl) rfl
  have H1 : Hid (∀ W A cap, Prs W A cl0 → Calls Try.prog 15 #[.slice A 2 cap, .string ⟨#[48, 53]⟩] W fun e w' => e = .returned (.tuple #[.string ⟨#[49, 48, 48]⟩, .bool true]) ∧ Below W.heap.size W w') := fun W A cap h => by
    have := capply_any A cap cl0 ⟨#[48, 53]⟩ W h (by decide)
    rwa [f1, f2] at this
  have H2 : Hid (∀ W A cap, Prs W A cl0 → Calls Try.prog 15 #[.slice A 2 cap, .string ⟨#[48, 54]⟩] W fun e w' => e = .returned (.tuple #[.string ⟨#[]⟩, .bool false]) ∧ Below W.heap.size W w') := fun W A cap h => by
    have := capply_any A cap cl0 ⟨#[48, 54]⟩ W h (by decide)
    rwa [f10, f3] at this
  have H3 : Hid (∀ W A cap, Prs W A cl0 → Calls Try.prog 17 #[.slice A 2 cap] W fun e w' => ∃ A' c', e = .returned (.slice A' 2 c') ∧ Prs w' A' (turnL cl0) ∧ Below W.heap.size W w') := fun W A cap h => cturn_any A cap cl0 W h (by decide)
  have H4 : Hid (∀ W A cap, Prs W A (turnL cl0) → Calls Try.prog 15 #[.slice A 2 cap, .string ⟨#[49, 48, 48]⟩] W fun e w' => e = .returned (.tuple #[.string ⟨#[48, 53]⟩, .bool true]) ∧ Below W.heap.size W w') := fun W A cap h => by
    have := capply_any A cap (turnL cl0) ⟨#[49, 48, 48]⟩ W h (by decide)
    rwa [f4, f5] at this
  have H5 : Hid (∀ W A cap, Prs W A cl1 → Calls Try.prog 10 #[.slice A 3 cap] W fun e w' => e = .returned (.tuple #[.int .i64 10, .int .i64 2]) ∧ Below W.heap.size W w') := fun W A cap h => by
    have := ccheck_any A cap cl1 W h (by decide) cl1_fit
    rwa [f6] at this
  have H6 : Hid (∀ W A cap, Prs W A cl0 → Calls Try.prog 13 #[.slice A 2 cap] W fun e w' => e = .returned (.bool true) ∧ Below W.heap.size W w') := fun W A cap h => by
    have := cbij_any A cap cl0 W h (by decide) cl0_fit
    rwa [f7] at this
  have H7 : Hid (∀ W A cap, Prs W A cl2 → Calls Try.prog 13 #[.slice A 2 cap] W fun e w' => e = .returned (.bool false) ∧ Below W.heap.size W w') := fun W A cap h => by
    have := cbij_any A cap cl2 W h (by decide) cl2_fit
    rwa [f8] at this
  have H8 : Hid (∀ W, Calls Try.prog 13 #[.slice none 0 0] W fun e w' => e = .returned (.bool true) ∧ Below W.heap.size W w') := fun W => by
    have := cbij_any none 0 [] W (prs_nil _ _) (by decide) (fun x hx => by simp at hx)
    rwa [f9] at this
  have HP0 : Hid (∀ u g, Prs u (some ⟨g, 0, none⟩) cl0 → u.cell? ⟨g, 0, none⟩ = some (.string ⟨#[48, 48]⟩) ∧ u.cell? ⟨g, 1, none⟩ = some (.string ⟨#[48, 48, 48]⟩) ∧ u.cell? ⟨g, 2, none⟩ = some (.string ⟨#[48, 53]⟩) ∧ u.cell? ⟨g, 3, none⟩ = some (.string ⟨#[49, 48, 48]⟩)) := fun u g h => by
    obtain ⟨a, ha, h1, h2⟩ := h 0 (by decide)
    injection ha with ha
    subst ha
    obtain ⟨a', ha, h3, h4⟩ := h 1 (by decide)
    injection ha with ha
    subst ha
    exact ⟨h1, h2, h3, h4⟩
  clear f1 f2 f3 f4 f5 f6 f7 f8 f9 f10
  go_enter Try.func8, Try.ntmps8
  go_wp2_with fail
  refine (H1.out _ _ _ HT.out).mono ?_
  rintro e w1 ⟨rfl, hb1⟩
  have HT1 := Lib.hid (HT.out.below hb1)
  have HB1 := Lib.hid (hbt (below_al w _) hb1)
  clear hb1 HT H1
  go_wp2_with fail
  refine (H2.out _ _ _ HT1.out).mono ?_
  rintro e w2 ⟨rfl, hb2⟩
  have HT2 := Lib.hid (HT1.out.below hb2)
  have HB2 := Lib.hid (hbt HB1.out hb2)
  clear hb2 HT1 HB1 H2
  go_wp2_with fail
  refine (H3.out _ _ _ HT2.out).mono ?_
  rintro e w3 ⟨A', c', rfl, hA3, hb3⟩
  have HA3 := Lib.hid hA3
  have HT3 := Lib.hid (HT2.out.below hb3)
  have HB3 := Lib.hid (hbt HB2.out hb3)
  clear hb3 hA3 HT2 HB2 H3
  go_wp2_with fail
  refine (H4.out _ _ _ HA3.out).mono ?_
  rintro e w4 ⟨rfl, hb4⟩
  have HT4 := Lib.hid (HT3.out.below hb4)
  have HB4 := Lib.hid (hbt HB3.out hb4)
  clear hb4 HA3 HT3 HB3 H4
  go_wp2_with fail
  refine wp_region_noPanic ?_
  refine wp_region_held_drew (S := (fun u => Below w4.heap.size w4 u)) (by kernel_rfl) ((Below.refl _ _).drew) (fun hS => ?_)
  refine give_val (i := 0) (v := ?_) rfl (by kernel_rfl) (by kernel_rfl) (by kernel_rfl) (fun _ _ _ h => h) (by rfl) (fun u hu => ?_) hS ?_
  rotate_left
  · ((obtain ⟨q0, q1, q2, q3⟩ := HP0.out _ _ (HT4.out.below hu)); go_simp; try (with_reducible rfl))
  try simp only [Act.put, List.setIfInBounds_toArray, List.set_cons_zero, List.set_cons_succ]
  refine give_val (i := 1) (v := ?_) rfl (by kernel_rfl) (by kernel_rfl) (by kernel_rfl) (fun _ _ _ h => h) (by rfl) (fun u hu => ?_) hS ?_
  rotate_left
  · ((obtain ⟨q0, q1, q2, q3⟩ := HP0.out _ _ (HT4.out.below hu)); go_simp; try (with_reducible rfl))
  try simp only [Act.put, List.setIfInBounds_toArray, List.set_cons_zero, List.set_cons_succ]
  refine give_val (i := 2) (v := ?_) rfl (by kernel_rfl) (by kernel_rfl) (by kernel_rfl) (fun _ _ _ h => h) (by rfl) (fun u hu => ?_) hS ?_
  rotate_left
  · ((obtain ⟨q0, q1, q2, q3⟩ := HP0.out _ _ (HT4.out.below hu)); go_simp; try (with_reducible rfl))
  try simp only [Act.put, List.setIfInBounds_toArray, List.set_cons_zero, List.set_cons_succ]
  refine give_val (i := 3) (v := ?_) rfl (by kernel_rfl) (by kernel_rfl) (by kernel_rfl) (fun _ _ _ h => h) (by rfl) (fun u hu => ?_) hS ?_
  rotate_left
  · ((obtain ⟨q0, q1, q2, q3⟩ := HP0.out _ _ (HT4.out.below hu)); go_simp; try (with_reducible rfl))
  try simp only [Act.put, List.setIfInBounds_toArray, List.set_cons_zero, List.set_cons_succ]
  refine give_val (i := 4) (v := ?_) rfl (by kernel_rfl) (by kernel_rfl) (by kernel_rfl) (fun _ _ _ h => h) (by rfl) (fun u hu => ?_) hS ?_
  rotate_left
  · ((obtain ⟨q0, q1, q2, q3⟩ := HP0.out _ _ (HT4.out.below hu)); go_simp; try (with_reducible rfl))
  try simp only [Act.put, List.setIfInBounds_toArray, List.set_cons_zero, List.set_cons_succ]
  refine give_val (i := 5) (v := ?_) rfl (by kernel_rfl) (by kernel_rfl) (by kernel_rfl) (fun _ _ _ h => h) (by rfl) (fun u hu => ?_) hS ?_
  rotate_left
  · ((obtain ⟨q0, q1, q2, q3⟩ := HP0.out _ _ (HT4.out.below hu)); go_simp; try (with_reducible rfl))
  try simp only [Act.put, List.setIfInBounds_toArray, List.set_cons_zero, List.set_cons_succ]
  refine give_val (i := 6) (v := ?_) rfl (by kernel_rfl) (by kernel_rfl) (by kernel_rfl) (fun _ _ _ h => h) (by rfl) (fun u hu => ?_) hS ?_
  rotate_left
  · ((obtain ⟨q0, q1, q2, q3⟩ := HP0.out _ _ (HT4.out.below hu)); go_simp; try (with_reducible rfl))
  try simp only [Act.put, List.setIfInBounds_toArray, List.set_cons_zero, List.set_cons_succ]
  refine give_val (i := 7) (v := ?_) rfl (by kernel_rfl) (by kernel_rfl) (by kernel_rfl) (fun _ _ _ h => h) (by rfl) (fun u hu => ?_) hS ?_
  rotate_left
  · ((obtain ⟨q0, q1, q2, q3⟩ := HP0.out _ _ (HT4.out.below hu)); go_simp; try (with_reducible rfl))
  try simp only [Act.put, List.setIfInBounds_toArray, List.set_cons_zero, List.set_cons_succ]
  refine give_val (i := 8) (v := ?_) rfl (by kernel_rfl) (by kernel_rfl) (by kernel_rfl) (fun _ _ _ h => h) (by rfl) (fun u hu => ?_) hS ?_
  rotate_left
  · ((obtain ⟨q0, q1, q2, q3⟩ := HP0.out _ _ (HT4.out.below hu)); go_simp; try (with_reducible rfl))
  try simp only [Act.put, List.setIfInBounds_toArray, List.set_cons_zero, List.set_cons_succ]
  refine only (i := 9) rfl (by kernel_rfl) (by rfl) (fun K hK => ?_)
  go_simp
  refine hK.out _ _ (below_al w4 _).drew ?_
  clear hK
  try simp only [Act.put, List.setIfInBounds_toArray, List.set_cons_zero, List.set_cons_succ]
  refine only_call (i := 10) 10 #[.slice (some ⟨w4.heap.size, 0, none⟩) 3 3] rfl (by kernel_rfl) (by rfl) ((H5.out _ _ 3 ((HL1.out w4).below (Below.refl _ _).drew)).mono fun e w' he => ⟨he.1, hbt (below_al w4 _).drew he.2⟩) ?_ ?_
  · (go_simp; try (with_reducible rfl))
  clear hS
  intro w10 hS
  try simp only [Act.put, List.setIfInBounds_toArray, List.set_cons_zero, List.set_cons_succ]
  refine give_val (i := 11) (v := ?_) rfl (by kernel_rfl) (by kernel_rfl) (by kernel_rfl) (fun _ _ _ h => h) (by rfl) (fun u hu => ?_) hS ?_
  rotate_left
  · ((obtain ⟨q0, q1, q2, q3⟩ := HP0.out _ _ (HT4.out.below hu)); go_simp; try (with_reducible rfl))
  try simp only [Act.put, List.setIfInBounds_toArray, List.set_cons_zero, List.set_cons_succ]
  refine give_val (i := 12) (v := ?_) rfl (by kernel_rfl) (by kernel_rfl) (by kernel_rfl) (fun _ _ _ h => h) (by rfl) (fun u hu => ?_) hS ?_
  rotate_left
  · ((obtain ⟨q0, q1, q2, q3⟩ := HP0.out _ _ (HT4.out.below hu)); go_simp; try (with_reducible rfl))
  try simp only [Act.put, List.setIfInBounds_toArray, List.set_cons_zero, List.set_cons_succ]
  refine give_val (i := 13) (v := ?_) rfl (by kernel_rfl) (by kernel_rfl) (by kernel_rfl) (fun _ _ _ h => h) (by rfl) (fun u hu => ?_) hS ?_
  rotate_left
  · ((obtain ⟨q0, q1, q2, q3⟩ := HP0.out _ _ (HT4.out.below hu)); go_simp; try (with_reducible rfl))
  try simp only [Act.put, List.setIfInBounds_toArray, List.set_cons_zero, List.set_cons_succ]
  refine give_val (i := 14) (v := ?_) rfl (by kernel_rfl) (by kernel_rfl) (by kernel_rfl) (fun _ _ _ h => h) (by rfl) (fun u hu => ?_) hS ?_
  rotate_left
  · ((obtain ⟨q0, q1, q2, q3⟩ := HP0.out _ _ (HT4.out.below hu)); go_simp; try (with_reducible rfl))
  try simp only [Act.put, List.setIfInBounds_toArray, List.set_cons_zero, List.set_cons_succ]
  refine give_val (i := 15) (v := ?_) rfl (by kernel_rfl) (by kernel_rfl) (by kernel_rfl) (fun _ _ _ h => h) (by rfl) (fun u hu => ?_) hS ?_
  rotate_left
  · ((obtain ⟨q0, q1, q2, q3⟩ := HP0.out _ _ (HT4.out.below hu)); go_simp; try (with_reducible rfl))
  try simp only [Act.put, List.setIfInBounds_toArray, List.set_cons_zero, List.set_cons_succ]
  refine wpAnyH_done (by kernel_rfl) (NoPanic.normal ?_) _
  rename World => w5
  have HT5 := Lib.hid (HT4.out.below hS)
  have HB5 := Lib.hid (hbt HB4.out hS)
  clear hS HT4 HB4 H5 HL1
  go_wp2_with fail
  refine (H6.out _ _ _ HT5.out).mono ?_
  rintro e w6 ⟨rfl, hb6⟩
  have HT6 := Lib.hid (HT5.out.below hb6)
  have HB6 := Lib.hid (hbt HB5.out hb6)
  obtain ⟨q0, q1, _, _⟩ := HP0.out _ _ HT6.out
  clear hb6 HT5 HB5 H6
  go_wp2_with fail
  refine (H7.out _ _ _ (HL2.out w6)).mono ?_
  rintro e w7 ⟨rfl, hb7⟩
  have HB7 := Lib.hid (hbt HB6.out (hbt (below_al w6 _) hb7))
  clear hb7 q0 q1 HT6 HB6 H7 HL2
  go_wp2_with fail
  refine (H8.out _).mono ?_
  rintro e w8 ⟨rfl, hb8⟩
  have HB8 := Lib.hid (hbt HB7.out hb8)
  clear hb8 HB7 H8
  go_wp2
  go_ret
  exact ⟨rfl, HB8.out⟩

end Go.Proofs.Ytelbndhdgnmfjaa
