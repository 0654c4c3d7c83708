/-
  What the document's Get answers: for every text and place, in every world.
-/
import Derived.Test.YtmobillfeldcjaaDoorTagGet
import Derived.Test.YtmobillfeldcjaaDoorRegTake
namespace Go.Proofs.YtmobillfeldcjaaDoor
open Go.RowKit

theorem trefGet_place (p : Int) (s : ByteArray) (w : World) (h : p < 0 ∨ (s.size : Int) < p) :
    Calls Tryd.prog 27 #[.string s, .int .i64 p] w fun e w' => e = .returned (.tuple #[.int .i64 0, .int .i64 0, .int .i64 1]) ∧ Below w.heap.size w w' := by
  by_cases h0 : p < 0
  · clear h
    go_enter Tryd.func27, Tryd.ntmps27
    go_wp2
    go_ret3
    exact ⟨rfl, Below.refl _ _⟩
  · have h1 : (s.size : Int) < p := by omega
    have h2 : decide (p < 0) = false := by simp; omega
    clear h h0
    go_enter Tryd.func27, Tryd.ntmps27
    go_wp2
    go_ret3
    exact ⟨rfl, Below.refl _ _⟩

theorem trefGet_cut (s : ByteArray) (w : World) :
    Calls Tryd.prog 27 #[.string s, .int .i64 (s.size : Int)] w fun e w' => e = .returned (.tuple #[.int .i64 0, .int .i64 0, .int .i64 2]) ∧ Below w.heap.size w w' := by
  have h2 : decide ((s.size : Int) < 0) = false := by simp
  go_enter Tryd.func27, Tryd.ntmps27
  go_wp2
  go_ret3
  exact ⟨rfl, Below.refl _ _⟩

theorem trefGet_no (p a : Nat) (s : ByteArray) (w : World) (hp : p < s.size) (ha : a < 256) (hix : At s p a) (h : tfirst a = 0) :
    Calls Tryd.prog 27 #[.string s, .int .i64 (p : Int)] w fun e w' => e = .returned (.tuple #[.int .i64 0, .int .i64 0, .int .i64 13]) ∧ Below w.heap.size w w' := by
  unfold At at hix
  have HF := Lib.hid (tfirst_any a ha)
  rw [h] at HF
  have h2 : decide ((p : Int) < 0) = false := by simp
  have h3 : decide (s.size < p) = false := by simp; omega
  have h4 : ((p : Int) == (s.size : Int)) = false := by simp; omega
  have ha1 : (a : Int) < 256 := by omega
  clear h ha
  go_enter Tryd.func27, Tryd.ntmps27
  go_wp2_with fail
  refine (HF.out _).mono ?_
  rintro e w1 ⟨rfl, rfl⟩
  go_wp2
  go_ret3
  exact ⟨rfl, Below.refl _ _⟩

theorem trefGet_one (p a : Nat) (s : ByteArray) (w : World) (hs : s.size ≤ 1000000) (hp : p < s.size) (ha : a < 256) (hix : At s p a) (h : tfirst a = 1) :
    Calls Tryd.prog 27 #[.string s, .int .i64 (p : Int)] w fun e w' => e = .returned (.tuple #[.int .i64 (a : Int), .int .i64 ((p + 1 : Nat) : Int), .int .i64 0]) ∧ Below w.heap.size w w' := by
  unfold At at hix
  have HF := Lib.hid (tfirst_any a ha)
  rw [h] at HF
  have h2 : decide ((p : Int) < 0) = false := by simp
  have h3 : decide (s.size < p) = false := by simp; omega
  have h4 : ((p : Int) == (s.size : Int)) = false := by simp; omega
  have ha1 : (a : Int) < 256 := by omega
  clear h ha
  go_enter Tryd.func27, Tryd.ntmps27
  go_wp2_with fail
  refine (HF.out _).mono ?_
  rintro e w1 ⟨rfl, rfl⟩
  go_wp2
  go_ret3
  exact ⟨rfl, Below.refl _ _⟩

theorem trefGet_short (p a : Nat) (s : ByteArray) (w : World) (hs : s.size ≤ 1000000) (hp : p + 1 = s.size) (ha : a < 256) (hix : At s p a) (h : tfirst a = 2) :
    Calls Tryd.prog 27 #[.string s, .int .i64 (p : Int)] w fun e w' => e = .returned (.tuple #[.int .i64 0, .int .i64 0, .int .i64 2]) ∧ Below w.heap.size w w' := by
  unfold At at hix
  have HF := Lib.hid (tfirst_any a ha)
  rw [h] at HF
  have h2 : decide ((p : Int) < 0) = false := by simp
  have h3 : decide (s.size < p) = false := by simp; omega
  have h4 : ((p : Int) == (s.size : Int)) = false := by simp; omega
  have h5 : decide ((s.size : Int) - (p : Int) < 2) = true := by simp; omega
  have hp' : p < s.size := by omega
  have ha1 : (a : Int) < 256 := by omega
  clear h ha hp
  go_enter Tryd.func27, Tryd.ntmps27
  go_wp2_with fail
  refine (HF.out _).mono ?_
  rintro e w1 ⟨rfl, rfl⟩
  go_wp2
  go_ret3
  exact ⟨rfl, Below.refl _ _⟩

theorem trefGet_bad (p a b : Nat) (s : ByteArray) (w : World) (hs : s.size ≤ 1000000) (hp : p + 1 < s.size) (ha : a < 256) (hix : At s p a) (hiy : At s ((p : Int) + 1) b) (h : tfirst a = 2) (hb : b < 256) (ht : ¬ tends b) :
    Calls Tryd.prog 27 #[.string s, .int .i64 (p : Int)] w fun e w' => e = .returned (.tuple #[.int .i64 0, .int .i64 0, .int .i64 13]) ∧ Below w.heap.size w w' := by
  unfold At at hix hiy
  have HF := Lib.hid (tfirst_any a ha)
  rw [h] at HF
  have h2 : decide ((p : Int) < 0) = false := by simp
  have h3 : decide (s.size < p) = false := by simp; omega
  have h4 : ((p : Int) == (s.size : Int)) = false := by simp; omega
  have h5 : decide ((s.size : Int) - (p : Int) < 2) = false := by simp; omega
  have ha1 : (a : Int) < 256 := by omega
  have hb1 : (b : Int) < 256 := by omega
  by_cases h0 : b = 0
  · subst h0
    change ∀ w, (Instr.index 9 (.string s) (.int .i64 ((p : Int) + 1))).run Tryd.prog w = .ok (.int .u8 0) w at hiy
    clear h ha hb ht hb1
    go_enter Tryd.func27, Tryd.ntmps27
    go_wp2_with fail
    refine (HF.out _).mono ?_
    rintro e w1 ⟨rfl, rfl⟩
    go_wp2
    go_ret3
    exact ⟨rfl, Below.refl _ _⟩
  · have g1 : ((b : Int) == 0) = false := by simp [h0]
    have g2 : decide ((127 : Int) < (b : Int)) = true := by simp; unfold tends at ht; omega
    clear h ha hb ht h0
    go_enter Tryd.func27, Tryd.ntmps27
    go_wp2_with fail
    refine (HF.out _).mono ?_
    rintro e w1 ⟨rfl, rfl⟩
    go_wp2
    go_ret3
    exact ⟨rfl, Below.refl _ _⟩

set_option maxHeartbeats 800000 in
theorem trefGet_two (p a b : Nat) (s : ByteArray) (w : World) (hs : s.size ≤ 1000000) (hp : p + 1 < s.size) (ha : a < 256) (hix : At s p a) (hiy : At s ((p : Int) + 1) b) (h : tfirst a = 2) (hb : b < 256) (ht : tends b) :
    Calls Tryd.prog 27 #[.string s, .int .i64 (p : Int)] w fun e w' => e = .returned (.tuple #[.int .i64 ((256 * a + b : Nat) : Int), .int .i64 ((p + 2 : Nat) : Int), .int .i64 0]) ∧ Below w.heap.size w w' := by
  unfold At at hix hiy
  have HF := Lib.hid (tfirst_any a ha)
  rw [h] at HF
  obtain ⟨ht1, ht2⟩ := ht
  have h2 : decide ((p : Int) < 0) = false := by simp
  have h3 : decide (s.size < p) = false := by simp; omega
  have h4 : ((p : Int) == (s.size : Int)) = false := by simp; omega
  have h5 : decide ((s.size : Int) - (p : Int) < 2) = false := by simp; omega
  have g1 : ((b : Int) == 0) = false := by simp; omega
  have g2 : decide ((127 : Int) < (b : Int)) = false := by simp; omega
  have ha1 : (a : Int) < 256 := by omega
  have hb1 : (b : Int) < 256 := by omega
  have w1 : IntKind.i64.wrap (256 * (a : Int)) = 256 * (a : Int) := IntWalk.i64_in _ (by omega)
  have w2 : IntKind.i64.wrap ((p : Int) + 1) = (p : Int) + 1 := IntWalk.i64_in _ (by omega)
  have w3 : IntKind.i64.wrap (256 * (a : Int) + (b : Int)) = ((256 * a + b : Nat) : Int) := by rw [IntWalk.i64_in _ (by omega)]; omega
  have w4 : IntKind.i64.wrap ((p : Int) + 2) = ((p + 2 : Nat) : Int) := by rw [IntWalk.i64_in _ (by omega)]; omega
  have w5 : IntKind.i64.wrap (a : Int) = (a : Int) := IntWalk.i64_in _ (by omega)
  have w6 : IntKind.i64.wrap (b : Int) = (b : Int) := IntWalk.i64_in _ (by omega)
  generalize 256 * a + b = z at w3 ⊢
  generalize p + 2 = y at w4 ⊢
  clear h ha hb ht1 ht2
  go_enter Tryd.func27, Tryd.ntmps27
  go_wp2_with fail
  refine (HF.out _).mono ?_
  rintro e w1 ⟨rfl, rfl⟩
  go_wp2
  refine wp_region_noPanic ?_
  refine wp_region_held_drew (S := fun _ => True) (by kernel_rfl) trivial (fun _ => ?_)
  refine give_val (i := 0) (v := ?_) rfl (by kernel_rfl) (by kernel_rfl) (by kernel_rfl) (fun _ _ _ h => h) (by rfl) (fun _ _ => ?_) trivial ?_
  rotate_left
  · (go_simp; try (with_reducible rfl))
  try simp only [Act.put, List.setIfInBounds_toArray, List.set_cons_zero, List.set_cons_succ]
  refine give_val (i := 1) (v := ?_) rfl (by kernel_rfl) (by kernel_rfl) (by kernel_rfl) (fun _ _ _ h => h) (by rfl) (fun _ _ => ?_) trivial ?_
  rotate_left
  · (go_simp; try (with_reducible rfl))
  try simp only [Act.put, List.setIfInBounds_toArray, List.set_cons_zero, List.set_cons_succ]
  refine give_val (i := 2) (v := ?_) rfl (by kernel_rfl) (by kernel_rfl) (by kernel_rfl) (fun _ _ _ h => h) (by rfl) (fun _ _ => ?_) trivial ?_
  rotate_left
  · (go_simp; try (with_reducible rfl))
  try simp only [Act.put, List.setIfInBounds_toArray, List.set_cons_zero, List.set_cons_succ]
  refine give_val (i := 3) (v := ?_) rfl (by kernel_rfl) (by kernel_rfl) (by kernel_rfl) (fun _ _ _ h => h) (by rfl) (fun _ _ => ?_) trivial ?_
  rotate_left
  · (go_simp; try (with_reducible rfl))
  try simp only [Act.put, List.setIfInBounds_toArray, List.set_cons_zero, List.set_cons_succ]
  refine give_val (i := 4) (v := ?_) rfl (by kernel_rfl) (by kernel_rfl) (by kernel_rfl) (fun _ _ _ h => h) (by rfl) (fun _ _ => ?_) trivial ?_
  rotate_left
  · (go_simp; try (with_reducible rfl))
  try simp only [Act.put, List.setIfInBounds_toArray, List.set_cons_zero, List.set_cons_succ]
  refine give_val (i := 5) (v := ?_) rfl (by kernel_rfl) (by kernel_rfl) (by kernel_rfl) (fun _ _ _ h => h) (by rfl) (fun _ _ => ?_) trivial ?_
  rotate_left
  · (go_simp; try (with_reducible rfl))
  try simp only [Act.put, List.setIfInBounds_toArray, List.set_cons_zero, List.set_cons_succ]
  refine give_val (i := 6) (v := ?_) rfl (by kernel_rfl) (by kernel_rfl) (by kernel_rfl) (fun _ _ _ h => h) (by rfl) (fun _ _ => ?_) trivial ?_
  rotate_left
  · (go_simp; try (with_reducible rfl))
  try simp only [Act.put, List.setIfInBounds_toArray, List.set_cons_zero, List.set_cons_succ]
  refine give_val (i := 7) (v := ?_) rfl (by kernel_rfl) (by kernel_rfl) (by kernel_rfl) (fun _ _ _ h => h) (by rfl) (fun _ _ => ?_) trivial ?_
  rotate_left
  · (go_simp; try (with_reducible rfl))
  try simp only [Act.put, List.setIfInBounds_toArray, List.set_cons_zero, List.set_cons_succ]
  refine give_val (i := 8) (v := ?_) rfl (by kernel_rfl) (by kernel_rfl) (by kernel_rfl) (fun _ _ _ h => h) (by rfl) (fun _ _ => ?_) trivial ?_
  rotate_left
  · (go_simp; try (with_reducible rfl))
  try simp only [Act.put, List.setIfInBounds_toArray, List.set_cons_zero, List.set_cons_succ]
  refine give_val (i := 9) (v := ?_) rfl (by kernel_rfl) (by kernel_rfl) (by kernel_rfl) (fun _ _ _ h => h) (by rfl) (fun _ _ => ?_) trivial ?_
  rotate_left
  · (go_simp; try (with_reducible rfl))
  try simp only [Act.put, List.setIfInBounds_toArray, List.set_cons_zero, List.set_cons_succ]
  refine give_val (i := 10) (v := ?_) rfl (by kernel_rfl) (by kernel_rfl) (by kernel_rfl) (fun _ _ _ h => h) (by rfl) (fun _ _ => ?_) trivial ?_
  rotate_left
  · (go_simp; try (with_reducible rfl))
  try simp only [Act.put, List.setIfInBounds_toArray, List.set_cons_zero, List.set_cons_succ]
  refine give_val (i := 11) (v := ?_) rfl (by kernel_rfl) (by kernel_rfl) (by kernel_rfl) (fun _ _ _ h => h) (by rfl) (fun _ _ => ?_) trivial ?_
  rotate_left
  · (go_simp; try (with_reducible rfl))
  try simp only [Act.put, List.setIfInBounds_toArray, List.set_cons_zero, List.set_cons_succ]
  refine give_val (i := 12) (v := ?_) rfl (by kernel_rfl) (by kernel_rfl) (by kernel_rfl) (fun _ _ _ h => h) (by rfl) (fun _ _ => ?_) trivial ?_
  rotate_left
  · (go_simp; try (with_reducible rfl))
  try simp only [Act.put, List.setIfInBounds_toArray, List.set_cons_zero, List.set_cons_succ]
  refine give_val (i := 13) (v := ?_) rfl (by kernel_rfl) (by kernel_rfl) (by kernel_rfl) (fun _ _ _ h => h) (by rfl) (fun _ _ => ?_) trivial ?_
  rotate_left
  · (go_simp; try (with_reducible rfl))
  try simp only [Act.put, List.setIfInBounds_toArray, List.set_cons_zero, List.set_cons_succ]
  refine give_val (i := 14) (v := ?_) rfl (by kernel_rfl) (by kernel_rfl) (by kernel_rfl) (fun _ _ _ h => h) (by rfl) (fun _ _ => ?_) trivial ?_
  rotate_left
  · (go_simp; try (with_reducible rfl))
  try simp only [Act.put, List.setIfInBounds_toArray, List.set_cons_zero, List.set_cons_succ]
  refine give_val (i := 15) (v := ?_) rfl (by kernel_rfl) (by kernel_rfl) (by kernel_rfl) (fun _ _ _ h => h) (by rfl) (fun _ _ => ?_) trivial ?_
  rotate_left
  · (go_simp; try (with_reducible rfl))
  try simp only [Act.put, List.setIfInBounds_toArray, List.set_cons_zero, List.set_cons_succ]
  refine wpAnyH_done (by kernel_rfl) (NoPanic.normal ?_) _
  go_wp2
  go_ret3
  exact ⟨rfl, (Below.refl _ _).drew⟩

/-- What the document's Get answers at a place of a text. -/
theorem trefGet_any (p : Nat) (s : ByteArray) (w : World) (hs : s.size ≤ 1000000) (hp : p ≤ s.size) :
    Calls Tryd.prog 27 #[.string s, .int .i64 (p : Int)] w fun e w' => e = .returned (tgetV (tget s.data.toList p)) ∧ Below w.heap.size w w' := by
  have hl : s.data.toList.length = s.size := by simp
  by_cases h : p = s.size
  · subst h
    rw [tget_cut (by omega)]
    exact trefGet_cut s w
  have hp : p < s.size := by omega
  have ha := s[p].toNat_lt
  rw [tget_at _ (list_at s p hp)]
  rcases tfirst_cases s[p].toNat with ⟨e, _⟩ | ⟨e, _⟩ | ⟨e, _⟩
  · rw [tread_no _ e]
    exact trefGet_no p _ s w hp ha (at_str s p hp) e
  · rw [tread_one _ e]
    exact trefGet_one p _ s w hs hp ha (at_str s p hp) e
  · by_cases h1 : p + 1 = s.size
    · rw [List.getElem?_eq_none (by omega), Option.map_none, tread_cut e]
      exact trefGet_short p _ s w hs h1 ha (at_str s p hp) e
    · have hp1 : p + 1 < s.size := by omega
      have hb := s[p + 1].toNat_lt
      rw [list_at s (p + 1) hp1, Option.map_some]
      by_cases ht : tends s[p + 1].toNat
      · rw [tread_two e ht]
        exact trefGet_two p _ _ s w hs hp1 ha (at_str s p hp) (at_str s (p + 1) hp1) e hb ht
      · rw [tread_bad e ht]
        exact trefGet_bad p _ _ s w hs hp1 ha (at_str s p hp) (at_str s (p + 1) hp1) e hb ht

end Go.Proofs.YtmobillfeldcjaaDoor
