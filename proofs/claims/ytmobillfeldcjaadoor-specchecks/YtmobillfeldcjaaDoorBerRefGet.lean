/-
  What the document's Get answers: for every text and place, in every world.
-/
import Derived.Test.YtmobillfeldcjaaDoorBerGet
import Derived.Test.YtmobillfeldcjaaDoorRegTake
namespace Go.Proofs.YtmobillfeldcjaaDoor
open Go.RowKit

theorem berrefGet_place (p : Int) (s : ByteArray) (w : World) (h : p < 0 ∨ (s.size : Int) < p) :
    Calls Tryd.prog 28 #[.string s, .int .i64 p] w fun e w' => e = .returned (.tuple #[.int .i64 0, .int .i64 0, .int .i64 1]) ∧ Below w.heap.size w w' := by
  by_cases h0 : p < 0
  · clear h
    go_enter Tryd.func28, Tryd.ntmps28
    go_wp2
    go_ret3
    exact ⟨rfl, Below.refl _ _⟩
  · have h1 : (s.size : Int) < p := by omega
    have h2 : decide (p < 0) = false := by simp; omega
    clear h h0
    go_enter Tryd.func28, Tryd.ntmps28
    go_wp2
    go_ret3
    exact ⟨rfl, Below.refl _ _⟩

theorem berrefGet_cut (s : ByteArray) (w : World) :
    Calls Tryd.prog 28 #[.string s, .int .i64 (s.size : Int)] w fun e w' => e = .returned (.tuple #[.int .i64 0, .int .i64 0, .int .i64 2]) ∧ Below w.heap.size w w' := by
  have h2 : decide ((s.size : Int) < 0) = false := by simp
  go_enter Tryd.func28, Tryd.ntmps28
  go_wp2
  go_ret3
  exact ⟨rfl, Below.refl _ _⟩

theorem berrefGet_one (p a : Nat) (s : ByteArray) (w : World) (hs : s.size ≤ 1000000) (hp : p < s.size) (hix : At s p a) (h : a < 128) :
    Calls Tryd.prog 28 #[.string s, .int .i64 (p : Int)] w fun e w' => e = .returned (.tuple #[.int .i64 (a : Int), .int .i64 ((p + 1 : Nat) : Int), .int .i64 0]) ∧ Below w.heap.size w w' := by
  have h2 : decide ((p : Int) < 0) = false := by simp
  have h3 : decide (s.size < p) = false := by simp; omega
  have h4 : ((p : Int) == (s.size : Int)) = false := by simp; omega
  unfold At at hix
  have ha1 : (a : Int) < 128 := by omega
  clear h
  go_enter Tryd.func28, Tryd.ntmps28
  go_wp2
  go_ret3
  exact ⟨rfl, Below.refl _ _⟩

theorem berrefGet_no (p a : Nat) (s : ByteArray) (w : World) (_hs : s.size ≤ 1000000) (hp : p < s.size) (ha : a < 256) (hix : At s p a) (h : a = 128 ∨ 130 < a) :
    Calls Tryd.prog 28 #[.string s, .int .i64 (p : Int)] w fun e w' => e = .returned (.tuple #[.int .i64 0, .int .i64 0, .int .i64 14]) ∧ Below w.heap.size w w' := by
  have h2 : decide ((p : Int) < 0) = false := by simp
  have h3 : decide (s.size < p) = false := by simp; omega
  have h4 : ((p : Int) == (s.size : Int)) = false := by simp; omega
  unfold At at hix
  have t1 : decide ((a : Int) < 128) = false := by simp; omega
  have t2 : ((a : Int) != 129) = true := by simp; omega
  have t3 : ((a : Int) != 130) = true := by simp; omega
  have ha1 : (a : Int) < 256 := by omega
  clear h ha
  go_enter Tryd.func28, Tryd.ntmps28
  go_wp2
  go_ret3
  exact ⟨rfl, Below.refl _ _⟩

theorem berrefGet_short1 (p : Nat) (s : ByteArray) (w : World) (hs : s.size ≤ 1000000) (hp : p < s.size) (hq : p + 1 = s.size) (hix : At s p 129) :
    Calls Tryd.prog 28 #[.string s, .int .i64 (p : Int)] w fun e w' => e = .returned (.tuple #[.int .i64 0, .int .i64 0, .int .i64 2]) ∧ Below w.heap.size w w' := by
  have h2 : decide ((p : Int) < 0) = false := by simp
  have h3 : decide (s.size < p) = false := by simp; omega
  have h4 : ((p : Int) == (s.size : Int)) = false := by simp; omega
  change ∀ w, (Instr.index 9 (.string s) (.int .i64 (p : Int))).run Tryd.prog w = .ok (.int .u8 129) w at hix
  have h5 : decide ((s.size : Int) - (p : Int) < 2) = true := by simp; omega
  clear hq
  go_enter Tryd.func28, Tryd.ntmps28
  go_wp2
  go_ret3
  exact ⟨rfl, Below.refl _ _⟩

theorem berrefGet_short2 (p : Nat) (s : ByteArray) (w : World) (hs : s.size ≤ 1000000) (hp : p < s.size) (hq : s.size < p + 3) (hix : At s p 130) :
    Calls Tryd.prog 28 #[.string s, .int .i64 (p : Int)] w fun e w' => e = .returned (.tuple #[.int .i64 0, .int .i64 0, .int .i64 2]) ∧ Below w.heap.size w w' := by
  have h2 : decide ((p : Int) < 0) = false := by simp
  have h3 : decide (s.size < p) = false := by simp; omega
  have h4 : ((p : Int) == (s.size : Int)) = false := by simp; omega
  change ∀ w, (Instr.index 9 (.string s) (.int .i64 (p : Int))).run Tryd.prog w = .ok (.int .u8 130) w at hix
  have h5 : decide ((s.size : Int) - (p : Int) < 3) = true := by simp; omega
  clear hq
  go_enter Tryd.func28, Tryd.ntmps28
  go_wp2
  go_ret3
  exact ⟨rfl, Below.refl _ _⟩

theorem berrefGet_bad1 (p b : Nat) (s : ByteArray) (w : World) (hs : s.size ≤ 1000000) (_hp : p < s.size) (hq : p + 1 < s.size) (hix : At s p 129) (hiy : At s ((p : Int) + 1) b) (hb : b < 128) :
    Calls Tryd.prog 28 #[.string s, .int .i64 (p : Int)] w fun e w' => e = .returned (.tuple #[.int .i64 0, .int .i64 0, .int .i64 14]) ∧ Below w.heap.size w w' := by
  have h2 : decide ((p : Int) < 0) = false := by simp
  have h3 : decide (s.size < p) = false := by simp; omega
  have h4 : ((p : Int) == (s.size : Int)) = false := by simp; omega
  change ∀ w, (Instr.index 9 (.string s) (.int .i64 (p : Int))).run Tryd.prog w = .ok (.int .u8 129) w at hix
  unfold At at hiy
  have h5 : decide ((s.size : Int) - (p : Int) < 2) = false := by simp; omega
  have hb1 : (b : Int) < 128 := by omega
  clear hb
  go_enter Tryd.func28, Tryd.ntmps28
  go_wp2
  go_ret3
  exact ⟨rfl, Below.refl _ _⟩

theorem berrefGet_two (p b : Nat) (s : ByteArray) (w : World) (hs : s.size ≤ 1000000) (_hp : p < s.size) (hq : p + 1 < s.size) (hix : At s p 129) (hiy : At s ((p : Int) + 1) b) (hb : 128 ≤ b) (hb2 : b < 256) :
    Calls Tryd.prog 28 #[.string s, .int .i64 (p : Int)] w fun e w' => e = .returned (.tuple #[.int .i64 (b : Int), .int .i64 ((p + 2 : Nat) : Int), .int .i64 0]) ∧ Below w.heap.size w w' := by
  have h2 : decide ((p : Int) < 0) = false := by simp
  have h3 : decide (s.size < p) = false := by simp; omega
  have h4 : ((p : Int) == (s.size : Int)) = false := by simp; omega
  change ∀ w, (Instr.index 9 (.string s) (.int .i64 (p : Int))).run Tryd.prog w = .ok (.int .u8 129) w at hix
  unfold At at hiy
  have h5 : decide ((s.size : Int) - (p : Int) < 2) = false := by simp; omega
  have t1 : decide ((b : Int) < 128) = false := by simp; omega
  have hb1 : (b : Int) < 256 := by omega
  clear hb hb2
  go_enter Tryd.func28, Tryd.ntmps28
  go_wp2
  go_ret3
  exact ⟨rfl, Below.refl _ _⟩

theorem berrefGet_bad2 (p : Nat) (s : ByteArray) (w : World) (hs : s.size ≤ 1000000) (_hp : p < s.size) (hq : p + 2 < s.size) (hix : At s p 130) (hiy : At s ((p : Int) + 1) 0) :
    Calls Tryd.prog 28 #[.string s, .int .i64 (p : Int)] w fun e w' => e = .returned (.tuple #[.int .i64 0, .int .i64 0, .int .i64 14]) ∧ Below w.heap.size w w' := by
  have h2 : decide ((p : Int) < 0) = false := by simp
  have h3 : decide (s.size < p) = false := by simp; omega
  have h4 : ((p : Int) == (s.size : Int)) = false := by simp; omega
  change ∀ w, (Instr.index 9 (.string s) (.int .i64 (p : Int))).run Tryd.prog w = .ok (.int .u8 130) w at hix
  change ∀ w, (Instr.index 9 (.string s) (.int .i64 ((p : Int) + 1))).run Tryd.prog w = .ok (.int .u8 0) w at hiy
  have h5 : decide ((s.size : Int) - (p : Int) < 3) = false := by simp; omega
  go_enter Tryd.func28, Tryd.ntmps28
  go_wp2
  go_ret3
  exact ⟨rfl, Below.refl _ _⟩

set_option maxHeartbeats 800000 in
theorem berrefGet_three (p b c : Nat) (s : ByteArray) (w : World) (hs : s.size ≤ 1000000) (_hp : p < s.size) (hq : p + 2 < s.size) (hix : At s p 130) (hiy : At s ((p : Int) + 1) b) (hiz : At s ((p : Int) + 2) c) (hb0 : 1 ≤ b) (hb : b < 256) (hc : c < 256) :
    Calls Tryd.prog 28 #[.string s, .int .i64 (p : Int)] w fun e w' => e = .returned (.tuple #[.int .i64 ((256 * b + c : Nat) : Int), .int .i64 ((p + 3 : Nat) : Int), .int .i64 0]) ∧ Below w.heap.size w w' := by
  have h2 : decide ((p : Int) < 0) = false := by simp
  have h3 : decide (s.size < p) = false := by simp; omega
  have h4 : ((p : Int) == (s.size : Int)) = false := by simp; omega
  change ∀ w, (Instr.index 9 (.string s) (.int .i64 (p : Int))).run Tryd.prog w = .ok (.int .u8 130) w at hix
  unfold At at hiy hiz
  have h5 : decide ((s.size : Int) - (p : Int) < 3) = false := by simp; omega
  have g1 : ((b : Int) == 0) = false := by simp; omega
  have hb1 : (b : Int) < 256 := by omega
  have hc1 : (c : Int) < 256 := by omega
  have w1 : IntKind.i64.wrap (256 * (b : Int)) = 256 * (b : Int) := IntWalk.i64_in _ (by omega)
  have w2 : IntKind.i64.wrap ((p : Int) + 1) = (p : Int) + 1 := IntWalk.i64_in _ (by omega)
  have w7 : IntKind.i64.wrap ((p : Int) + 2) = (p : Int) + 2 := IntWalk.i64_in _ (by omega)
  have w3 : IntKind.i64.wrap (256 * (b : Int) + (c : Int)) = ((256 * b + c : Nat) : Int) := by rw [IntWalk.i64_in _ (by omega)]; omega
  have w4 : IntKind.i64.wrap ((p : Int) + 3) = ((p + 3 : Nat) : Int) := by rw [IntWalk.i64_in _ (by omega)]; omega
  have w5 : IntKind.i64.wrap (b : Int) = (b : Int) := IntWalk.i64_in _ (by omega)
  have w6 : IntKind.i64.wrap (c : Int) = (c : Int) := IntWalk.i64_in _ (by omega)
  generalize 256 * b + c = z at w3 ⊢
  generalize p + 3 = y at w4 ⊢
  clear hb hc hb0
  go_enter Tryd.func28, Tryd.ntmps28
  go_wp2
  refine wp_region_noPanic ?_
  refine wp_region_held_drew (S := fun _ => True) (by kernel_rfl) trivial (fun _ => ?_)
  refine give_val (i := 0) (v := ?_) rfl (by kernel_rfl) (by kernel_rfl) (by kernel_rfl) (fun _ _ _ h => h) (by rfl) (fun _ _ => ?_) trivial ?_
  rotate_left
  · (go_simp; try (with_reducible rfl))
  try simp only [Act.put, List.setIfInBounds_toArray, List.set_cons_zero, List.set_cons_succ]
  refine give_val (i := 1) (v := ?_) rfl (by kernel_rfl) (by kernel_rfl) (by kernel_rfl) (fun _ _ _ h => h) (by rfl) (fun _ _ => ?_) trivial ?_
  rotate_left
  · (go_simp; try (with_reducible rfl))
  try simp only [Act.put, List.setIfInBounds_toArray, List.set_cons_zero, List.set_cons_succ]
  refine give_val (i := 2) (v := ?_) rfl (by kernel_rfl) (by kernel_rfl) (by kernel_rfl) (fun _ _ _ h => h) (by rfl) (fun _ _ => ?_) trivial ?_
  rotate_left
  · (go_simp; try (with_reducible rfl))
  try simp only [Act.put, List.setIfInBounds_toArray, List.set_cons_zero, List.set_cons_succ]
  refine give_val (i := 3) (v := ?_) rfl (by kernel_rfl) (by kernel_rfl) (by kernel_rfl) (fun _ _ _ h => h) (by rfl) (fun _ _ => ?_) trivial ?_
  rotate_left
  · (go_simp; try (with_reducible rfl))
  try simp only [Act.put, List.setIfInBounds_toArray, List.set_cons_zero, List.set_cons_succ]
  refine give_val (i := 4) (v := ?_) rfl (by kernel_rfl) (by kernel_rfl) (by kernel_rfl) (fun _ _ _ h => h) (by rfl) (fun _ _ => ?_) trivial ?_
  rotate_left
  · (go_simp; try (with_reducible rfl))
  try simp only [Act.put, List.setIfInBounds_toArray, List.set_cons_zero, List.set_cons_succ]
  refine give_val (i := 5) (v := ?_) rfl (by kernel_rfl) (by kernel_rfl) (by kernel_rfl) (fun _ _ _ h => h) (by rfl) (fun _ _ => ?_) trivial ?_
  rotate_left
  · (go_simp; try (with_reducible rfl))
  try simp only [Act.put, List.setIfInBounds_toArray, List.set_cons_zero, List.set_cons_succ]
  refine give_val (i := 6) (v := ?_) rfl (by kernel_rfl) (by kernel_rfl) (by kernel_rfl) (fun _ _ _ h => h) (by rfl) (fun _ _ => ?_) trivial ?_
  rotate_left
  · (go_simp; try (with_reducible rfl))
  try simp only [Act.put, List.setIfInBounds_toArray, List.set_cons_zero, List.set_cons_succ]
  refine give_val (i := 7) (v := ?_) rfl (by kernel_rfl) (by kernel_rfl) (by kernel_rfl) (fun _ _ _ h => h) (by rfl) (fun _ _ => ?_) trivial ?_
  rotate_left
  · (go_simp; try (with_reducible rfl))
  try simp only [Act.put, List.setIfInBounds_toArray, List.set_cons_zero, List.set_cons_succ]
  refine give_val (i := 8) (v := ?_) rfl (by kernel_rfl) (by kernel_rfl) (by kernel_rfl) (fun _ _ _ h => h) (by rfl) (fun _ _ => ?_) trivial ?_
  rotate_left
  · (go_simp; try (with_reducible rfl))
  try simp only [Act.put, List.setIfInBounds_toArray, List.set_cons_zero, List.set_cons_succ]
  refine give_val (i := 9) (v := ?_) rfl (by kernel_rfl) (by kernel_rfl) (by kernel_rfl) (fun _ _ _ h => h) (by rfl) (fun _ _ => ?_) trivial ?_
  rotate_left
  · (go_simp; try (with_reducible rfl))
  try simp only [Act.put, List.setIfInBounds_toArray, List.set_cons_zero, List.set_cons_succ]
  refine give_val (i := 10) (v := ?_) rfl (by kernel_rfl) (by kernel_rfl) (by kernel_rfl) (fun _ _ _ h => h) (by rfl) (fun _ _ => ?_) trivial ?_
  rotate_left
  · (go_simp; try (with_reducible rfl))
  try simp only [Act.put, List.setIfInBounds_toArray, List.set_cons_zero, List.set_cons_succ]
  refine give_val (i := 11) (v := ?_) rfl (by kernel_rfl) (by kernel_rfl) (by kernel_rfl) (fun _ _ _ h => h) (by rfl) (fun _ _ => ?_) trivial ?_
  rotate_left
  · (go_simp; try (with_reducible rfl))
  try simp only [Act.put, List.setIfInBounds_toArray, List.set_cons_zero, List.set_cons_succ]
  refine give_val (i := 12) (v := ?_) rfl (by kernel_rfl) (by kernel_rfl) (by kernel_rfl) (fun _ _ _ h => h) (by rfl) (fun _ _ => ?_) trivial ?_
  rotate_left
  · (go_simp; try (with_reducible rfl))
  try simp only [Act.put, List.setIfInBounds_toArray, List.set_cons_zero, List.set_cons_succ]
  refine give_val (i := 13) (v := ?_) rfl (by kernel_rfl) (by kernel_rfl) (by kernel_rfl) (fun _ _ _ h => h) (by rfl) (fun _ _ => ?_) trivial ?_
  rotate_left
  · (go_simp; try (with_reducible rfl))
  try simp only [Act.put, List.setIfInBounds_toArray, List.set_cons_zero, List.set_cons_succ]
  refine give_val (i := 14) (v := ?_) rfl (by kernel_rfl) (by kernel_rfl) (by kernel_rfl) (fun _ _ _ h => h) (by rfl) (fun _ _ => ?_) trivial ?_
  rotate_left
  · (go_simp; try (with_reducible rfl))
  try simp only [Act.put, List.setIfInBounds_toArray, List.set_cons_zero, List.set_cons_succ]
  refine give_val (i := 15) (v := ?_) rfl (by kernel_rfl) (by kernel_rfl) (by kernel_rfl) (fun _ _ _ h => h) (by rfl) (fun _ _ => ?_) trivial ?_
  rotate_left
  · (go_simp; try (with_reducible rfl))
  try simp only [Act.put, List.setIfInBounds_toArray, List.set_cons_zero, List.set_cons_succ]
  refine give_val (i := 16) (v := ?_) rfl (by kernel_rfl) (by kernel_rfl) (by kernel_rfl) (fun _ _ _ h => h) (by rfl) (fun _ _ => ?_) trivial ?_
  rotate_left
  · (go_simp; try (with_reducible rfl))
  try simp only [Act.put, List.setIfInBounds_toArray, List.set_cons_zero, List.set_cons_succ]
  refine wpAnyH_done (by kernel_rfl) (NoPanic.normal ?_) _
  go_wp2
  go_ret3
  exact ⟨rfl, (Below.refl _ _).drew⟩

/-- What the document's Get answers at a place of a text. -/
theorem berrefGet_any (p : Nat) (s : ByteArray) (w : World) (hs : s.size ≤ 1000000) (hp : p ≤ s.size) :
    Calls Tryd.prog 28 #[.string s, .int .i64 (p : Int)] w fun e w' => e = .returned (bergetV (berGet s.data.toList p)) ∧ Below w.heap.size w w' := by
  have hl : s.data.toList.length = s.size := by simp
  by_cases h : p = s.size
  · subst h
    rw [berGet_cut (by omega)]
    exact berrefGet_cut s w
  have hp : p < s.size := by omega
  have ha := s[p].toNat_lt
  have hix := at_str s p hp
  rw [berGet_at _ (list_at s p hp)]
  generalize s[p].toNat = a at *
  by_cases h1 : a < 128
  · rw [berRead_one _ _ h1]
    exact berrefGet_one p a s w hs hp hix h1
  by_cases h2 : a = 129
  · subst h2
    by_cases hq : p + 1 = s.size
    · rw [List.getElem?_eq_none (by omega), Option.map_none, berRead_cut1]
      exact berrefGet_short1 p s w hs hp hq hix
    · have hq : p + 1 < s.size := by omega
      have hiy := at_str s (p + 1) hq
      rw [list_at s (p + 1) hq, Option.map_some]
      have hb := s[p + 1].toNat_lt
      generalize s[p + 1].toNat = b at *
      by_cases h3 : b < 128
      · rw [berRead_bad1 _ h3]
        exact berrefGet_bad1 p b s w hs hp hq hix hiy h3
      · rw [berRead_two _ (by omega)]
        exact berrefGet_two p b s w hs hp hq hix hiy (by omega) hb
  by_cases h3 : a = 130
  · subst h3
    by_cases hq : s.size < p + 3
    · rw [List.getElem?_eq_none (show s.data.toList.length ≤ p + 2 by omega), Option.map_none, berRead_cut2]
      exact berrefGet_short2 p s w hs hp hq hix
    · have hq : p + 2 < s.size := by omega
      have hq1 : p + 1 < s.size := by omega
      have hiy := at_str s (p + 1) hq1
      have hiz := at_str s (p + 2) hq
      rw [list_at s (p + 1) hq1, list_at s (p + 2) hq, Option.map_some, Option.map_some]
      have hb := s[p + 1].toNat_lt
      have hc := s[p + 2].toNat_lt
      generalize s[p + 1].toNat = b at *
      generalize s[p + 2].toNat = c at *
      by_cases h4 : b = 0
      · subst h4
        rw [berRead_bad2]
        exact berrefGet_bad2 p s w hs hp hq hix hiy
      · rw [berRead_three (by omega)]
        exact berrefGet_three p b c s w hs hp hq hix hiy hiz (by omega) hb hc
  rw [berRead_no _ _ (by omega)]
  exact berrefGet_no p a s w hs hp ha hix (by omega)

end Go.Proofs.YtmobillfeldcjaaDoor
