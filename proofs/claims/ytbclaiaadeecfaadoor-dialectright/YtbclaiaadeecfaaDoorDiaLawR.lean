/-
  The law DialectRight: for every dialect and set, in every world in which the two tables hold the dialects' specs.
-/
import Derived.Test.YtbclaiaadeecfaaDoorDiaAwake
import Derived.Test.YtbclaiaadeecfaaDoorSchSame
import Derived.Test.YtbclaiaadeecfaaDoorSchCheck
import Derived.Test.YtbclaiaadeecfaaDoorSchCopy
namespace Go.Proofs.YtbclaiaadeecfaaDoor
open Go.RowKit

theorem restrict_some (st v : Int) (A : Option Addr) (cap : Nat) (l : List Sp) (h lw : Nat) (w : World) (hI : Spl w A l) (hn : l.length ≤ 1000) (b1 : h < M64) (b2 : lw < M64) :
    Calls Tryd.prog 13 #[.agg #[.int .i64 st, .int .i64 v, .slice A l.length cap], setV h lw] w fun e w' => ∃ x, e = .returned x ∧ ∃ A' c', x = .agg #[.int .i64 st, .int .i64 v, .slice A' (keepL h lw l).length c'] ∧ Spl w' A' (keepL h lw l) ∧ Below w.heap.size w w' :=
  (srestrict_any st v A cap l h lw w hI hn b1 b2).mono fun _ _ ⟨A', c', h1, h2, h3⟩ => ⟨_, h1, A', c', rfl, h2, h3⟩

set_option maxRecDepth 100000 in
set_option maxHeartbeats 6400000 in
theorem dright_any (b : Bool) (h lw : Nat) (b1 : h < M64) (b2 : lw < M64) (w : World) (hT : Tabs w) :
    Calls Tryd.prog 4 #[.bool b, .int .u64 (h : Int), .int .u64 (lw : Int)] w fun e w' => e = .returned (.bool true) ∧ Below w.heap.size w w' := by
  obtain ⟨st, v, L, hr, hn, hof⟩ := dof_any b
  have hkn : (keepL h lw L).length ≤ 1000 := Nat.le_trans (keep_length h lw L) hn
  have HOF := Lib.hid hof
  have HC := Lib.hid (fun A' c' W hW => schk_any st v A' c' L W hW hn)
  have HD := Lib.hid (fun A' c' W hW => schk_any st v A' c' (keepL h lw L) W hW hkn)
  have HBT := Lib.hid (fun W => bits_any h lw W)
  have HR := Lib.hid (fun A' c' W hW => restrict_some st v A' c' L h lw W hW hn b1 b2)
  rw [hr] at HC
  rw [show (schN st v (keepL h lw L)).1 = 0 from right_filter _ hr] at HD
  unfold setV at *
  generalize (schN st v L).2 = y1 at *
  generalize (schN st v (keepL h lw L)).2 = y2 at *
  generalize keepL h lw L = K at *
  have HT := Lib.hid hT
  clear hof hT hr hkn hn b1 b2
  generalize L.length = len at *
  generalize K.length = klen at *
  go_enter Tryd.func4, Tryd.ntmps4
  go_wp2_with fail
  refine (HOF.out _ HT.out).mono ?_
  rintro e w1 ⟨g, A, c, rfl, hp⟩
  have HW := Lib.hid (twins_new w1 st v (some ⟨g, 0, none⟩) len len st v A len c)
  have HS := Lib.hid (hp.spl.below HW.out.1)
  have HB := Lib.hid (hbt hp.2.2.2.2 HW.out.1)
  clear hp
  go_wp2_with fail
  generalize (w1.alloc (.cells #[.int .i64 st, .int .i64 v, .slice (some ⟨g, 0, none⟩) len len] 24)).alloc (.cells #[.int .i64 st, .int .i64 v, .slice A len c] 24) = U at *
  refine (HC.out _ _ _ HS.out).mono ?_
  rintro e w2 ⟨rfl, hb2⟩
  have HX2 := Lib.hid hb2
  clear hb2
  go_wp2_with fail
  refine wp_region_noPanic ?_
  refine wp_region_held_drew (S := (fun u => Below U.heap.size U u)) (by kernel_rfl) (HX2.out.drew) (fun hS => ?_)
  refine give_val (i := 0) (v := ?_) rfl (by kernel_rfl) (by kernel_rfl) (by kernel_rfl) (fun _ _ _ h => h) (by rfl) (fun u hu => ?_) hS ?_
  rotate_left
  · ((have hW := HW.out.below hu; obtain ⟨c0, c1, c2⟩ := obj_cells3 hW.2.1; clear hW); go_simp; try (with_reducible rfl))
  try simp only [Act.put, List.setIfInBounds_toArray, List.set_cons_zero, List.set_cons_succ]
  refine give_val (i := 1) (v := ?_) rfl (by kernel_rfl) (by kernel_rfl) (by kernel_rfl) (fun _ _ _ h => h) (by rfl) (fun u hu => ?_) hS ?_
  rotate_left
  · ((have hW := HW.out.below hu; obtain ⟨c0, c1, c2⟩ := obj_cells3 hW.2.1; clear hW); go_simp; try (with_reducible rfl))
  try simp only [Act.put, List.setIfInBounds_toArray, List.set_cons_zero, List.set_cons_succ]
  refine give_val (i := 2) (v := ?_) rfl (by kernel_rfl) (by kernel_rfl) (by kernel_rfl) (fun _ _ _ h => h) (by rfl) (fun u hu => ?_) hS ?_
  rotate_left
  · ((have hW := HW.out.below hu; obtain ⟨c0, c1, c2⟩ := obj_cells3 hW.2.1; clear hW); go_simp; try (with_reducible rfl))
  try simp only [Act.put, List.setIfInBounds_toArray, List.set_cons_zero, List.set_cons_succ]
  refine only_call (i := 3) 14 #[.int .u64 (h : Int), .int .u64 (lw : Int)] rfl (by kernel_rfl) (by rfl) ((HBT.out _).mono fun e w' he => ⟨he.1, hbt hS he.2⟩) ?_ ?_
  · (go_simp; try (with_reducible rfl))
  clear hS
  intro w3 hS
  try simp only [Act.put, List.setIfInBounds_toArray, List.set_cons_zero, List.set_cons_succ]
  refine only_some (i := 4) 13 #[.agg #[.int .i64 st, .int .i64 v, .slice (some ⟨g, 0, none⟩) len len], .agg #[.int .u64 (h : Int), .int .u64 (lw : Int)]] rfl (by kernel_rfl) (by rfl) ((HR.out _ _ _ (HS.out.below hS))) ?_ ?_
  · (go_simp; try (with_reducible rfl))
  intro v4 w4 hT
  obtain ⟨A4, c4, rfl, ht4, hb4⟩ := hT
  have hS' := (hbt hS hb4)
  refine ⟨hS', ?_⟩
  clear hS
  have hS := hS'; clear hS'
  try simp only [Act.put, List.setIfInBounds_toArray, List.set_cons_zero, List.set_cons_succ]
  refine only_call (i := 5) 12 #[.agg #[.int .i64 st, .int .i64 v, .slice A4 klen c4]] rfl (by kernel_rfl) (by rfl) ((HD.out _ _ _ ht4).mono fun e w' he => ⟨he.1, hbt hS he.2⟩) ?_ ?_
  · (go_simp; try (with_reducible rfl))
  clear hS
  intro w5 hS
  try simp only [Act.put, List.setIfInBounds_toArray, List.set_cons_zero, List.set_cons_succ]
  refine give_val (i := 6) (v := ?_) rfl (by kernel_rfl) (by kernel_rfl) (by kernel_rfl) (fun _ _ _ h => h) (by rfl) (fun u hu => ?_) hS ?_
  rotate_left
  · ((have hW := HW.out.below hu; obtain ⟨c0, c1, c2⟩ := obj_cells3 hW.2.1; clear hW); go_simp; try (with_reducible rfl))
  try simp only [Act.put, List.setIfInBounds_toArray, List.set_cons_zero, List.set_cons_succ]
  refine give_val (i := 7) (v := ?_) rfl (by kernel_rfl) (by kernel_rfl) (by kernel_rfl) (fun _ _ _ h => h) (by rfl) (fun u hu => ?_) hS ?_
  rotate_left
  · ((have hW := HW.out.below hu; obtain ⟨c0, c1, c2⟩ := obj_cells3 hW.2.1; clear hW); go_simp; try (with_reducible rfl))
  try simp only [Act.put, List.setIfInBounds_toArray, List.set_cons_zero, List.set_cons_succ]
  refine give_val (i := 8) (v := ?_) rfl (by kernel_rfl) (by kernel_rfl) (by kernel_rfl) (fun _ _ _ h => h) (by rfl) (fun u hu => ?_) hS ?_
  rotate_left
  · ((have hW := HW.out.below hu; obtain ⟨c0, c1, c2⟩ := obj_cells3 hW.2.1; clear hW); go_simp; try (with_reducible rfl))
  try simp only [Act.put, List.setIfInBounds_toArray, List.set_cons_zero, List.set_cons_succ]
  refine give_val (i := 9) (v := ?_) rfl (by kernel_rfl) (by kernel_rfl) (by kernel_rfl) (fun _ _ _ h => h) (by rfl) (fun u hu => ?_) hS ?_
  rotate_left
  · ((have hW := HW.out.below hu; obtain ⟨c0, c1, c2⟩ := obj_cells3 hW.2.1; clear hW); go_simp; try (with_reducible rfl))
  try simp only [Act.put, List.setIfInBounds_toArray, List.set_cons_zero, List.set_cons_succ]
  refine give_val (i := 10) (v := ?_) rfl (by kernel_rfl) (by kernel_rfl) (by kernel_rfl) (fun _ _ _ h => h) (by rfl) (fun u hu => ?_) hS ?_
  rotate_left
  · ((have hW := HW.out.below hu; obtain ⟨c0, c1, c2⟩ := obj_cells3 hW.2.1; clear hW); go_simp; try (with_reducible rfl))
  try simp only [Act.put, List.setIfInBounds_toArray, List.set_cons_zero, List.set_cons_succ]
  refine wpAnyH_done (by kernel_rfl) (NoPanic.normal ?_) _
  have HX3 := Lib.hid hS
  clear hS
  go_wp2_with fail
  refine (dawake_any _ (HT.out.below (hbt HB.out HX3.out))).mono ?_
  rintro e w7 ⟨rfl, hb7⟩
  have HX7 := Lib.hid (hbt HX3.out hb7)
  clear hb7
  go_wp2
  go_ret
  exact ⟨rfl, hbt HB.out HX7.out⟩
theorem dright_walk (b : Bool) (h lw : Int) (w : World) (hT : Tabs w) (a1 : 0 ≤ h) (a2 : h ≤ 18446744073709551615) (a3 : 0 ≤ lw) (a4 : lw ≤ 18446744073709551615) :
    Calls Tryd.prog 4 #[.bool b, .int .u64 h, .int .u64 lw] w fun e w' => e = .returned (.bool true) ∧ Below w.heap.size w w' := by
  obtain ⟨x, rfl⟩ := Int.eq_ofNat_of_zero_le a1
  obtain ⟨y, rfl⟩ := Int.eq_ofNat_of_zero_le a3
  exact dright_any b x y (by unfold M64; omega) (by unfold M64; omega) w hT

end Go.Proofs.YtbclaiaadeecfaaDoor
