/-
  The law SchemaOrder: for every schema, in every world.
-/
import Derived.Test.YtiifkcemieblkaaSchAwake
import Derived.Test.YtiifkcemieblkaaFldOnes
namespace Go.Proofs.Ytiifkcemieblkaa
open Go.RowKit

set_option maxRecDepth 100000 in
set_option maxHeartbeats 3200000 in
theorem sorder_long (st v : Int) (A : Option Addr) (len cap : Nat) (w : World) (h : 300 < len) :
    Calls Try.prog 6 #[.agg #[.int .i64 st, .int .i64 v, .slice A len cap]] w fun e w' => e = .returned (.bool true) ∧ Below w.heap.size w w' := by
  have t : decide ((300 : Int) < (len : Int)) = true := by simp; omega
  clear h
  go_enter Try.func6, Try.ntmps6
  go_wp2_with fail
  refine (scawake_any _).mono ?_
  rintro e w1 ⟨rfl, hb1⟩
  obtain ⟨b0, b1, b2⟩ := obj_cells3 ((box_new w st v A len cap).below hb1)
  have HB1 := Lib.hid (hbt (below_al _ _) hb1)
  clear hb1
  go_wp2_with fail
  refine (scawake_any _).mono ?_
  rintro e w2 ⟨rfl, hb2⟩
  have HB2 := Lib.hid (hbt HB1.out hb2)
  clear hb2 b0 b1 b2
  go_wp2
  go_ret
  exact ⟨rfl, HB2.out⟩
set_option maxRecDepth 100000 in
set_option maxHeartbeats 3200000 in
theorem sorder_wrong (st v : Int) (A : Option Addr) (cap : Nat) (l : List Sp) (w : World) (hI : Spl w A l) (h : ¬ 300 < l.length) (hr : ¬ (schN st v l).1 = 0) :
    Calls Try.prog 6 #[.agg #[.int .i64 st, .int .i64 v, .slice A l.length cap]] w fun e w' => e = .returned (.bool true) ∧ Below w.heap.size w w' := by
  have t : decide ((300 : Int) < (l.length : Int)) = false := by simp; omega
  have HRT := Lib.hid (fun W hW => sright_any st v A cap l W hW (by omega))
  rw [decide_eq_false hr] at HRT
  have HI := Lib.hid hI
  clear h hI hr
  generalize l.length = len at *
  go_enter Try.func6, Try.ntmps6
  go_wp2_with fail
  refine (scawake_any _).mono ?_
  rintro e w1 ⟨rfl, hb1⟩
  obtain ⟨b0, b1, b2⟩ := obj_cells3 ((box_new w st v A len cap).below hb1)
  have HB1 := Lib.hid (hbt (below_al _ _) hb1)
  clear hb1
  go_wp2_with fail
  refine (HRT.out _ (HI.out.below HB1.out)).mono ?_
  rintro e w2 ⟨rfl, hb2⟩
  have HB2 := Lib.hid (hbt HB1.out hb2)
  clear hb2 b0 b1 b2
  go_wp2_with fail
  refine (scawake_any _).mono ?_
  rintro e w3 ⟨rfl, hb3⟩
  have HB3 := Lib.hid (hbt HB2.out hb3)
  clear hb3
  go_wp2
  go_ret
  exact ⟨rfl, HB3.out⟩
theorem same_some (st v : Int) (A : Option Addr) (cap : Nat) (l : List Sp) (W : World) (hn : l.length ≤ 1000) (h : Spl W A l) : Calls Try.prog 10 #[.agg #[.int .i64 st, .int .i64 v, .slice A l.length cap]] W fun e w' => ∃ x, e = .returned x ∧ ∃ A' c', x = .agg #[.int .i64 st, .int .i64 v, .slice A' l.length c'] ∧ Spl w' A' l ∧ Below W.heap.size W w' :=
  (scopy_any st v A cap l W h hn).mono fun _ _ ⟨A', c', he, ht, hb⟩ => ⟨_, he, A', c', rfl, ht, hb⟩
theorem keep_some (st v : Int) (A : Option Addr) (cap : Nat) (l : List Sp) (W : World) (hn : l.length ≤ 1000) (hr : Rise 0 l) (h : Spl W A l) : Calls Try.prog 18 #[.agg #[.int .i64 st, .int .i64 v, .slice A l.length cap], .agg #[.int .u64 (ofH (nosOf l) : Int), .int .u64 (ofL (nosOf l) : Int)]] W fun e w' => ∃ x, e = .returned x ∧ ∃ A' c', x = .agg #[.int .i64 st, .int .i64 v, .slice A' l.length c'] ∧ Spl w' A' l ∧ Below W.heap.size W w' := by
  have := srestrict_any st v A cap l (ofH (nosOf l)) (ofL (nosOf l)) W h hn (of_lt _).1 (of_lt _).2
  rw [show keepL (ofH (nosOf l)) (ofL (nosOf l)) l = l from rise_all hr] at this
  exact this.mono fun e w' ⟨A', c', he, ht, hb⟩ => ⟨_, he, A', c', rfl, ht, hb⟩

set_option maxRecDepth 100000 in
set_option maxHeartbeats 6400000 in
theorem sorder_right (st v : Int) (A : Option Addr) (cap : Nat) (l : List Sp) (w : World) (hI : Spl w A l) (h : ¬ 300 < l.length) (hr : (schN st v l).1 = 0) :
    Calls Try.prog 6 #[.agg #[.int .i64 st, .int .i64 v, .slice A l.length cap]] w fun e w' => e = .returned (.bool true) ∧ Below w.heap.size w w' := by
  have t : decide ((300 : Int) < (l.length : Int)) = false := by simp; omega
  have hn : l.length ≤ 1000 := by omega
  have hrise := right_rise hr
  have HRT := Lib.hid (fun W hW => sright_any st v A cap l W hW hn)
  rw [decide_eq_true hr] at HRT
  have HFD := Lib.hid (fun (no : Int) W hW => sfind_any st v A cap l no W hW hn)
  have HRF := Lib.hid (fun k hk => hrise.find (l := l) k hk)
  have HST := Lib.hid (fun W hW => sset_any st v A cap l W hW hn)
  have HLN := Lib.hid (fun W => len_any (ofH (nosOf l)) (ofL (nosOf l)) W (of_lt _).1 (of_lt _).2)
  rw [rise_len hrise] at HLN
  have HKP := Lib.hid (fun W hW => keep_some st v A cap l W hn hrise hW)
  have HCP := Lib.hid (fun W hW => same_some st v A cap l W hn hW)
  have HSR := Lib.hid (fun A' c' W h1 h2 => srsame_any st v A' c' l st v A cap l W h1 h2 hn)
  have HSS := Lib.hid (fun A' c' W h1 h2 => ssame_any st v A cap l st v A' c' l W h1 h2 hn hn)
  rw [same_refl] at HSR HSS
  have HI := Lib.hid hI
  clear h hI hr hrise
  unfold setV at *
  generalize ofH (nosOf l) = sh at *
  generalize ofL (nosOf l) = sl at *
  generalize hlen : l.length = len at *
  have HLEN := Lib.hid hlen
  clear hlen
  go_enter Try.func6, Try.ntmps6
  go_wp2_with fail
  refine (scawake_any _).mono ?_
  rintro e w1 ⟨rfl, hb1⟩
  have HX1 := Lib.hid ((box_new w st v A len cap).below hb1)
  have HB1 := Lib.hid (hbt (below_al _ _) hb1)
  obtain ⟨b0, b1, b2⟩ := obj_cells3 HX1.out
  clear hb1
  go_wp2_with fail
  refine (HRT.out _ (HI.out.below HB1.out)).mono ?_
  rintro e w2 ⟨rfl, hb2⟩
  have HX2 := Lib.hid (HX1.out.below hb2)
  have HB2 := Lib.hid (hbt HB1.out hb2)
  clear hb2 b0 b1 b2
  obtain ⟨b0, b1, b2⟩ := obj_cells3 HX2.out
  go_wp2
  go_loopw [25] (fun i wr => ∃ k : Nat, k ≤ len ∧ i = .int .i64 (k : Int) ∧ Below w2.heap.size w2 wr) (fun i _ => len - (intOf i).toNat)
  case atStart => exact ⟨0, Nat.zero_le _, rfl, Below.refl _ _⟩
  case round =>
    clear b0 b1 b2
    obtain ⟨k, hk, rfl, hb⟩ := hrel
    have HB := Lib.hid hb
    clear hb
    by_cases hlt : k < len
    · have hkl : k < l.length := by have := HLEN.out; omega
      obtain ⟨a, n, c, f, lo, hi, rfl, hx, c0, c1, c2, c3, c4⟩ := (HI.out.below (hbt HB2.out HB.out)).at_ hkl
      have hfd := HRF.out k (by first | exact hkl | exact hlt)
      rw [hx] at hfd
      dsimp only at hfd
      have HF := Lib.hid (fun W hW => HFD.out n W hW)
      rw [hfd] at HF
      have HF1 : Hid (∀ W, Spl W (some a) l → Calls Try.prog 12 #[.agg #[.int .i64 st, .int .i64 v, .slice (some a) len cap], .int .i64 n] W fun e w' => e = .returned (.tuple #[.agg #[.int .i64 n, .int .i64 c, .int .i64 f, .int .i64 lo, .int .i64 hi], .bool true]) ∧ Below W.heap.size W w') := HF.out
      have HX3 := Lib.hid ((HX2.out.below HB.out).below (below_al wr (.cells #[.int .i64 n, .int .i64 c, .int .i64 f, .int .i64 lo, .int .i64 hi] 34)))
      obtain ⟨b0, b1, b2⟩ := obj_cells3 (HX2.out.below HB.out)
      have hsz := obj_lt (HX2.out.below HB.out)
      clear hx hkl hfd HF
      go_wp2_with fail
      refine (HF1.out _ (HI.out.below (hbt (hbt HB2.out HB.out) (below_al _ _)))).mono ?_
      rintro e w3 ⟨rfl, hb3⟩
      obtain ⟨d0, d1, d2, d3, d4⟩ := obj_cells5 (obj_below (heap_alloc_new wr (.cells #[.int .i64 n, .int .i64 c, .int .i64 f, .int .i64 lo, .int .i64 hi] 34)) hb3)
      have hs3 := obj_lt (obj_below (heap_alloc_new wr (.cells #[.int .i64 n, .int .i64 c, .int .i64 f, .int .i64 lo, .int .i64 hi] 34)) hb3)
      have HB3 := Lib.hid (hbt (hbt HB.out (below_al wr (.cells #[.int .i64 n, .int .i64 c, .int .i64 f, .int .i64 lo, .int .i64 hi] 34))) hb3)
      clear hb3 b0 b1 b2 c0 c1 c2 c3 c4 hsz
      go_wp2
      go_roundw
      case rel => exact ⟨k + 1, by omega, by go_num, hbt HB3.out (below_al _ _)⟩
      case measure => simp [intOf]; omega
    · have HX3 := Lib.hid (HX2.out.below HB.out)
      have HB3 := Lib.hid (hbt HB2.out HB.out)
      obtain ⟨b0, b1, b2⟩ := obj_cells3 HX3.out
      clear HB HB2 HX2
      go_wp2_with fail
      refine (HST.out _ (HI.out.below HB3.out)).mono ?_
      rintro e w4 ⟨rfl, hb4⟩
      have HX4 := Lib.hid ((HX3.out.below hb4).below (below_al w4 (.cells #[.int .u64 (sh : Int), .int .u64 (sl : Int)] 44)))
      have HB4 := Lib.hid (hbt (hbt HB3.out hb4) (below_al w4 (.cells #[.int .u64 (sh : Int), .int .u64 (sl : Int)] 44)))
      have HS4 := Lib.hid (heap_alloc_new w4 (.cells #[.int .u64 (sh : Int), .int .u64 (sl : Int)] 44))
      clear hb4 b0 b1 b2
      go_wp2_with fail
      generalize w4.alloc (.cells #[.int .u64 (sh : Int), .int .u64 (sl : Int)] 44) = W4 at *
      generalize w4.heap.size = gs at *
      refine wp_region_noPanic ?_
      refine wp_region_held_drew (S := (fun u => Below W4.heap.size W4 u)) (by kernel_rfl) ((Below.refl _ _).drew) (fun hS => ?_)
      refine give_val (i := 0) (v := ?_) rfl (by kernel_rfl) (by kernel_rfl) (by kernel_rfl) (fun _ _ _ h => h) (by rfl) (fun u hu => ?_) hS ?_
      rotate_left
      · ((obtain ⟨b0, b1, b2⟩ := obj_cells3 (HX4.out.below hu); obtain ⟨q0, q1, _, _⟩ := obj_cells (obj_below HS4.out hu)); go_simp; try (with_reducible rfl))
      try simp only [Act.put, List.setIfInBounds_toArray, List.set_cons_zero, List.set_cons_succ]
      refine give_val (i := 2) (v := ?_) rfl (by kernel_rfl) (by kernel_rfl) (by kernel_rfl) (fun _ _ _ h => h) (by rfl) (fun u hu => ?_) hS ?_
      rotate_left
      · ((obtain ⟨b0, b1, b2⟩ := obj_cells3 (HX4.out.below hu); obtain ⟨q0, q1, _, _⟩ := obj_cells (obj_below HS4.out hu)); go_simp; try (with_reducible rfl))
      try simp only [Act.put, List.setIfInBounds_toArray, List.set_cons_zero, List.set_cons_succ]
      refine give_val (i := 3) (v := ?_) rfl (by kernel_rfl) (by kernel_rfl) (by kernel_rfl) (fun _ _ _ h => h) (by rfl) (fun u hu => ?_) hS ?_
      rotate_left
      · ((obtain ⟨b0, b1, b2⟩ := obj_cells3 (HX4.out.below hu); obtain ⟨q0, q1, _, _⟩ := obj_cells (obj_below HS4.out hu)); go_simp; try (with_reducible rfl))
      try simp only [Act.put, List.setIfInBounds_toArray, List.set_cons_zero, List.set_cons_succ]
      refine give_val (i := 4) (v := ?_) rfl (by kernel_rfl) (by kernel_rfl) (by kernel_rfl) (fun _ _ _ h => h) (by rfl) (fun u hu => ?_) hS ?_
      rotate_left
      · ((obtain ⟨b0, b1, b2⟩ := obj_cells3 (HX4.out.below hu); obtain ⟨q0, q1, _, _⟩ := obj_cells (obj_below HS4.out hu)); go_simp; try (with_reducible rfl))
      try simp only [Act.put, List.setIfInBounds_toArray, List.set_cons_zero, List.set_cons_succ]
      refine only_call (i := 1) 22 #[.agg #[.int .u64 (sh : Int), .int .u64 (sl : Int)]] rfl (by kernel_rfl) (by rfl) ((HLN.out _).mono fun e w' he => ⟨he.1, hbt hS he.2⟩) ?_ ?_
      · (go_simp; try (with_reducible rfl))
      clear hS
      intro w1 hS
      try simp only [Act.put, List.setIfInBounds_toArray, List.set_cons_zero, List.set_cons_succ]
      refine give_val (i := 5) (v := ?_) rfl (by kernel_rfl) (by kernel_rfl) (by kernel_rfl) (fun _ _ _ h => h) (by rfl) (fun u hu => ?_) hS ?_
      rotate_left
      · ((obtain ⟨b0, b1, b2⟩ := obj_cells3 (HX4.out.below hu); obtain ⟨q0, q1, _, _⟩ := obj_cells (obj_below HS4.out hu)); go_simp; try (with_reducible rfl))
      try simp only [Act.put, List.setIfInBounds_toArray, List.set_cons_zero, List.set_cons_succ]
      refine give_val (i := 6) (v := ?_) rfl (by kernel_rfl) (by kernel_rfl) (by kernel_rfl) (fun _ _ _ h => h) (by rfl) (fun u hu => ?_) hS ?_
      rotate_left
      · ((obtain ⟨b0, b1, b2⟩ := obj_cells3 (HX4.out.below hu); obtain ⟨q0, q1, _, _⟩ := obj_cells (obj_below HS4.out hu)); go_simp; try (with_reducible rfl))
      try simp only [Act.put, List.setIfInBounds_toArray, List.set_cons_zero, List.set_cons_succ]
      refine give_val (i := 7) (v := ?_) rfl (by kernel_rfl) (by kernel_rfl) (by kernel_rfl) (fun _ _ _ h => h) (by rfl) (fun u hu => ?_) hS ?_
      rotate_left
      · ((obtain ⟨b0, b1, b2⟩ := obj_cells3 (HX4.out.below hu); obtain ⟨q0, q1, _, _⟩ := obj_cells (obj_below HS4.out hu)); go_simp; try (with_reducible rfl))
      try simp only [Act.put, List.setIfInBounds_toArray, List.set_cons_zero, List.set_cons_succ]
      refine give_val (i := 8) (v := ?_) rfl (by kernel_rfl) (by kernel_rfl) (by kernel_rfl) (fun _ _ _ h => h) (by rfl) (fun u hu => ?_) hS ?_
      rotate_left
      · ((obtain ⟨b0, b1, b2⟩ := obj_cells3 (HX4.out.below hu); obtain ⟨q0, q1, _, _⟩ := obj_cells (obj_below HS4.out hu)); go_simp; try (with_reducible rfl))
      try simp only [Act.put, List.setIfInBounds_toArray, List.set_cons_zero, List.set_cons_succ]
      refine give_val (i := 10) (v := ?_) rfl (by kernel_rfl) (by kernel_rfl) (by kernel_rfl) (fun _ _ _ h => h) (by rfl) (fun u hu => ?_) hS ?_
      rotate_left
      · ((obtain ⟨b0, b1, b2⟩ := obj_cells3 (HX4.out.below hu); obtain ⟨q0, q1, _, _⟩ := obj_cells (obj_below HS4.out hu)); go_simp; try (with_reducible rfl))
      try simp only [Act.put, List.setIfInBounds_toArray, List.set_cons_zero, List.set_cons_succ]
      refine only_some (i := 9) 18 #[.agg #[.int .i64 st, .int .i64 v, .slice A len cap], .agg #[.int .u64 (sh : Int), .int .u64 (sl : Int)]] rfl (by kernel_rfl) (by rfl) ((HKP.out _ (HI.out.below (hbt HB4.out hS)))) ?_ ?_
      · (go_simp; try (with_reducible rfl))
      intro v9 w9 hT
      obtain ⟨A9, c9, rfl, ht9, hb⟩ := hT
      have hS' := hbt hS hb
      refine ⟨hS', ?_⟩
      clear hS
      have hS := hS'; clear hS'
      try simp only [Act.put, List.setIfInBounds_toArray, List.set_cons_zero, List.set_cons_succ]
      refine only_call (i := 11) 20 #[.agg #[.int .i64 st, .int .i64 v, .slice A9 len c9], .agg #[.int .i64 st, .int .i64 v, .slice A len cap]] rfl (by kernel_rfl) (by rfl) ((HSR.out _ _ _ ht9 (HI.out.below (hbt HB4.out hS))).mono fun e w' he => ⟨he.1, hbt hS he.2⟩) ?_ ?_
      · (go_simp; try (with_reducible rfl))
      clear hS
      intro w11 hS
      try simp only [Act.put, List.setIfInBounds_toArray, List.set_cons_zero, List.set_cons_succ]
      refine give_val (i := 12) (v := ?_) rfl (by kernel_rfl) (by kernel_rfl) (by kernel_rfl) (fun _ _ _ h => h) (by rfl) (fun u hu => ?_) hS ?_
      rotate_left
      · ((obtain ⟨b0, b1, b2⟩ := obj_cells3 (HX4.out.below hu); obtain ⟨q0, q1, _, _⟩ := obj_cells (obj_below HS4.out hu)); go_simp; try (with_reducible rfl))
      try simp only [Act.put, List.setIfInBounds_toArray, List.set_cons_zero, List.set_cons_succ]
      refine give_val (i := 13) (v := ?_) rfl (by kernel_rfl) (by kernel_rfl) (by kernel_rfl) (fun _ _ _ h => h) (by rfl) (fun u hu => ?_) hS ?_
      rotate_left
      · ((obtain ⟨b0, b1, b2⟩ := obj_cells3 (HX4.out.below hu); obtain ⟨q0, q1, _, _⟩ := obj_cells (obj_below HS4.out hu)); go_simp; try (with_reducible rfl))
      try simp only [Act.put, List.setIfInBounds_toArray, List.set_cons_zero, List.set_cons_succ]
      refine give_val (i := 14) (v := ?_) rfl (by kernel_rfl) (by kernel_rfl) (by kernel_rfl) (fun _ _ _ h => h) (by rfl) (fun u hu => ?_) hS ?_
      rotate_left
      · ((obtain ⟨b0, b1, b2⟩ := obj_cells3 (HX4.out.below hu); obtain ⟨q0, q1, _, _⟩ := obj_cells (obj_below HS4.out hu)); go_simp; try (with_reducible rfl))
      try simp only [Act.put, List.setIfInBounds_toArray, List.set_cons_zero, List.set_cons_succ]
      refine give_val (i := 15) (v := ?_) rfl (by kernel_rfl) (by kernel_rfl) (by kernel_rfl) (fun _ _ _ h => h) (by rfl) (fun u hu => ?_) hS ?_
      rotate_left
      · ((obtain ⟨b0, b1, b2⟩ := obj_cells3 (HX4.out.below hu); obtain ⟨q0, q1, _, _⟩ := obj_cells (obj_below HS4.out hu)); go_simp; try (with_reducible rfl))
      try simp only [Act.put, List.setIfInBounds_toArray, List.set_cons_zero, List.set_cons_succ]
      refine only_some (i := 16) 10 #[.agg #[.int .i64 st, .int .i64 v, .slice A len cap]] rfl (by kernel_rfl) (by rfl) ((HCP.out _ (HI.out.below (hbt HB4.out hS)))) ?_ ?_
      · (go_simp; try (with_reducible rfl))
      intro v16 w16 hT
      obtain ⟨A16, c16, rfl, ht16, hb'⟩ := hT
      have hS' := hbt hS hb'
      refine ⟨hS', ?_⟩
      clear hS
      have hS := hS'; clear hS'
      try simp only [Act.put, List.setIfInBounds_toArray, List.set_cons_zero, List.set_cons_succ]
      refine only_call (i := 17) 23 #[.agg #[.int .i64 st, .int .i64 v, .slice A len cap], .agg #[.int .i64 st, .int .i64 v, .slice A16 len c16]] rfl (by kernel_rfl) (by rfl) ((HSS.out _ _ _ (HI.out.below (hbt HB4.out hS)) ht16).mono fun e w' he => ⟨he.1, hbt hS he.2⟩) ?_ ?_
      · (go_simp; try (with_reducible rfl))
      clear hS
      intro w17 hS
      try simp only [Act.put, List.setIfInBounds_toArray, List.set_cons_zero, List.set_cons_succ]
      refine give_val (i := 18) (v := ?_) rfl (by kernel_rfl) (by kernel_rfl) (by kernel_rfl) (fun _ _ _ h => h) (by rfl) (fun u hu => ?_) hS ?_
      rotate_left
      · ((obtain ⟨b0, b1, b2⟩ := obj_cells3 (HX4.out.below hu); obtain ⟨q0, q1, _, _⟩ := obj_cells (obj_below HS4.out hu)); go_simp; try (with_reducible rfl))
      try simp only [Act.put, List.setIfInBounds_toArray, List.set_cons_zero, List.set_cons_succ]
      refine give_val (i := 19) (v := ?_) rfl (by kernel_rfl) (by kernel_rfl) (by kernel_rfl) (fun _ _ _ h => h) (by rfl) (fun u hu => ?_) hS ?_
      rotate_left
      · ((obtain ⟨b0, b1, b2⟩ := obj_cells3 (HX4.out.below hu); obtain ⟨q0, q1, _, _⟩ := obj_cells (obj_below HS4.out hu)); go_simp; try (with_reducible rfl))
      try simp only [Act.put, List.setIfInBounds_toArray, List.set_cons_zero, List.set_cons_succ]
      refine wpAnyH_done (by kernel_rfl) (NoPanic.normal ?_) _
      go_wp2
      go_ret
      exact ⟨rfl, hbt HB4.out hS⟩
theorem sorder_walk (st v : Int) (A : Option Addr) (cap : Nat) (l : List Sp) (w : World) (hI : Spl w A l) (_hm : l.length ≤ maxLen) :
    Calls Try.prog 6 #[.agg #[.int .i64 st, .int .i64 v, .slice A l.length cap]] w fun e w' => e = .returned (.bool true) ∧ Below w.heap.size w w' := by
  by_cases h : 300 < l.length
  · exact sorder_long st v A _ cap w h
  · by_cases hr : (schN st v l).1 = 0
    · exact sorder_right st v A cap l w hI h hr
    · exact sorder_wrong st v A cap l w hI h hr

end Go.Proofs.Ytiifkcemieblkaa
