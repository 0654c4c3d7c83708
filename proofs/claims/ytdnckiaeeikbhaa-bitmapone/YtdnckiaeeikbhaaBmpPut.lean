/-
  What bitmap.Put answers: for every style and set, in every world.
-/
import Derived.Test.YtdnckiaeeikbhaaBmpEq
import Derived.Test.YtdnckiaeeikbhaaRegHeld
namespace Go.Proofs.Ytdnckiaeeikbhaa
open Go.RowKit

theorem halfV_by (x : Nat) : halfV (halfL x) = .agg #[.int .u8 (byN x 7 : Int), .int .u8 (byN x 6 : Int), .int .u8 (byN x 5 : Int), .int .u8 (byN x 4 : Int), .int .u8 (byN x 3 : Int), .int .u8 (byN x 2 : Int), .int .u8 (byN x 1 : Int), .int .u8 (byN x 0 : Int)] := by
  unfold halfV
  rw [← halfK_end]
  rfl
theorem byN_zero {x : Nat} (h : x < M64) : (byN x 7 = 0 ∧ byN x 6 = 0 ∧ byN x 5 = 0 ∧ byN x 4 = 0 ∧ byN x 3 = 0 ∧ byN x 2 = 0 ∧ byN x 1 = 0 ∧ byN x 0 = 0) ↔ x = 0 := by
  constructor
  · rintro ⟨h7, h6, h5, h4, h3, h2, h1, h0⟩
    apply halfL_inj h (by decide)
    rw [halfL_eq, h7, h6, h5, h4, h3, h2, h1, h0]
    rfl
  · rintro rfl
    decide

theorem put_style (st : Int) (h l : Nat) (w : World) (hst : st ≠ 1 ∧ st ≠ 2) :
    Calls Try.prog 8 #[.int .i64 st, setV h l] w fun e w' => e = .returned (.tuple #[.string ⟨#[]⟩, .int .i64 1]) ∧ Below w.heap.size w w' := by
  have HK := Lib.hid (known_no st hst)
  unfold setV
  clear hst
  go_enter Try.func8, Try.ntmps8
  go_wp2_with fail
  refine (HK.out _).mono ?_
  rintro e w1 ⟨rfl, rfl⟩
  go_wp2
  go_ret2
  exact ⟨rfl, below_al _ _⟩
theorem put_one (st h l : Nat) (w : World) (hst : st = 1 ∨ st = 2) (b1 : h < M64) (b2 : l < M64) (h1 : hasN h l 1 = true) :
    Calls Try.prog 8 #[.int .i64 (st : Int), setV h l] w fun e w' => e = .returned (.tuple #[.string ⟨#[]⟩, .int .i64 1]) ∧ Below w.heap.size w w' := by
  have HK := Lib.hid (known_yes st hst)
  have HA := Lib.hid (fun W => by have := has_any h l 1 W b1 b2; rw [h1] at this; exact this)
  unfold setV at *
  clear hst b1 b2 h1
  go_enter Try.func8, Try.ntmps8
  go_wp2_with fail
  refine (HK.out _).mono ?_
  rintro e w1 ⟨rfl, rfl⟩
  go_wp2_with fail
  refine (HA.out _).mono ?_
  rintro e w1 ⟨rfl, hb⟩
  go_wp2
  go_ret2
  exact ⟨rfl, hbt (below_al _ _) hb⟩

set_option maxHeartbeats 800000 in
theorem put_short (st h : Nat) (w : World) (hst : st = 1 ∨ st = 2) (b1 : h < M64) (h1 : hasN h 0 1 = false) :
    Calls Try.prog 8 #[.int .i64 (st : Int), setV h 0] w fun e w' => e = .returned (.tuple #[.string ⟨(spL st (halfL h)).toArray⟩, .int .i64 0]) ∧ Below w.heap.size w w' := by
  have HK := Lib.hid (known_yes st hst)
  have HA := Lib.hid (fun W => by have := has_any h 0 1 W b1 (by decide); rw [h1] at this; exact this)
  have HH := Lib.hid (halves_any h 0)
  have H0 := Lib.hid (halfOf_any 0)
  have HO := Lib.hid (halfOf_any h)
  have HS := Lib.hid (fun W => spell_any st (halfL h) W (halfL_len h))
  rw [show halfV (halfL 0) = .agg #[.int .u8 0, .int .u8 0, .int .u8 0, .int .u8 0, .int .u8 0, .int .u8 0, .int .u8 0, .int .u8 0] from rfl] at H0
  have heq := half_eq_yes
  generalize halfV (halfL h) = V at *
  generalize (⟨(spL st (halfL h)).toArray⟩ : ByteArray) = t at *
  unfold setV at *
  clear hst b1 h1
  go_enter Try.func8, Try.ntmps8
  go_wp2_with fail
  refine (HK.out _).mono ?_
  rintro e w1 ⟨rfl, rfl⟩
  go_wp2_with fail
  refine (HA.out _).mono ?_
  rintro e w1 ⟨rfl, hb1⟩
  have ho := obj_below (heap_alloc_new w (setO h 0)) hb1
  have hbA := hbt (below_al _ _) hb1
  obtain ⟨c0, c1, _, _⟩ := obj_cells ho
  have HB := Lib.hid hbA; have HOb := Lib.hid ho
  clear hbA ho hb1
  go_wp2_with fail
  refine (HH.out _).mono ?_
  rintro e w2 ⟨rfl, hb2⟩
  have HB2 := Lib.hid (hbt HB.out hb2)
  clear hb2 c0 c1
  go_wp2_with fail
  refine (H0.out _).mono ?_
  rintro e w3 ⟨rfl, hb3⟩
  have HB3 := Lib.hid (hbt HB2.out hb3)
  clear hb3
  go_wp2_with fail
  refine (HO.out _).mono ?_
  rintro e w4 ⟨rfl, hb4⟩
  have HB4 := Lib.hid (hbt (hbt HB3.out (below_al _ _)) hb4)
  clear hb4
  go_wp2_with fail
  refine (HS.out _).mono ?_
  rintro e w5 ⟨rfl, hb5⟩
  have HB5 := Lib.hid (hbt HB4.out hb5)
  clear hb5
  go_wp2
  go_ret2
  exact ⟨rfl, HB5.out⟩

set_option maxHeartbeats 1600000 in
theorem put_long (st h l : Nat) (w : World) (hst : st = 1 ∨ st = 2) (b1 : h < M64) (b2 : l < M64) (h1 : hasN h l 1 = false) (hl : l ≠ 0) :
    Calls Try.prog 8 #[.int .i64 (st : Int), setV h l] w fun e w' => e = .returned (.tuple #[.string (⟨(spL st (halfL (h ||| aH 1))).toArray⟩ ++ ⟨(spL st (halfL l)).toArray⟩), .int .i64 0]) ∧ Below w.heap.size w w' := by
  have HK := Lib.hid (known_yes st hst)
  have HA := Lib.hid (fun W => by have := has_any h l 1 W b1 b2; rw [h1] at this; exact this)
  have HH := Lib.hid (halves_any h l)
  have H0 := Lib.hid (halfOf_any l)
  have HI := Lib.hid (fun W => with_any h l 1 W b1 b2)
  have HG := Lib.hid (halves_any (h ||| aH 1) (l ||| aL 1))
  have HO := Lib.hid (halfOf_any (h ||| aH 1))
  have HS := Lib.hid (fun W => spell_any st (halfL (h ||| aH 1)) W (halfL_len _))
  have HT := Lib.hid (fun W => spell_any st (halfL l) W (halfL_len _))
  have hts : ¬ 9223372036854775807 < (⟨(spL st (halfL (h ||| aH 1))).toArray⟩ : ByteArray).size + (⟨(spL st (halfL l)).toArray⟩ : ByteArray).size := by
    have e1 := spL_len st (halfL_len (h ||| aH 1))
    have e2 := spL_len st (halfL_len l)
    have e3 : wid st ≤ 16 := by unfold wid; split <;> omega
    show ¬ 9223372036854775807 < (spL st (halfL (h ||| aH 1))).toArray.size + (spL st (halfL l)).toArray.size
    simp only [List.size_toArray]
    omega
  have hz := mt (byN_zero b2).1 hl
  have heq := half_eq_no _ _ _ _ _ _ _ _ hz
  clear hz
  rw [halfV_by l] at H0 HT
  generalize (⟨(spL st (halfL l)).toArray⟩ : ByteArray) = t' at *
  generalize byN l 7 = y7 at *
  generalize byN l 6 = y6 at *
  generalize byN l 5 = y5 at *
  generalize byN l 4 = y4 at *
  generalize byN l 3 = y3 at *
  generalize byN l 2 = y2 at *
  generalize byN l 1 = y1 at *
  generalize byN l 0 = y0 at *
  generalize halfV (halfL (h ||| aH 1)) = V at *
  generalize (⟨(spL st (halfL (h ||| aH 1))).toArray⟩ : ByteArray) = t at *
  unfold setV at *
  clear hst b1 b2 h1 hl
  generalize h ||| aH 1 = h' at *
  generalize l ||| aL 1 = l' at *
  go_enter Try.func8, Try.ntmps8
  go_wp2_with fail
  refine (HK.out _).mono ?_
  rintro e w1 ⟨rfl, rfl⟩
  go_wp2_with fail
  refine (HA.out _).mono ?_
  rintro e w1 ⟨rfl, hb1⟩
  have ho := obj_below (heap_alloc_new w (setO h l)) hb1
  have hbA := hbt (below_al _ _) hb1
  obtain ⟨c0, c1, _, _⟩ := obj_cells ho
  have HB := Lib.hid hbA; have HOb := Lib.hid ho
  clear hbA ho hb1
  go_wp2_with fail
  refine (HH.out _).mono ?_
  rintro e w2 ⟨rfl, hb2⟩
  have HB2 := Lib.hid (hbt HB.out hb2)
  have HOc := Lib.hid (obj_below HOb.out hb2)
  clear hb2 c0 c1
  go_wp2_with fail
  refine (H0.out _).mono ?_
  rintro e w3 ⟨rfl, hb3⟩
  have HB3 := Lib.hid (hbt HB2.out hb3)
  have ho := obj_below HOc.out hb3
  have HOd := Lib.hid ho
  obtain ⟨c0, c1, _, _⟩ := obj_cells ho
  have k1 := obj_lt ho
  clear hb3 ho
  go_wp2_with fail
  refine (HI.out _).mono ?_
  rintro e w4 ⟨rfl, hb4⟩
  have HB4 := Lib.hid (hbt (hbt HB3.out (below_al _ _)) hb4)
  have HOe := Lib.hid (obj_below (heap_alloc_new w3 (.cells #[.int .u8 (y7 : Int), .int .u8 (y6 : Int), .int .u8 (y5 : Int), .int .u8 (y4 : Int), .int .u8 (y3 : Int), .int .u8 (y2 : Int), .int .u8 (y1 : Int), .int .u8 (y0 : Int)] 50)) hb4)
  clear hb4 c0 c1 k1
  generalize w3.heap.size = g at *
  go_wp2_with fail
  refine (HG.out _).mono ?_
  rintro e w5 ⟨rfl, hb5⟩
  have HB5 := Lib.hid (hbt HB4.out hb5)
  have HOf := Lib.hid (obj_below HOe.out hb5)
  clear hb5
  go_wp2_with fail
  refine wp_region_noPanic ?_
  refine wp_region_held_drew (S := (fun u => Below w.heap.size w u ∧ u.heap[g]? = some (.cells #[.int .u8 (y7 : Int), .int .u8 (y6 : Int), .int .u8 (y5 : Int), .int .u8 (y4 : Int), .int .u8 (y3 : Int), .int .u8 (y2 : Int), .int .u8 (y1 : Int), .int .u8 (y0 : Int)] 50))) (by kernel_rfl) (⟨HB5.out.drew, HOf.out⟩) (fun hS => ?_)
  refine give_val (i := 0) (v := ?_) rfl (by kernel_rfl) (by kernel_rfl) (by kernel_rfl) (fun _ _ _ h => h) (by rfl) (fun u hu => ?_) hS ?_
  rotate_left
  · ((obtain ⟨_, hu2⟩ := hu; obtain ⟨⟨c0, c1, c2, c3, c4, c5, c6, c7⟩, _⟩ := obj_cells8 hu2; clear hu2); go_simp; try (with_reducible rfl))
  try simp only [Act.put, List.setIfInBounds_toArray, List.set_cons_zero, List.set_cons_succ]
  refine give_val (i := 2) (v := ?_) rfl (by kernel_rfl) (by kernel_rfl) (by kernel_rfl) (fun _ _ _ h => h) (by rfl) (fun u hu => ?_) hS ?_
  rotate_left
  · ((obtain ⟨_, hu2⟩ := hu; obtain ⟨⟨c0, c1, c2, c3, c4, c5, c6, c7⟩, _⟩ := obj_cells8 hu2; clear hu2); go_simp; try (with_reducible rfl))
  try simp only [Act.put, List.setIfInBounds_toArray, List.set_cons_zero, List.set_cons_succ]
  refine give_val (i := 4) (v := ?_) rfl (by kernel_rfl) (by kernel_rfl) (by kernel_rfl) (fun _ _ _ h => h) (by rfl) (fun u hu => ?_) hS ?_
  rotate_left
  · ((obtain ⟨_, hu2⟩ := hu; obtain ⟨⟨c0, c1, c2, c3, c4, c5, c6, c7⟩, _⟩ := obj_cells8 hu2; clear hu2); go_simp; try (with_reducible rfl))
  try simp only [Act.put, List.setIfInBounds_toArray, List.set_cons_zero, List.set_cons_succ]
  refine give_val (i := 5) (v := ?_) rfl (by kernel_rfl) (by kernel_rfl) (by kernel_rfl) (fun _ _ _ h => h) (by rfl) (fun u hu => ?_) hS ?_
  rotate_left
  · ((obtain ⟨_, hu2⟩ := hu; obtain ⟨⟨c0, c1, c2, c3, c4, c5, c6, c7⟩, _⟩ := obj_cells8 hu2; clear hu2); go_simp; try (with_reducible rfl))
  try simp only [Act.put, List.setIfInBounds_toArray, List.set_cons_zero, List.set_cons_succ]
  refine only_call (i := 1) 20 #[.int .u64 (h' : Int)] rfl (by kernel_rfl) (by rfl) ((HO.out _).mono fun e w' he => ⟨he.1, hbt hS.1 he.2, obj_below hS.2 he.2⟩) ?_ ?_
  · (go_simp; try (with_reducible rfl))
  clear hS
  intro w1 hS
  try simp only [Act.put, List.setIfInBounds_toArray, List.set_cons_zero, List.set_cons_succ]
  refine only_call (i := 3) 21 #[V, .int .i64 (st : Int)] rfl (by kernel_rfl) (by rfl) ((HS.out _).mono fun e w' he => ⟨he.1, hbt hS.1 he.2, obj_below hS.2 he.2⟩) ?_ ?_
  · (go_simp; try (with_reducible rfl))
  clear hS
  intro w3 hS
  try simp only [Act.put, List.setIfInBounds_toArray, List.set_cons_zero, List.set_cons_succ]
  refine only_call (i := 6) 21 #[.agg #[.int .u8 (y7 : Int), .int .u8 (y6 : Int), .int .u8 (y5 : Int), .int .u8 (y4 : Int), .int .u8 (y3 : Int), .int .u8 (y2 : Int), .int .u8 (y1 : Int), .int .u8 (y0 : Int)], .int .i64 (st : Int)] rfl (by kernel_rfl) (by rfl) ((HT.out _).mono fun e w' he => ⟨he.1, hbt hS.1 he.2, obj_below hS.2 he.2⟩) ?_ ?_
  · (go_simp; try (with_reducible rfl))
  clear hS
  intro w6 hS
  try simp only [Act.put, List.setIfInBounds_toArray, List.set_cons_zero, List.set_cons_succ]
  refine give_val (i := 7) (v := ?_) rfl (by kernel_rfl) (by kernel_rfl) (by kernel_rfl) (fun _ _ _ h => h) (by rfl) (fun u hu => ?_) hS ?_
  rotate_left
  · ((obtain ⟨_, hu2⟩ := hu; obtain ⟨⟨c0, c1, c2, c3, c4, c5, c6, c7⟩, _⟩ := obj_cells8 hu2; clear hu2); go_simp; try (with_reducible rfl))
  try simp only [Act.put, List.setIfInBounds_toArray, List.set_cons_zero, List.set_cons_succ]
  refine give_val (i := 8) (v := ?_) rfl (by kernel_rfl) (by kernel_rfl) (by kernel_rfl) (fun _ _ _ h => h) (by rfl) (fun u hu => ?_) hS ?_
  rotate_left
  · ((obtain ⟨_, hu2⟩ := hu; obtain ⟨⟨c0, c1, c2, c3, c4, c5, c6, c7⟩, _⟩ := obj_cells8 hu2; clear hu2); go_simp; try (with_reducible rfl))
  try simp only [Act.put, List.setIfInBounds_toArray, List.set_cons_zero, List.set_cons_succ]
  refine give_val (i := 9) (v := ?_) rfl (by kernel_rfl) (by kernel_rfl) (by kernel_rfl) (fun _ _ _ h => h) (by rfl) (fun u hu => ?_) hS ?_
  rotate_left
  · ((obtain ⟨_, hu2⟩ := hu; obtain ⟨⟨c0, c1, c2, c3, c4, c5, c6, c7⟩, _⟩ := obj_cells8 hu2; clear hu2); go_simp; try (with_reducible rfl))
  try simp only [Act.put, List.setIfInBounds_toArray, List.set_cons_zero, List.set_cons_succ]
  refine wpAnyH_done (by kernel_rfl) (NoPanic.normal ?_) _
  go_wp2
  go_ret2
  exact ⟨rfl, hS.1⟩

/-- All in one: the bitmap. -/
theorem put_ok (st h l : Nat) (w : World) (hst : st = 1 ∨ st = 2) (b1 : h < M64) (b2 : l < M64) (h1 : hasN h l 1 = false) :
    Calls Try.prog 8 #[.int .i64 (st : Int), setV h l] w fun e w' => e = .returned (.tuple #[.string ⟨(putL st h l).toArray⟩, .int .i64 0]) ∧ Below w.heap.size w w' := by
  unfold putL
  by_cases hl : l = 0
  · subst hl
    rw [if_pos rfl]
    exact put_short st h w hst b1 h1
  · rw [if_neg hl]
    have := put_long st h l w hst b1 b2 h1 hl
    rwa [show (⟨(spL st (halfL (h ||| aH 1))).toArray⟩ ++ ⟨(spL st (halfL l)).toArray⟩ : ByteArray) = ⟨(spL st (halfL (h ||| aH 1)) ++ spL st (halfL l)).toArray⟩ by
      rw [ByteArray.ext_iff, ByteArray.data_append]; simp] at this

end Go.Proofs.Ytdnckiaeeikbhaa
