/-
  The law BitmapStyles, walked: for every two numbers of 64 bits it returns true, in every world.
-/
import Derived.Test.YtdnckiaeeikbhaaBmpAwake
import Derived.Test.YtdnckiaeeikbhaaBmpTurn
import Derived.Test.YtdnckiaeeikbhaaHexRefPut
namespace Go.Proofs.Ytdnckiaeeikbhaa
open Go.RowKit

set_option maxHeartbeats 1600000 in
theorem styles_no (h l : Nat) (w : World) (b1 : h < M64) (b2 : l < M64) (h1 : hasN h l 1 = true) :
    Calls Try.prog 7 #[.int .u64 (h : Int), .int .u64 (l : Int)] w fun e w' => e = .returned (.bool true) ∧ Below w.heap.size w w' := by
  have HA := Lib.hid bwake_any
  have HB := Lib.hid (bits_any h l)
  have HP : Hid (∀ W, Calls Try.prog 8 #[.int .i64 1, setV h l] W fun e w' => e = .returned (.tuple #[.string ⟨#[]⟩, .int .i64 1]) ∧ Below W.heap.size W w') := fun W => put_one 1 h l W (.inl rfl) b1 b2 h1
  have HQ : Hid (∀ W, Calls Try.prog 8 #[.int .i64 2, setV h l] W fun e w' => e = .returned (.tuple #[.string ⟨#[]⟩, .int .i64 1]) ∧ Below W.heap.size W w') := fun W => put_one 2 h l W (.inr rfl) b1 b2 h1
  have HH := Lib.hid (fun W => by have := has_any h l 1 W b1 b2; rw [h1] at this; exact this)
  unfold setV at *
  clear b1 b2 h1
  go_enter Try.func7, Try.ntmps7
  go_wp2_with fail
  refine (HB.out _).mono ?_
  rintro e w1 ⟨rfl, hb1⟩
  have HB1 := Lib.hid (hbt hb1 (below_al w1 (setO h l)))
  have HO1 := Lib.hid (heap_alloc_new w1 (setO h l))
  clear hb1
  go_wp2_with fail
  refine (HP.out _).mono ?_
  rintro e w2 ⟨rfl, hb2⟩
  have HB2 := Lib.hid (hbt HB1.out hb2)
  have ho := obj_below HO1.out hb2
  have HO2 := Lib.hid ho
  obtain ⟨c0, c1, _, _⟩ := obj_cells ho
  clear hb2 ho
  generalize w1.heap.size = g5 at *
  go_wp2_with fail
  refine (HQ.out _).mono ?_
  rintro e w3 ⟨rfl, hb3⟩
  have HB3 := Lib.hid (hbt HB2.out hb3)
  have HO3 := Lib.hid (obj_below HO2.out hb3)
  clear hb3 c0 c1
  go_wp2_with fail
  refine (HA.out _).mono ?_
  rintro e w4 ⟨rfl, hb4⟩
  have HB4 := Lib.hid (hbt HB3.out hb4)
  have ho := obj_below HO3.out hb4
  obtain ⟨c0, c1, _, _⟩ := obj_cells ho
  clear hb4 ho
  go_wp2_with fail
  refine (HH.out _).mono ?_
  rintro e w5 ⟨rfl, hb5⟩
  have HB5 := Lib.hid (hbt HB4.out hb5)
  clear hb5 c0 c1
  go_wp2
  go_ret
  exact ⟨rfl, HB5.out⟩

set_option maxHeartbeats 1600000 in
theorem styles_yes (h l : Nat) (t u : ByteArray) (w : World) (hx : ∀ W, Calls Try.prog 17 #[.string u] W fun e w' => e = .returned (.string t) ∧ Below W.heap.size W w')
    (hp : ∀ W, Calls Try.prog 8 #[.int .i64 1, setV h l] W fun e w' => e = .returned (.tuple #[.string t, .int .i64 0]) ∧ Below W.heap.size W w')
    (hq : ∀ W, Calls Try.prog 8 #[.int .i64 2, setV h l] W fun e w' => e = .returned (.tuple #[.string u, .int .i64 0]) ∧ Below W.heap.size W w')
    (hu : l = 0 ∧ u.size = 8 ∨ l ≠ 0 ∧ u.size = 16) :
    Calls Try.prog 7 #[.int .u64 (h : Int), .int .u64 (l : Int)] w fun e w' => e = .returned (.bool true) ∧ Below w.heap.size w w' := by
  have HA := Lib.hid bwake_any
  have HB := Lib.hid (bits_any h l)
  have HP := Lib.hid hp
  have HQ := Lib.hid hq
  have HX := Lib.hid hx
  unfold setV at *
  clear hp hq hx
  rcases hu with ⟨rfl, hz⟩ | ⟨hl, hz⟩
  · go_enter Try.func7, Try.ntmps7
    go_wp2_with fail
    refine (HB.out _).mono ?_
    rintro e w1 ⟨rfl, hb1⟩
    have HB1 := Lib.hid (hbt hb1 (below_al w1 (setO h 0)))
    have HO1 := Lib.hid (heap_alloc_new w1 (setO h 0))
    clear hb1
    go_wp2_with fail
    refine (HP.out _).mono ?_
    rintro e w2 ⟨rfl, hb2⟩
    have HB2 := Lib.hid (hbt HB1.out hb2)
    have ho := obj_below HO1.out hb2
    obtain ⟨c0, c1, _, _⟩ := obj_cells ho
    clear hb2 ho
    generalize w1.heap.size = g5 at *
    go_wp2_with fail
    refine (HQ.out _).mono ?_
    rintro e w3 ⟨rfl, hb3⟩
    have HB3 := Lib.hid (hbt HB2.out hb3)
    clear hb3 c0 c1
    go_wp2_with fail
    refine (HA.out _).mono ?_
    rintro e w4 ⟨rfl, hb4⟩
    have HB4 := Lib.hid (hbt HB3.out hb4)
    clear hb4
    go_wp2_with fail
    refine (HX.out _).mono ?_
    rintro e w5 ⟨rfl, hb5⟩
    have HB5 := Lib.hid (hbt HB4.out hb5)
    clear hb5
    go_wp2
    go_ret
    exact ⟨rfl, HB5.out⟩
  · have hl' : ((l : Int) != 0) = true := by simp [hl]
    go_enter Try.func7, Try.ntmps7
    go_wp2_with fail
    refine (HB.out _).mono ?_
    rintro e w1 ⟨rfl, hb1⟩
    have HB1 := Lib.hid (hbt hb1 (below_al w1 (setO h l)))
    have HO1 := Lib.hid (heap_alloc_new w1 (setO h l))
    clear hb1
    go_wp2_with fail
    refine (HP.out _).mono ?_
    rintro e w2 ⟨rfl, hb2⟩
    have HB2 := Lib.hid (hbt HB1.out hb2)
    have ho := obj_below HO1.out hb2
    obtain ⟨c0, c1, _, _⟩ := obj_cells ho
    clear hb2 ho
    generalize w1.heap.size = g5 at *
    go_wp2_with fail
    refine (HQ.out _).mono ?_
    rintro e w3 ⟨rfl, hb3⟩
    have HB3 := Lib.hid (hbt HB2.out hb3)
    clear hb3 c0 c1
    go_wp2_with fail
    refine (HA.out _).mono ?_
    rintro e w4 ⟨rfl, hb4⟩
    have HB4 := Lib.hid (hbt HB3.out hb4)
    clear hb4
    go_wp2_with fail
    refine (HX.out _).mono ?_
    rintro e w5 ⟨rfl, hb5⟩
    have HB5 := Lib.hid (hbt HB4.out hb5)
    clear hb5
    go_wp2
    go_ret
    exact ⟨rfl, HB5.out⟩

theorem put_styles (h l : Nat) : putL 1 h l = hputL (putL 2 h l) := by
  unfold putL
  split
  · rfl
  · rw [hputL_append]
    rfl
theorem bitmapStyles_walk (a b : Int) (w : World) (h3 : 0 ≤ a) (h4 : a ≤ 18446744073709551615) (h5 : 0 ≤ b) (h6 : b ≤ 18446744073709551615) :
    Calls Try.prog 7 #[.int .u64 a, .int .u64 b] w fun e w' => e = .returned (.bool true) ∧ Below w.heap.size w w' := by
  obtain ⟨h, rfl⟩ := Int.eq_ofNat_of_zero_le h3
  obtain ⟨l, rfl⟩ := Int.eq_ofNat_of_zero_le h5
  have b1 : h < M64 := by unfold M64; omega
  have b2 : l < M64 := by unfold M64; omega
  cases h1 : hasN h l 1
  · have hsz : (⟨(putL 2 h l).toArray⟩ : ByteArray).size = (putL 2 h l).length := by show (putL 2 h l).toArray.size = _; simp
    have hpl := putL_len 2 h l
    rw [show wid 2 = 8 from rfl] at hpl
    refine styles_yes h l ⟨(putL 1 h l).toArray⟩ ⟨(putL 2 h l).toArray⟩ w (fun W => ?_) (fun W => put_ok 1 h l W (.inl rfl) b1 b2 h1) (fun W => put_ok 2 h l W (.inr rfl) b1 b2 h1) ?_
    · have := hrefPut_any ⟨(putL 2 h l).toArray⟩ W (by rw [hsz, hpl]; split <;> omega)
      rw [put_styles]
      exact this
    · rw [hsz, hpl]
      by_cases hl : l = 0
      · left; exact ⟨hl, by rw [if_pos hl]⟩
      · right; exact ⟨hl, by rw [if_neg hl]⟩
  · exact styles_no h l w b1 b2 h1

end Go.Proofs.Ytdnckiaeeikbhaa
