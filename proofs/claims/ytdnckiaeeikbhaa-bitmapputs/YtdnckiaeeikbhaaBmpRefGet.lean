/-
  What the document's Get answers, by what part does: for every style, text and place, in every world.
-/
import Derived.Test.YtdnckiaeeikbhaaBmpPart
import Derived.Deep.AppendLies
import Derived.ChangeKeysEq
import Derived.Laws.OwnMore
namespace Go.Proofs.Ytdnckiaeeikbhaa
open Go.RowKit

theorem refGet_style (st : Int) (s : ByteArray) (at_ : Int) (w : World) (h1 : st ≠ 1) (h2 : st ≠ 2) :
    Calls Try.prog 14 #[.int .i64 st, .string s, .int .i64 at_] w fun e w' => e = .returned (.tuple #[.slice none 0 0, .int .i64 0, .int .i64 1]) ∧ Below w.heap.size w w' := by
  have k1 : (st != 1) = true := by simp [h1]
  have k2 : (st != 2) = true := by simp [h2]
  clear h1 h2
  go_enter Try.func14, Try.ntmps14
  go_wp2
  go_ret3
  exact ⟨rfl, Below.refl _ _⟩
theorem refGet_place (st : Nat) (s : ByteArray) (at_ : Int) (w : World) (hst : st = 1 ∨ st = 2) (ha : at_ < 0 ∨ (s.size : Int) < at_) :
    Calls Try.prog 14 #[.int .i64 (st : Int), .string s, .int .i64 at_] w fun e w' => e = .returned (.tuple #[.slice none 0 0, .int .i64 0, .int .i64 1]) ∧ Below w.heap.size w w' := by
  by_cases h0 : at_ < 0
  · clear ha
    have k1 : decide (at_ < 0) = true := by simp [h0]
    clear h0
    rcases hst with rfl | rfl
    all_goals
      go_enter Try.func14, Try.ntmps14
      go_wp2
      go_ret3
      exact ⟨rfl, Below.refl _ _⟩
  · have h1 : (s.size : Int) < at_ := by omega
    have k1 : decide (at_ < 0) = false := by simp; omega
    clear ha h0
    rcases hst with rfl | rfl
    all_goals
      go_enter Try.func14, Try.ntmps14
      go_wp2
      go_ret3
      exact ⟨rfl, Below.refl _ _⟩

/-- What part answers, as the walks of Get take it. -/
def PartE (st : Int) (s : ByteArray) (p f : Int) (n : Nat) : Prop :=
  ∀ W, Calls Try.prog 30 #[.int .i64 st, .string s, .int .i64 p, .int .i64 f] W fun r w' => r = .returned (.tuple #[.slice none 0 0, .int .i64 (n : Int)]) ∧ Below W.heap.size W w'
def PartL (st : Int) (s : ByteArray) (p f : Int) (L : List Nat) : Prop :=
  ∀ W, Calls Try.prog 30 #[.int .i64 st, .string s, .int .i64 p, .int .i64 f] W fun r w' => ∃ g cap : Nat, r = .returned (.tuple #[.slice (some ⟨g, 0, none⟩) L.length cap, .int .i64 0]) ∧ Ints w' (some ⟨g, 0, none⟩) (zi L) ∧ L.length ≤ cap ∧ Below W.heap.size W w'

theorem ints_first {w : World} {g z : Nat} {L : List Nat} (h : Ints w (some ⟨g, 0, none⟩) (zi (z :: L))) : w.cell? ⟨g, 0, none⟩ = some (.int .i64 (z : Int)) := by
  obtain ⟨a, ha, hc⟩ := h 0 (by simp [zi])
  injection ha with ha
  subst ha
  exact hc
theorem ints_tail {w : World} {g z : Nat} {L : List Nat} (h : Ints w (some ⟨g, 0, none⟩) (zi (z :: L))) : Ints w (some ⟨g, 1, none⟩) (zi L) := by
  intro i hi
  obtain ⟨a, ha, hc⟩ := h (i + 1) (by simp [zi] at *; omega)
  injection ha with ha
  subst ha
  refine ⟨_, rfl, ?_⟩
  rw [Addr.add_lit] at hc ⊢
  rw [show 1 + i = 0 + (i + 1) by omega, hc]
  simp [zi]
theorem cut_one (g n cap : Nat) (h : n + 1 ≤ cap) : ∃ X Y, (∀ W : World, (Instr.slice 31 (.slice (some ⟨g, 0, none⟩) (n + 1) cap) (some (.int .i64 1)) none none).run Try.prog W = .ok (.slice X n Y) W) ∧ (0 < n → X = some ⟨g, 1, none⟩) := by
  obtain ⟨i0, hi, _⟩ := info_parts Try.infoX64
  refine ⟨if cap = 1 then some ⟨g, 0, none⟩ else some ⟨g, 1, none⟩, cap - 1, fun W => ?_, fun hn => if_neg (by omega)⟩
  rw [run_slice_l W 31 (some ⟨g, 0, none⟩) (n + 1) cap (by kernel_rfl) .i64 1 (by omega) (by omega), show Try.prog.elem 31 = 3 by kernel_rfl, run_sizeOf W hi, show Try.prog.cellsOf 3 = 1 by kernel_rfl]
  simp [sliced, Result.andThen, Addr.add_lit]

set_option maxHeartbeats 1600000 in
theorem refGet_err1_1 (s : ByteArray) (at_ n : Nat) (w : World) (ha : at_ ≤ s.size) (hr : PartE 1 s at_ 1 n) (hn : n ≠ 0) :
    Calls Try.prog 14 #[.int .i64 1, .string s, .int .i64 (at_ : Int)] w fun e w' => e = .returned (.tuple #[.slice none 0 0, .int .i64 0, .int .i64 (n : Int)]) ∧ Below w.heap.size w w' := by
  have HR := Lib.hid hr
  unfold PartE at HR
  have h2 : decide ((at_ : Int) < 0) = false := by simp
  have h3 : decide (s.size < at_) = false := by simp; omega
  have h4 : ((n : Int) != 0) = true := by simp [hn]
  clear hr hn ha
  go_enter Try.func14, Try.ntmps14
  go_wp2_with fail
  refine (HR.out _).mono ?_
  rintro e w1 ⟨rfl, hb1⟩
  go_wp2
  go_ret3
  exact ⟨rfl, hb1⟩

set_option maxHeartbeats 1600000 in
theorem refGet_short_1 (s : ByteArray) (at_ : Nat) (L : List Nat) (w : World) (hs : s.size ≤ 1000000) (ha : at_ ≤ s.size) (hr : PartL 1 s at_ 1 L) (hL : ∀ z ∈ L, 2 ≤ z) (hlen : L.length ≤ 64) :
    Calls Try.prog 14 #[.int .i64 1, .string s, .int .i64 (at_ : Int)] w fun e w' => ∃ A cap, e = .returned (.tuple #[.slice A L.length cap, .int .i64 ((at_ + 16 : Nat) : Int), .int .i64 0]) ∧ Ints w' A (zi L) ∧ Below w.heap.size w w' := by
  have HR := Lib.hid hr
  unfold PartL at HR
  have h2 : decide ((at_ : Int) < 0) = false := by simp
  have h3 : decide (s.size < at_) = false := by simp; omega
  clear hr
  cases L with
  | nil =>
    clear hL
    go_enter Try.func14, Try.ntmps14
    go_wp2_with fail
    refine (HR.out _).mono ?_
    rintro e w1 ⟨g, cap, rfl, hi, hc, hb1⟩
    clear hc
    have HI := Lib.hid hi
    clear hi
    go_wp2
    go_ret3
    exact ⟨_, _, rfl, HI.out, hb1⟩
  | cons z L =>
    have hz : 2 ≤ z := hL z (by simp)
    have hz1 : ((z : Int) != 1) = true := by simp; omega
    have hl0 : (L.length + 1) ≤ 64 := hlen
    have HE : Hid ((z :: L).length = L.length + 1) := rfl
    clear hL hlen
    go_enter Try.func14, Try.ntmps14
    go_wp2_with fail
    refine (HR.out _).mono ?_
    rintro e w1 ⟨g, cap, rfl, hi, hc, hb1⟩
    have hf := ints_first hi
    have HI := Lib.hid hi
    have HB := Lib.hid hb1
    rw [HE.out] at *
    clear hi hc hb1 hz
    generalize hnl : L.length = n at *
    have HNL := Lib.hid hnl; clear hnl
    have hn0 : ((n : Int) + 1 == 0) = false := by simp; omega
    go_wp2
    go_ret3
    exact ⟨some ⟨g, 0, none⟩, cap, by rw [HNL.out]; rfl, HI.out, HB.out⟩

set_option maxHeartbeats 1600000 in
theorem refGet_err2_1 (s : ByteArray) (at_ n : Nat) (L : List Nat) (w : World) (hs : s.size ≤ 1000000) (ha : at_ ≤ s.size) (hr : PartL 1 s at_ 1 (1 :: L)) (hlen : L.length ≤ 63) (hr2 : PartE 1 s ((at_ : Int) + 16) 65 n) (hn : n ≠ 0) :
    Calls Try.prog 14 #[.int .i64 1, .string s, .int .i64 (at_ : Int)] w fun e w' => e = .returned (.tuple #[.slice none 0 0, .int .i64 0, .int .i64 (n : Int)]) ∧ Below w.heap.size w w' := by
  have HR := Lib.hid hr
  unfold PartL at HR
  have HR2 := Lib.hid hr2
  unfold PartE at HR2
  have h2 : decide ((at_ : Int) < 0) = false := by simp
  have h3 : decide (s.size < at_) = false := by simp; omega
  have h4 : ((n : Int) != 0) = true := by simp [hn]
  have HE : Hid ((1 :: L).length = L.length + 1) := rfl
  clear hr hn hr2
  go_enter Try.func14, Try.ntmps14
  go_wp2_with fail
  refine (HR.out _).mono ?_
  rintro e w1 ⟨g, cap, rfl, hi, hc, hb1⟩
  have hf : w1.cell? ⟨g, 0, none⟩ = some (.int .i64 1) := ints_first hi
  have HB := Lib.hid hb1
  rw [HE.out] at *
  clear hi hc hb1
  generalize L.length = m at *
  have hn0 : ((m : Int) + 1 == 0) = false := by simp; omega
  go_wp2_with fail
  refine (HR2.out _).mono ?_
  rintro e w2 ⟨rfl, hb2⟩
  have HB2 := Lib.hid (hbt HB.out hb2)
  clear hb2 hf
  go_wp2
  go_ret3
  exact ⟨rfl, HB2.out⟩

set_option maxHeartbeats 1600000 in
theorem refGet_zero_1 (s : ByteArray) (at_ : Nat) (L : List Nat) (w : World) (hs : s.size ≤ 1000000) (ha : at_ ≤ s.size) (hr : PartL 1 s at_ 1 (1 :: L)) (hlen : L.length ≤ 63) (hr2 : PartL 1 s ((at_ : Int) + 16) 65 []) :
    Calls Try.prog 14 #[.int .i64 1, .string s, .int .i64 (at_ : Int)] w fun e w' => e = .returned (.tuple #[.slice none 0 0, .int .i64 0, .int .i64 8]) ∧ Below w.heap.size w w' := by
  have HR := Lib.hid hr
  have HR2 := Lib.hid hr2
  unfold PartL at HR HR2
  have h2 : decide ((at_ : Int) < 0) = false := by simp
  have h3 : decide (s.size < at_) = false := by simp; omega
  have HE : Hid ((1 :: L).length = L.length + 1) := rfl
  clear hr hr2
  go_enter Try.func14, Try.ntmps14
  go_wp2_with fail
  refine (HR.out _).mono ?_
  rintro e w1 ⟨g, cap, rfl, hi, hc, hb1⟩
  have hf : w1.cell? ⟨g, 0, none⟩ = some (.int .i64 1) := ints_first hi
  have HB := Lib.hid hb1
  rw [HE.out] at *
  clear hi hc hb1
  generalize L.length = m at *
  have hn0 : ((m : Int) + 1 == 0) = false := by simp; omega
  go_wp2_with fail
  refine (HR2.out _).mono ?_
  rintro e w2 ⟨g2, cap2, rfl, hi2, hc2, hb2⟩
  have HB2 := Lib.hid (hbt HB.out hb2)
  clear hb2 hf hi2 hc2
  go_wp2
  go_ret3
  exact ⟨rfl, HB2.out⟩

set_option maxHeartbeats 1600000 in
theorem refGet_err1_2 (s : ByteArray) (at_ n : Nat) (w : World) (ha : at_ ≤ s.size) (hr : PartE 2 s at_ 1 n) (hn : n ≠ 0) :
    Calls Try.prog 14 #[.int .i64 2, .string s, .int .i64 (at_ : Int)] w fun e w' => e = .returned (.tuple #[.slice none 0 0, .int .i64 0, .int .i64 (n : Int)]) ∧ Below w.heap.size w w' := by
  have HR := Lib.hid hr
  unfold PartE at HR
  have h2 : decide ((at_ : Int) < 0) = false := by simp
  have h3 : decide (s.size < at_) = false := by simp; omega
  have h4 : ((n : Int) != 0) = true := by simp [hn]
  clear hr hn ha
  go_enter Try.func14, Try.ntmps14
  go_wp2_with fail
  refine (HR.out _).mono ?_
  rintro e w1 ⟨rfl, hb1⟩
  go_wp2
  go_ret3
  exact ⟨rfl, hb1⟩

set_option maxHeartbeats 1600000 in
theorem refGet_short_2 (s : ByteArray) (at_ : Nat) (L : List Nat) (w : World) (hs : s.size ≤ 1000000) (ha : at_ ≤ s.size) (hr : PartL 2 s at_ 1 L) (hL : ∀ z ∈ L, 2 ≤ z) (hlen : L.length ≤ 64) :
    Calls Try.prog 14 #[.int .i64 2, .string s, .int .i64 (at_ : Int)] w fun e w' => ∃ A cap, e = .returned (.tuple #[.slice A L.length cap, .int .i64 ((at_ + 8 : Nat) : Int), .int .i64 0]) ∧ Ints w' A (zi L) ∧ Below w.heap.size w w' := by
  have HR := Lib.hid hr
  unfold PartL at HR
  have h2 : decide ((at_ : Int) < 0) = false := by simp
  have h3 : decide (s.size < at_) = false := by simp; omega
  clear hr
  cases L with
  | nil =>
    clear hL
    go_enter Try.func14, Try.ntmps14
    go_wp2_with fail
    refine (HR.out _).mono ?_
    rintro e w1 ⟨g, cap, rfl, hi, hc, hb1⟩
    clear hc
    have HI := Lib.hid hi
    clear hi
    go_wp2
    go_ret3
    exact ⟨_, _, rfl, HI.out, hb1⟩
  | cons z L =>
    have hz : 2 ≤ z := hL z (by simp)
    have hz1 : ((z : Int) != 1) = true := by simp; omega
    have hl0 : (L.length + 1) ≤ 64 := hlen
    have HE : Hid ((z :: L).length = L.length + 1) := rfl
    clear hL hlen
    go_enter Try.func14, Try.ntmps14
    go_wp2_with fail
    refine (HR.out _).mono ?_
    rintro e w1 ⟨g, cap, rfl, hi, hc, hb1⟩
    have hf := ints_first hi
    have HI := Lib.hid hi
    have HB := Lib.hid hb1
    rw [HE.out] at *
    clear hi hc hb1 hz
    generalize hnl : L.length = n at *
    have HNL := Lib.hid hnl; clear hnl
    have hn0 : ((n : Int) + 1 == 0) = false := by simp; omega
    go_wp2
    go_ret3
    exact ⟨some ⟨g, 0, none⟩, cap, by rw [HNL.out]; rfl, HI.out, HB.out⟩

set_option maxHeartbeats 1600000 in
theorem refGet_err2_2 (s : ByteArray) (at_ n : Nat) (L : List Nat) (w : World) (hs : s.size ≤ 1000000) (ha : at_ ≤ s.size) (hr : PartL 2 s at_ 1 (1 :: L)) (hlen : L.length ≤ 63) (hr2 : PartE 2 s ((at_ : Int) + 8) 65 n) (hn : n ≠ 0) :
    Calls Try.prog 14 #[.int .i64 2, .string s, .int .i64 (at_ : Int)] w fun e w' => e = .returned (.tuple #[.slice none 0 0, .int .i64 0, .int .i64 (n : Int)]) ∧ Below w.heap.size w w' := by
  have HR := Lib.hid hr
  unfold PartL at HR
  have HR2 := Lib.hid hr2
  unfold PartE at HR2
  have h2 : decide ((at_ : Int) < 0) = false := by simp
  have h3 : decide (s.size < at_) = false := by simp; omega
  have h4 : ((n : Int) != 0) = true := by simp [hn]
  have HE : Hid ((1 :: L).length = L.length + 1) := rfl
  clear hr hn hr2
  go_enter Try.func14, Try.ntmps14
  go_wp2_with fail
  refine (HR.out _).mono ?_
  rintro e w1 ⟨g, cap, rfl, hi, hc, hb1⟩
  have hf : w1.cell? ⟨g, 0, none⟩ = some (.int .i64 1) := ints_first hi
  have HB := Lib.hid hb1
  rw [HE.out] at *
  clear hi hc hb1
  generalize L.length = m at *
  have hn0 : ((m : Int) + 1 == 0) = false := by simp; omega
  go_wp2_with fail
  refine (HR2.out _).mono ?_
  rintro e w2 ⟨rfl, hb2⟩
  have HB2 := Lib.hid (hbt HB.out hb2)
  clear hb2 hf
  go_wp2
  go_ret3
  exact ⟨rfl, HB2.out⟩

set_option maxHeartbeats 1600000 in
theorem refGet_zero_2 (s : ByteArray) (at_ : Nat) (L : List Nat) (w : World) (hs : s.size ≤ 1000000) (ha : at_ ≤ s.size) (hr : PartL 2 s at_ 1 (1 :: L)) (hlen : L.length ≤ 63) (hr2 : PartL 2 s ((at_ : Int) + 8) 65 []) :
    Calls Try.prog 14 #[.int .i64 2, .string s, .int .i64 (at_ : Int)] w fun e w' => e = .returned (.tuple #[.slice none 0 0, .int .i64 0, .int .i64 8]) ∧ Below w.heap.size w w' := by
  have HR := Lib.hid hr
  have HR2 := Lib.hid hr2
  unfold PartL at HR HR2
  have h2 : decide ((at_ : Int) < 0) = false := by simp
  have h3 : decide (s.size < at_) = false := by simp; omega
  have HE : Hid ((1 :: L).length = L.length + 1) := rfl
  clear hr hr2
  go_enter Try.func14, Try.ntmps14
  go_wp2_with fail
  refine (HR.out _).mono ?_
  rintro e w1 ⟨g, cap, rfl, hi, hc, hb1⟩
  have hf : w1.cell? ⟨g, 0, none⟩ = some (.int .i64 1) := ints_first hi
  have HB := Lib.hid hb1
  rw [HE.out] at *
  clear hi hc hb1
  generalize L.length = m at *
  have hn0 : ((m : Int) + 1 == 0) = false := by simp; omega
  go_wp2_with fail
  refine (HR2.out _).mono ?_
  rintro e w2 ⟨g2, cap2, rfl, hi2, hc2, hb2⟩
  have HB2 := Lib.hid (hbt HB.out hb2)
  clear hb2 hf hi2 hc2
  go_wp2
  go_ret3
  exact ⟨rfl, HB2.out⟩

end Go.Proofs.Ytdnckiaeeikbhaa
