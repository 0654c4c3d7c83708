/-
  What textOf, Code and the document's find and Code answer: for every side, in every world.
-/
import Derived.Test.YtnbllngljgmebaaDoorRejOf
import Derived.Test.YtnbllngljgmebaaDoorRejMath
namespace Go.Proofs.YtnbllngljgmebaaDoor
open Go.RowKit

set_option maxRecDepth 100000 in
set_option maxHeartbeats 1600000 in
theorem text_any (D : Option Addr) (cD : Nat) (C : List Item) (t : Int) (w : World) (hI : Tlvs w D C) (hn : C.length ≤ maxLen) :
    Calls Tryd.prog 36 #[.slice D C.length cD, .int .i64 t] w fun e w' => e = .returned (.tuple #[.string (findS C t), .bool (findB C t)]) ∧ Below w.heap.size w w' := by
  have HI := Lib.hid hI
  clear hI
  unfold maxLen at hn
  generalize hlen : C.length = len at *
  have HLEN := Lib.hid hlen
  clear hlen
  go_enter Tryd.func36, Tryd.ntmps36
  go_wp2
  go_loopw [10] (fun i wr => ∃ k : Nat, k ≤ len ∧ i = .int .i64 (k : Int) ∧ (∀ j, j < k → (itemAt C j).1 ≠ t) ∧ Below w.heap.size w wr) (fun i _ => len - (intOf i).toNat)
  case atStart => exact ⟨0, Nat.zero_le _, rfl, fun j hj => by omega, Below.refl _ _⟩
  case round =>
    obtain ⟨k, hk, rfl, hno, hb⟩ := hrel
    have HNO := Lib.hid hno
    have HB := Lib.hid hb
    clear hno hb
    by_cases hlt : k < len
    · obtain ⟨a, rfl, hc, hd⟩ := HI.out.below HB.out k (by have := HLEN.out; omega)
      generalize hx : itemAt C k = x at *
      have HX := Lib.hid hx
      clear hx
      obtain ⟨z, s⟩ := x
      dsimp only at hc hd
      by_cases hzt : z = t
      · subst hzt
        have HF := Lib.hid (find_hit (by have := HLEN.out; omega) HNO.out (by rw [HX.out]))
        rw [HX.out] at HF
        dsimp only at HF
        go_wp2
        go_ret2
        exact ⟨by rw [HF.out.1, HF.out.2]; rfl, hbt HB.out (below_al _ _)⟩
      · have hzt' : (z == t) = false := by simpa using hzt
        have HZ := Lib.hid hzt
        clear hzt
        go_wp2
        go_roundw
        case rel =>
          refine ⟨k + 1, by omega, by go_num, fun j hj => ?_, hbt HB.out (below_al _ _)⟩
          rcases Nat.lt_or_ge j k with h | h
          · exact HNO.out j h
          · obtain rfl : j = k := by omega
            rw [HX.out]; exact HZ.out
        case measure => simp [intOf]; omega
    · have HF := Lib.hid (find_miss (l := C) (t := t) (fun j hj => HNO.out j (by have := HLEN.out; omega)))
      go_wp2
      go_ret2
      exact ⟨by rw [HF.out.1, HF.out.2]; rfl, HB.out⟩

set_option maxRecDepth 100000 in
set_option maxHeartbeats 1600000 in
/-- The document's find: the first of n. -/
theorem rfind_hit (D : Option Addr) (cD : Nat) (C : List Item) (n i : Nat) (t : Int) (w : World) (hI : Tlvs w D C) (hn : n ≤ C.length) (hm : C.length ≤ 300) (hi : i < n) (hno : ∀ j, j < i → (itemAt C j).1 ≠ t) (ht : (itemAt C i).1 = t) :
    Calls Tryd.prog 34 #[.slice D C.length cD, .int .i64 (n : Int), .int .i64 t] w fun e w' => e = .returned (.int .i64 (i : Int)) ∧ Below w.heap.size w w' := by
  have HI := Lib.hid hI
  have HNO := Lib.hid hno
  have HT := Lib.hid ht
  clear hI hno ht
  generalize hlen : C.length = len at *
  have HLEN := Lib.hid hlen
  clear hlen
  go_enter Tryd.func34, Tryd.ntmps34
  go_wp2
  go_loopw [7] (fun i' wr => ∃ k : Nat, k ≤ i ∧ i' = .int .i64 (k : Int) ∧ Below w.heap.size w wr) (fun i' _ => n - (intOf i').toNat)
  case atStart => exact ⟨0, Nat.zero_le _, rfl, Below.refl _ _⟩
  case round =>
    obtain ⟨k, hk, rfl, hb⟩ := hrel
    have HB := Lib.hid hb
    clear hb
    have hlt : k < n := by omega
    obtain ⟨a, rfl, hc, hd⟩ := HI.out.below HB.out k (by have := HLEN.out; omega)
    by_cases hki : k = i
    · have hz := HT.out
      rw [← hki] at hz
      rw [hz] at hc
      have HKI : Hid ((k : Int) = (i : Int)) := by show _ = _; omega
      clear hd hki
      go_wp2
      go_ret
      exact ⟨by rw [HKI.out]; rfl, HB.out⟩
    · have hz := HNO.out k (by omega)
      generalize (itemAt C k).1 = z at *
      have hzt' : (z == t) = false := by simpa using hz
      clear hz hd
      go_wp2
      go_roundw
      case rel => exact ⟨k + 1, by omega, by go_num, HB.out⟩
      case measure => simp [intOf]; omega
set_option maxRecDepth 100000 in
set_option maxHeartbeats 1600000 in
theorem rfind_miss (D : Option Addr) (cD : Nat) (C : List Item) (n : Nat) (t : Int) (w : World) (hI : Tlvs w D C) (hn : n ≤ C.length) (hm : C.length ≤ 300) (hno : ∀ j, j < n → (itemAt C j).1 ≠ t) :
    Calls Tryd.prog 34 #[.slice D C.length cD, .int .i64 (n : Int), .int .i64 t] w fun e w' => e = .returned (.int .i64 (-1)) ∧ Below w.heap.size w w' := by
  have HI := Lib.hid hI
  have HNO := Lib.hid hno
  clear hI hno
  generalize hlen : C.length = len at *
  have HLEN := Lib.hid hlen
  clear hlen
  go_enter Tryd.func34, Tryd.ntmps34
  go_wp2
  go_loopw [7] (fun i' wr => ∃ k : Nat, k ≤ n ∧ i' = .int .i64 (k : Int) ∧ Below w.heap.size w wr) (fun i' _ => n - (intOf i').toNat)
  case atStart => exact ⟨0, Nat.zero_le _, rfl, Below.refl _ _⟩
  case round =>
    obtain ⟨k, hk, rfl, hb⟩ := hrel
    have HB := Lib.hid hb
    clear hb
    by_cases hlt : k < n
    · obtain ⟨a, rfl, hc, hd⟩ := HI.out.below HB.out k (by have := HLEN.out; omega)
      have hz := HNO.out k hlt
      generalize (itemAt C k).1 = z at *
      have hzt' : (z == t) = false := by simpa using hz
      clear hz hd
      go_wp2
      go_roundw
      case rel => exact ⟨k + 1, by omega, by go_num, HB.out⟩
      case measure => simp [intOf]; omega
    · go_wp2
      go_ret
      exact ⟨rfl, HB.out⟩
/-- Where the first of n stands, if there is one. -/
theorem code_at (C : List Item) (n : Nat) (t : Int) (hn : n ≤ C.length) : (findB (C.take n) t = true ∧ ∃ i, i < n ∧ (∀ j, j < i → (itemAt C j).1 ≠ t) ∧ (itemAt C i).1 = t ∧ findS (C.take n) t = (itemAt C i).2) ∨ (findB (C.take n) t = false ∧ ∀ j, j < n → (itemAt C j).1 ≠ t) := by
  have hat : ∀ j, j < n → itemAt (C.take n) j = itemAt C j := fun j hj => by
    rw [itemAt_get (show j < (C.take n).length by simp; omega), itemAt_get (show j < C.length by omega)]; simp
  have hl : (C.take n).length = n := by simp; omega
  by_cases h : ∃ i, i < n ∧ (itemAt C i).1 = t
  · obtain ⟨i0, h0, h1⟩ := h
    have hex : ∃ i, i < n ∧ (itemAt C i).1 = t ∧ ∀ j, j < i → (itemAt C j).1 ≠ t := by
      clear hat hl hn
      induction i0 using Nat.strongRecOn with
      | _ i0 ih =>
        by_cases hj : ∃ j, j < i0 ∧ (itemAt C j).1 = t
        · obtain ⟨j, hj1, hj2⟩ := hj
          exact ih j hj1 (by omega) hj2
        · exact ⟨i0, h0, h1, fun j hj1 hj2 => hj ⟨j, hj1, hj2⟩⟩
    obtain ⟨i, h2, h3, h4⟩ := hex
    have hf := find_hit (l := C.take n) (k := i) (t := t) (by omega) (fun j hj => by rw [hat j (by omega)]; exact h4 j hj) (by rw [hat i h2]; exact h3)
    exact .inl ⟨hf.2, i, h2, h4, h3, by rw [hf.1, hat i h2]⟩
  · have hno : ∀ j, j < n → (itemAt C j).1 ≠ t := fun j hj e => h ⟨j, hj, e⟩
    exact .inr ⟨(find_miss (l := C.take n) (t := t) (fun j hj => by rw [hat j (by omega)]; exact hno j (by omega))).2, hno⟩
/-- It answers a place, or -1. -/
theorem rfind_any (D : Option Addr) (cD : Nat) (C : List Item) (n : Nat) (t : Int) (hn : n ≤ C.length) (hm : C.length ≤ 300) :
    (findB (C.take n) t = true ∧ ∃ i, i < n ∧ (itemAt C i).2 = findS (C.take n) t ∧ ∀ w, Tlvs w D C → Calls Tryd.prog 34 #[.slice D C.length cD, .int .i64 (n : Int), .int .i64 t] w fun e w' => e = .returned (.int .i64 (i : Int)) ∧ Below w.heap.size w w') ∨
    (findB (C.take n) t = false ∧ ∀ w, Tlvs w D C → Calls Tryd.prog 34 #[.slice D C.length cD, .int .i64 (n : Int), .int .i64 t] w fun e w' => e = .returned (.int .i64 (-1)) ∧ Below w.heap.size w w') := by
  rcases code_at C n t hn with ⟨h1, i, h2, h3, h4, h5⟩ | ⟨h1, h2⟩
  · exact .inl ⟨h1, i, h2, h5.symm, fun w hw => rfind_hit D cD C n i t w hw hn hm h2 h3 h4⟩
  · exact .inr ⟨h1, fun w hw => rfind_miss D cD C n t w hw hn hm h2⟩

set_option maxRecDepth 100000 in
set_option maxHeartbeats 1600000 in
theorem code_any (st v : Int) (A : Option Addr) (n cA : Nat) (X : Option Addr) (nM cM : Nat) (Y : Option Addr) (nR cR : Nat) (B : Option Addr) (nE cB : Nat) (D : Option Addr) (cD : Nat) (C : List Item) (t : Int) (w : World) (hI : Tlvs w D C) (hn : C.length ≤ maxLen) :
    Calls Tryd.prog 13 #[.agg #[.int .i64 st, .int .i64 v, .slice A n cA, .slice X nM cM, .slice Y nR cR, .slice B nE cB, .slice D C.length cD], .int .i64 t] w fun e w' => e = .returned (.string (codeS C t)) ∧ Below w.heap.size w w' := by
  have HT := Lib.hid (fun W hW z => text_any D cD C z W hW hn)
  have hb0 := below_al w (.cells #[.int .i64 st, .int .i64 v, .slice A n cA, .slice X nM cM, .slice Y nR cR, .slice B nE cB, .slice D C.length cD] 32)
  have HI := Lib.hid (hI.below hb0)
  have HB0 := Lib.hid hb0
  have HX0 : Hid (SBox (w.alloc (.cells #[.int .i64 st, .int .i64 v, .slice A n cA, .slice X nM cM, .slice Y nR cR, .slice B nE cB, .slice D C.length cD] 32)) w.heap.size st v A n cA X nM cM Y nR cR B nE cB D C.length cD) := sbox_new
  clear hI hb0 hn
  generalize C.length = len at *
  cases hf : findB C t
  · have HC : Hid (codeS C t = findS C 0) := by show _ = _; unfold codeS; rw [if_neg (by simp [hf])]
    have HT1 := Lib.hid (fun W hW => HT.out W hW t)
    have HT0 := Lib.hid (fun W hW => HT.out W hW 0)
    rw [hf] at HT1
    generalize findS C t = s1 at *
    generalize findB C 0 = b0 at *
    generalize findS C 0 = s0 at *
    clear hf HT
    go_enter Tryd.func13, Tryd.ntmps13
    go_wp2_with fail
    refine (HT1.out _ HI.out).mono ?_
    rintro e w1 ⟨rfl, hb1⟩
    have HI1 := Lib.hid (HI.out.below hb1)
    obtain ⟨c0, c1, c2, c3, c4, c5, c6⟩ := (HX0.out.below hb1).cells
    have HB1 := Lib.hid (hbt HB0.out hb1)
    clear hb1
    go_wp2_with fail
    refine (HT0.out _ HI1.out).mono ?_
    rintro e w2 ⟨rfl, hb2⟩
    go_wp2
    go_ret
    exact ⟨by rw [HC.out]; rfl, hbt HB1.out hb2⟩
  · have HC : Hid (codeS C t = findS C t) := by show _ = _; unfold codeS; rw [if_pos hf]
    have HT1 := Lib.hid (fun W hW => HT.out W hW t)
    rw [hf] at HT1
    generalize findS C t = s1 at *
    clear hf HT
    go_enter Tryd.func13, Tryd.ntmps13
    go_wp2_with fail
    refine (HT1.out _ HI.out).mono ?_
    rintro e w1 ⟨rfl, hb1⟩
    go_wp2
    go_ret
    exact ⟨by rw [HC.out]; rfl, hbt HB0.out hb1⟩

set_option maxRecDepth 100000 in
set_option maxHeartbeats 3200000 in
theorem refCode_any (st v : Int) (A : Option Addr) (n cA : Nat) (X : Option Addr) (nM cM : Nat) (Y : Option Addr) (nR cR : Nat) (B : Option Addr) (nE cB : Nat) (D : Option Addr) (cD : Nat) (C : List Item) (t : Int) (w : World) (hI : Tlvs w D C) (hn : C.length ≤ 300) :
    Calls Tryd.prog 14 #[.agg #[.int .i64 st, .int .i64 v, .slice A n cA, .slice X nM cM, .slice Y nR cR, .slice B nE cB, .slice D C.length cD], .int .i64 t] w fun e w' => e = .returned (.string (codeS C t)) ∧ Below w.heap.size w w' := by
  have h1 := rfind_any D cD C C.length t (Nat.le_refl _) hn
  have h0 := rfind_any D cD C C.length 0 (Nat.le_refl _) hn
  rw [List.take_length] at h1 h0
  have hb0 := below_al w (.cells #[.int .i64 st, .int .i64 v, .slice A n cA, .slice X nM cM, .slice Y nR cR, .slice B nE cB, .slice D C.length cD] 32)
  have HI := Lib.hid (hI.below hb0)
  have HB0 := Lib.hid hb0
  have HX0 : Hid (SBox (w.alloc (.cells #[.int .i64 st, .int .i64 v, .slice A n cA, .slice X nM cM, .slice Y nR cR, .slice B nE cB, .slice D C.length cD] 32)) w.heap.size st v A n cA X nM cM Y nR cR B nE cB D C.length cD) := sbox_new
  clear hI hb0
  generalize hlen : C.length = len at *
  have HLEN := Lib.hid hlen
  clear hlen
  rcases h1 with ⟨hf, i, hi, hs, hr⟩ | ⟨hf, hr⟩
  · have HC : Hid (codeS C t = (itemAt C i).2) := by show _ = _; unfold codeS; rw [if_pos hf, hs]
    have HR := Lib.hid hr
    clear hf hs hr h0
    go_enter Tryd.func14, Tryd.ntmps14
    go_wp2_with fail
    refine (HR.out _ HI.out).mono ?_
    rintro e w1 ⟨rfl, hb1⟩
    have HB1 := Lib.hid (hbt HB0.out hb1)
    obtain ⟨c0, c1, c2, c3, c4, c5, c6⟩ := (HX0.out.below hb1).cells
    obtain ⟨a, rfl, hc, hd⟩ := HI.out.below hb1 i (by have := HLEN.out; omega)
    clear hb1 hc
    generalize (itemAt C i).2 = s at *
    have hge : decide ((i : Int) < 0) = false := by simp
    go_wp2
    go_ret
    exact ⟨by rw [HC.out]; rfl, HB1.out⟩
  · rcases h0 with ⟨hg, i, hi, hs, hr0⟩ | ⟨hg, hr0⟩
    · have HC : Hid (codeS C t = (itemAt C i).2) := by show _ = _; unfold codeS; rw [if_neg (by simp [hf]), hs]
      have HR := Lib.hid hr
      have HR0 := Lib.hid hr0
      clear hf hs hr hg hr0
      go_enter Tryd.func14, Tryd.ntmps14
      go_wp2_with fail
      refine (HR.out _ HI.out).mono ?_
      rintro e w1 ⟨rfl, hb1⟩
      have HB1 := Lib.hid (hbt HB0.out hb1)
      have HI1 := Lib.hid (HI.out.below hb1)
      have HX1 := Lib.hid (HX0.out.below hb1)
      obtain ⟨c0, c1, c2, c3, c4, c5, c6⟩ := HX1.out.cells
      clear hb1
      go_wp2_with fail
      clear c0 c1 c2 c3 c4 c5 c6
      refine (HR0.out _ HI1.out).mono ?_
      rintro e w2 ⟨rfl, hb2⟩
      have HB2 := Lib.hid (hbt HB1.out hb2)
      obtain ⟨c0, c1, c2, c3, c4, c5, c6⟩ := (HX1.out.below hb2).cells
      obtain ⟨a, rfl, hc, hd⟩ := HI1.out.below hb2 i (by have := HLEN.out; omega)
      clear hb2 hc
      generalize (itemAt C i).2 = s at *
      have hge : decide ((i : Int) < 0) = false := by simp
      go_wp2
      go_ret
      exact ⟨by rw [HC.out]; rfl, HB2.out⟩
    · have HC : Hid (codeS C t = ⟨#[]⟩) := by
        show _ = _
        unfold codeS
        rw [if_neg (by simp [hf])]
        unfold findS
        have : C.find? (fun x => x.1 == 0) = none := by
          rw [List.find?_eq_none]
          unfold findB at hg
          rw [List.any_eq_false] at hg
          exact hg
        rw [this]
      have HR := Lib.hid hr
      have HR0 := Lib.hid hr0
      clear hf hr hg hr0
      go_enter Tryd.func14, Tryd.ntmps14
      go_wp2_with fail
      refine (HR.out _ HI.out).mono ?_
      rintro e w1 ⟨rfl, hb1⟩
      have HB1 := Lib.hid (hbt HB0.out hb1)
      have HI1 := Lib.hid (HI.out.below hb1)
      have HX1 := Lib.hid (HX0.out.below hb1)
      obtain ⟨c0, c1, c2, c3, c4, c5, c6⟩ := HX1.out.cells
      clear hb1
      go_wp2_with fail
      clear c0 c1 c2 c3 c4 c5 c6
      refine (HR0.out _ HI1.out).mono ?_
      rintro e w2 ⟨rfl, hb2⟩
      have HB2 := Lib.hid (hbt HB1.out hb2)
      clear hb2
      go_wp2
      go_ret
      exact ⟨by rw [HC.out]; rfl, HB2.out⟩

end Go.Proofs.YtnbllngljgmebaaDoor
