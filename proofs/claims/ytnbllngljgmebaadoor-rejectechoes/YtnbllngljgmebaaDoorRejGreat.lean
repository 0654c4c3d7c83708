/-
  What the document's Great of a side answers: for every side, in every world.
-/
import Derived.Test.YtnbllngljgmebaaDoorRejRef
namespace Go.Proofs.YtnbllngljgmebaaDoor
open Go.RowKit

set_option maxRecDepth 100000 in
set_option maxHeartbeats 3200000 in
theorem rjgreat_n (st v : Int) (A : Option Addr) (la cA : Nat) (X : Option Addr) (nM cM : Nat) (Y : Option Addr) (nR cR : Nat) (B : Option Addr) (ne cB : Nat) (D : Option Addr) (nc cD : Nat) (w : World) (h : (decide (200 < la) || decide (300 < ne) || decide (300 < nc)) = true) :
    Calls Tryd.prog 9 #[.agg #[.int .i64 st, .int .i64 v, .slice A la cA, .slice X nM cM, .slice Y nR cR, .slice B ne cB, .slice D nc cD]] w fun e w' => e = .returned (.bool true) ∧ Below w.heap.size w w' := by
  have hb0 := below_al w (.cells #[.int .i64 st, .int .i64 v, .slice A la cA, .slice X nM cM, .slice Y nR cR, .slice B ne cB, .slice D nc cD] 32)
  have HB0 := Lib.hid hb0
  clear hb0
  by_cases h1 : 200 < la
  · have t1 : decide ((200 : Int) < (la : Int)) = true := by simp; omega
    clear h h1
    go_enter Tryd.func9, Tryd.ntmps9
    go_wp2
    go_ret
    exact ⟨rfl, HB0.out⟩
  · have t1 : decide ((200 : Int) < (la : Int)) = false := by simp; omega
    by_cases h2 : 300 < ne
    · have t2 : decide ((300 : Int) < (ne : Int)) = true := by simp; omega
      clear h h1 h2
      go_enter Tryd.func9, Tryd.ntmps9
      go_wp2
      go_ret
      exact ⟨rfl, HB0.out⟩
    · have t2 : decide ((300 : Int) < (ne : Int)) = false := by simp; omega
      have h3 : 300 < nc := by simp at h; omega
      have t3 : decide ((300 : Int) < (nc : Int)) = true := by simp; omega
      clear h h1 h2 h3
      go_enter Tryd.func9, Tryd.ntmps9
      go_wp2
      go_ret
      exact ⟨rfl, HB0.out⟩
set_option maxRecDepth 100000 in
set_option maxHeartbeats 6400000 in
theorem rjgreat_l (st v : Int) (A : Option Addr) (la cA : Nat) (X : Option Addr) (nM cM : Nat) (Y : Option Addr) (nR cR : Nat) (B : Option Addr) (ne cB : Nat) (D : Option Addr) (cD : Nat) (C : List Item) (w : World) (hC : Tlvs w D C) (hf : ∀ x ∈ C, x.2.size ≤ maxLen) (h1 : ¬ 200 < la) (h2 : ¬ 300 < ne) (h3 : ¬ 300 < C.length) :
    Calls Tryd.prog 9 #[.agg #[.int .i64 st, .int .i64 v, .slice A la cA, .slice X nM cM, .slice Y nR cR, .slice B ne cB, .slice D C.length cD]] w fun e w' => e = .returned (.bool (longL C)) ∧ Below w.heap.size w w' := by
  have t1 : decide ((200 : Int) < (la : Int)) = false := by simp; omega
  have t2 : decide ((300 : Int) < (ne : Int)) = false := by simp; omega
  have t3 : decide ((300 : Int) < (C.length : Int)) = false := by simp; omega
  have hn : C.length ≤ 1000 := by omega
  have hb0 := below_al w (.cells #[.int .i64 st, .int .i64 v, .slice A la cA, .slice X nM cM, .slice Y nR cR, .slice B ne cB, .slice D C.length cD] 32)
  have HB0 := Lib.hid hb0
  have HX0 : Hid (SBox (w.alloc (.cells #[.int .i64 st, .int .i64 v, .slice A la cA, .slice X nM cM, .slice Y nR cR, .slice B ne cB, .slice D C.length cD] 32)) w.heap.size st v A la cA X nM cM Y nR cR B ne cB D C.length cD) := sbox_new
  have HI := Lib.hid (hC.below hb0)
  have HF : Hid (∀ k, k < C.length → (itemAt C k).2.size ≤ maxLen) := fun k hk => by rw [itemAt_get hk]; exact hf _ (List.getElem_mem hk)
  clear hC h1 h2 h3 hf hb0
  generalize hlen : C.length = len at *
  have HLEN := Lib.hid hlen
  clear hlen
  generalize hR : longL C = R
  have HR0 := Lib.hid hR
  clear hR
  go_enter Tryd.func9, Tryd.ntmps9
  go_wp2
  go_loop [3] (fun i => ∃ k : Nat, k ≤ len ∧ i = .int .i64 (k : Int) ∧ longL (C.drop k) = R) (fun i => len - (intOf i).toNat)
  case atStart => exact ⟨0, Nat.zero_le _, rfl, HR0.out⟩
  case round =>
    obtain ⟨k, hk, rfl, hrest⟩ := hrel
    have HR := Lib.hid hrest
    clear hrest
    by_cases hlt : k < len
    · have hkl : k < C.length := by have := HLEN.out; omega
      obtain ⟨a, n, s, rfl, hx, c0, c1⟩ := HI.out.at_ hkl
      have HD := Lib.hid (drop_item hkl)
      have hs := HF.out k (by omega)
      rw [hx] at HD hs
      unfold maxLen at hs
      dsimp only at hs
      clear hx hkl
      by_cases hz : 1200 < s.size
      · have tz : decide ((1200 : Int) < (s.size : Int)) = true := by simp; omega
        have HE := Lib.hid (long_hit (x := (n, s)) (r := C.drop (k + 1)) hz)
        clear hz
        go_wp2
        go_ret
        exact ⟨by rw [← HR.out, HD.out, HE.out]; rfl, HB0.out⟩
      · have tz : decide ((1200 : Int) < (s.size : Int)) = false := by simp; omega
        have HE := Lib.hid (long_miss (x := (n, s)) (r := C.drop (k + 1)) hz)
        clear hz
        go_wp2
        go_round
        case rel => exact ⟨k + 1, by omega, by go_num, by rw [← HR.out, HD.out, HE.out]⟩
        case measure => simp [intOf]; omega
    · have HE := Lib.hid (items_end (l := C) (k := k) (by have := HLEN.out; omega))
      go_wp2
      go_ret
      exact ⟨by rw [← HR.out, HE.out]; rfl, HB0.out⟩
theorem rjgreat_any (st v : Int) (A : Option Addr) (cA : Nat) (sl : List Sp) (X : Option Addr) (nM cM : Nat) (Y : Option Addr) (nR cR : Nat) (B : Option Addr) (cB : Nat) (E : List Int) (D : Option Addr) (cD : Nat) (C : List Item) (w : World) (hC : Tlvs w D C) (hf : ∀ x ∈ C, x.2.size ≤ maxLen) :
    Calls Tryd.prog 9 #[.agg #[.int .i64 st, .int .i64 v, .slice A sl.length cA, .slice X nM cM, .slice Y nR cR, .slice B E.length cB, .slice D C.length cD]] w fun e w' => e = .returned (.bool (rjgB sl E C)) ∧ Below w.heap.size w w' := by
  cases h : (decide (200 < sl.length) || decide (300 < E.length) || decide (300 < C.length))
  · have h' := h
    simp at h'
    obtain ⟨⟨h1, h2⟩, h3⟩ := h'
    rw [rjgB, h, Bool.false_or]
    exact rjgreat_l st v A _ cA X nM cM Y nR cR B _ cB D cD C w hC hf (by omega) (by omega) (by omega)
  · rw [rjgB, h, Bool.true_or]
    exact rjgreat_n st v A _ cA X nM cM Y nR cR B _ cB D _ cD w h

end Go.Proofs.YtnbllngljgmebaaDoor
