/-
  What Great, Get, the document's Find and placeOf answer: for every message of up to 1000 fields, in every world.
-/
import Derived.Test.YthheflgfbdcnlaaDoorMsgOf
namespace Go.Proofs.YthheflgfbdcnlaaDoor
open Go.RowKit

set_option maxRecDepth 100000 in
set_option maxHeartbeats 1600000 in
theorem mgreat_m (m : ByteArray) (A : Option Addr) (len cap : Nat) (w : World) (h : 100 < m.size) :
    Calls Tryd.prog 7 #[.agg #[.string m, .slice A len cap]] w fun e w' => e = .returned (.bool true) ∧ Below w.heap.size w w' := by
  have t : decide ((100 : Int) < (m.size : Int)) = true := by simp; omega
  clear h
  go_enter Tryd.func7, Tryd.ntmps7
  go_wp2
  go_ret
  exact ⟨rfl, below_al _ _⟩
set_option maxRecDepth 100000 in
set_option maxHeartbeats 1600000 in
theorem mgreat_n (m : ByteArray) (A : Option Addr) (len cap : Nat) (w : World) (h : ¬ 100 < m.size) (h2 : 200 < len) :
    Calls Tryd.prog 7 #[.agg #[.string m, .slice A len cap]] w fun e w' => e = .returned (.bool true) ∧ Below w.heap.size w w' := by
  have t : decide ((100 : Int) < (m.size : Int)) = false := by simp; omega
  have t2 : decide ((200 : Int) < (len : Int)) = true := by simp; omega
  clear h h2
  go_enter Tryd.func7, Tryd.ntmps7
  go_wp2
  go_ret
  exact ⟨rfl, below_al _ _⟩
set_option maxRecDepth 100000 in
set_option maxHeartbeats 1600000 in
theorem mgreat_l (m : ByteArray) (A : Option Addr) (cap : Nat) (l : List Item) (w : World) (hI : Tlvs w A l) (hf : ∀ x ∈ l, x.2.size ≤ maxLen) (h : ¬ 100 < m.size) (h2 : ¬ 200 < l.length) :
    Calls Tryd.prog 7 #[.agg #[.string m, .slice A l.length cap]] w fun e w' => e = .returned (.bool (longL l)) ∧ Below w.heap.size w w' := by
  have t : decide ((100 : Int) < (m.size : Int)) = false := by simp; omega
  have t2 : decide ((200 : Int) < (l.length : Int)) = false := by simp; omega
  have hn : l.length ≤ 1000 := by omega
  have HI := Lib.hid (hI.below (below_al w (.cells #[.string m, .slice A l.length cap] 32)))
  have HF : Hid (∀ k, k < l.length → (itemAt l k).2.size ≤ maxLen) := fun k hk => by rw [itemAt_get hk]; exact hf _ (List.getElem_mem hk)
  clear hI h h2 hf
  generalize hlen : l.length = len at *
  have HLEN := Lib.hid hlen
  clear hlen
  generalize hR : longL l = R
  have HR0 := Lib.hid hR
  clear hR
  go_enter Tryd.func7, Tryd.ntmps7
  go_wp2
  go_loop [3] (fun i => ∃ k : Nat, k ≤ len ∧ i = .int .i64 (k : Int) ∧ longL (l.drop k) = R) (fun i => len - (intOf i).toNat)
  case atStart => exact ⟨0, Nat.zero_le _, rfl, HR0.out⟩
  case round =>
    obtain ⟨k, hk, rfl, hrest⟩ := hrel
    have HR := Lib.hid hrest
    clear hrest
    by_cases hlt : k < len
    · have hkl : k < l.length := by have := HLEN.out; omega
      obtain ⟨a, n, s, rfl, hx, c0, c1⟩ := HI.out.at_ hkl
      have HD := Lib.hid (drop_item hkl)
      have hs := HF.out k (by omega)
      rw [hx] at HD hs
      unfold maxLen at hs
      dsimp only at hs
      clear hx hkl
      by_cases hz : 1200 < s.size
      · have tz : decide ((1200 : Int) < (s.size : Int)) = true := by simp; omega
        have HE := Lib.hid (long_hit (x := (n, s)) (r := l.drop (k + 1)) hz)
        clear hz
        go_wp2
        go_ret
        exact ⟨by rw [← HR.out, HD.out, HE.out]; rfl, below_al _ _⟩
      · have tz : decide ((1200 : Int) < (s.size : Int)) = false := by simp; omega
        have HE := Lib.hid (long_miss (x := (n, s)) (r := l.drop (k + 1)) hz)
        clear hz
        go_wp2
        go_round
        case rel => exact ⟨k + 1, by omega, by go_num, by rw [← HR.out, HD.out, HE.out]⟩
        case measure => simp [intOf]; omega
    · have HE := Lib.hid (items_end (l := l) (k := k) (by have := HLEN.out; omega))
      go_wp2
      go_ret
      exact ⟨by rw [← HR.out, HE.out]; rfl, below_al _ _⟩
theorem mgreat_any (m : ByteArray) (A : Option Addr) (cap : Nat) (l : List Item) (w : World) (hI : Tlvs w A l) (hf : ∀ x ∈ l, x.2.size ≤ maxLen) :
    Calls Tryd.prog 7 #[.agg #[.string m, .slice A l.length cap]] w fun e w' => e = .returned (.bool (greatM m l)) ∧ Below w.heap.size w w' := by
  by_cases h : 100 < m.size
  · rw [greatM, decide_eq_true h, Bool.true_or, Bool.true_or]
    exact mgreat_m m A _ cap w h
  · by_cases h2 : 200 < l.length
    · rw [greatM, decide_eq_true h2, Bool.or_true, Bool.true_or]
      exact mgreat_n m A _ cap w h h2
    · rw [greatM, decide_eq_false h, decide_eq_false h2, Bool.false_or, Bool.false_or]
      exact mgreat_l m A cap l w hI hf h h2



set_option maxRecDepth 100000 in
set_option maxHeartbeats 1600000 in
theorem mplace_any (A : Option Addr) (cap : Nat) (l : List Item) (no : Int) (w : World) (hI : Tlvs w A l) (hn : l.length ≤ 1000) :
    Calls Tryd.prog 28 #[.slice A l.length cap, .int .i64 no] w fun e w' => e = .returned (.int .i64 ((plcL no 0 l : Nat) : Int)) ∧ Below w.heap.size w w' := by
  have HI := Lib.hid hI
  clear hI
  generalize hlen : l.length = len at *
  have HLEN := Lib.hid hlen
  clear hlen
  generalize hR : plcL no 0 l = R
  have HR0 := Lib.hid hR
  clear hR
  go_enter Tryd.func28, Tryd.ntmps28
  go_wp2
  go_loopw [9] (fun i wr => ∃ k : Nat, k ≤ len ∧ i = .int .i64 (k : Int) ∧ plcL no k (l.drop k) = R ∧ Below w.heap.size w wr) (fun i _ => len - (intOf i).toNat)
  case atStart => exact ⟨0, Nat.zero_le _, rfl, HR0.out, Below.refl _ _⟩
  case round =>
    obtain ⟨k, hk, rfl, hrest, hb⟩ := hrel
    have HR := Lib.hid hrest
    have HB := Lib.hid hb
    clear hrest hb
    by_cases hlt : k < len
    · have hkl : k < l.length := by have := HLEN.out; omega
      obtain ⟨a, n, s, rfl, hx, c0, c1⟩ := (HI.out.below HB.out).at_ hkl
      have HD := Lib.hid (drop_item hkl)
      rw [hx] at HD
      clear hx hkl
      by_cases hz : no < n
      · have tz : decide (no < n) = true := by simpa using hz
        have HE := Lib.hid (plc_hit (i := k) (x := (n, s)) (r := l.drop (k + 1)) hz)
        clear hz
        go_wp2
        go_ret
        exact ⟨by rw [← HR.out, HD.out, HE.out]; rfl, hbt HB.out (below_al _ _)⟩
      · have tz : decide (no < n) = false := by simpa using hz
        have HE := Lib.hid (plc_miss (i := k) (x := (n, s)) (r := l.drop (k + 1)) hz)
        clear hz
        go_wp2
        go_roundw
        case rel => exact ⟨k + 1, by omega, by go_num, by rw [← HR.out, HD.out, HE.out], hbt HB.out (below_al _ _)⟩
        case measure => simp [intOf]; omega
    · have HE := Lib.hid (items_end (l := l) (k := k) (by have := HLEN.out; omega))
      have hke : k = len := by omega
      subst hke
      go_wp2
      go_ret
      exact ⟨by rw [← HR.out, HE.out]; rfl, HB.out⟩

end Go.Proofs.YthheflgfbdcnlaaDoor
