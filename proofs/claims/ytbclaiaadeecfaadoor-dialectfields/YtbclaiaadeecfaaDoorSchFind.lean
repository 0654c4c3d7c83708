/-
  What Find and the document's Find answer: for every schema of up to 1000 specs and every number, in every world.
-/
import Derived.Test.YtbclaiaadeecfaaDoorSchOf
namespace Go.Proofs.YtbclaiaadeecfaaDoor
open Go.RowKit

/-- Room for a spec in a block. -/
def Room5 (u : World) (g : Nat) : Prop := u.heap[g]? = some (.cells #[.int .i64 0, .int .i64 0, .int .i64 0, .int .i64 0, .int .i64 0] 28)
theorem Room5.below {u u' : World} {g : Nat} (h : Room5 u g) (hb : Below u.heap.size u u') : Room5 u' g := obj_below h hb

set_option maxHeartbeats 3200000 in
theorem sfind_any (st v : Int) (A : Option Addr) (cap : Nat) (l : List Sp) (no : Int) (w : World) (hI : Spl w A l) (hn : l.length ≤ 1000) :
    Calls Tryd.prog 8 #[.agg #[.int .i64 st, .int .i64 v, .slice A l.length cap], .int .i64 no] w fun e w' => e = .returned (.tuple #[spV (fndP no l).1, .bool (fndP no l).2]) ∧ Below w.heap.size w w' := by
  have HI := Lib.hid hI
  clear hI
  generalize hlen : l.length = len at *
  have HLEN := Lib.hid hlen
  clear hlen
  generalize hR : fndP no l = R
  have HR0 := Lib.hid hR
  clear hR
  go_enter Tryd.func8, Tryd.ntmps8
  go_wp2
  go_loopw [11] (fun i wr => ∃ k : Nat, k ≤ len ∧ i = .int .i64 (k : Int) ∧ fndP no (l.drop k) = R ∧ Room5 wr (w.heap.size + 1) ∧ Below w.heap.size w wr) (fun i _ => len - (intOf i).toNat)
  case atStart => exact ⟨0, Nat.zero_le _, rfl, HR0.out, heap_al _ _ _ (by simp), hbt (below_al _ _) (below_al _ _)⟩
  case round =>
    obtain ⟨k, hk, rfl, hrest, hroom, hb⟩ := hrel
    have HR := Lib.hid hrest
    have HB := Lib.hid hb
    have HM := Lib.hid hroom
    clear hrest hb hroom
    by_cases hlt : k < len
    · have hkl : k < l.length := by have := HLEN.out; omega
      obtain ⟨a, n, c, f, lo, hi, rfl, hx, c0, c1, c2, c3, c4⟩ := (HI.out.below HB.out).at_ hkl
      have HD := Lib.hid (drop_sp hkl)
      rw [hx] at HD
      clear hx hkl
      by_cases hz : n = no
      · have tz : (n == no) = true := by simpa using hz
        have HE := Lib.hid (fndP_hit (x := (n, c, f, lo, hi)) (r := l.drop (k + 1)) hz)
        obtain ⟨g0, g1, g2, g3, g4⟩ := obj_warm5 HM.out
        obtain ⟨e0, e1, e2, e3, e4⟩ := obj_cells5 HM.out
        have hsz := obj_lt HM.out
        clear hz
        go_wp2
        refine bodyPost_ret (results_cell_row1 rfl _ _ (w.heap.size + 1) _ _ _ _ rfl ((heap_alloc_old' _ _ _ (by simp; omega)).trans (obj_set5 HM.out _ _ _ _ _)) Tryd.underlying28 rfl (by kernel_rfl)) rfl ?_
        exact ⟨by rw [← HR.out, HD.out, HE.out]; rfl, hbt (below_set5 HB.out (by omega) _ _ _ _ _) (below_al _ _)⟩
      · have tz : (n == no) = false := by simpa using hz
        have HE := Lib.hid (fndP_miss (x := (n, c, f, lo, hi)) (r := l.drop (k + 1)) hz)
        clear hz
        go_wp2
        go_roundw
        case rel => exact ⟨k + 1, by omega, by go_num, by rw [← HR.out, HD.out, HE.out], HM.out.below (below_al _ _), hbt HB.out (below_al _ _)⟩
        case measure => simp [intOf]; omega
    · have HE := Lib.hid (drop_end (l := l) (k := k) (by have := HLEN.out; omega))
      obtain ⟨g0, g1, g2, g3, g4⟩ := obj_warm5 HM.out
      obtain ⟨e0, e1, e2, e3, e4⟩ := obj_cells5 HM.out
      go_wp2
      refine bodyPost_ret (results_cell_row1 rfl _ _ (w.heap.size + 1) _ _ _ _ rfl (obj_set5 HM.out _ _ _ _ _) Tryd.underlying28 rfl (by kernel_rfl)) rfl ?_
      exact ⟨by rw [← HR.out, HE.out]; rfl, below_set5 HB.out (by omega) _ _ _ _ _⟩

set_option maxHeartbeats 1600000 in
theorem sreffind_any (st v : Int) (A : Option Addr) (cap : Nat) (l : List Sp) (no : Int) (w : World) (hI : Spl w A l) (hn : l.length ≤ 1000) :
    Calls Tryd.prog 9 #[.agg #[.int .i64 st, .int .i64 v, .slice A l.length cap], .int .i64 no] w fun e w' => e = .returned (.int .i64 (fndI no 0 l)) ∧ Below w.heap.size w w' := by
  have HI := Lib.hid (hI.below (below_al w (.cells #[.int .i64 st, .int .i64 v, .slice A l.length cap] 24)))
  clear hI
  generalize hlen : l.length = len at *
  have HLEN := Lib.hid hlen
  clear hlen
  generalize hR : fndI no 0 l = R
  have HR0 := Lib.hid hR
  clear hR
  go_enter Tryd.func9, Tryd.ntmps9
  go_wp2
  go_loop [5] (fun i => ∃ k : Nat, k ≤ len ∧ i = .int .i64 (k : Int) ∧ fndI no k (l.drop k) = R) (fun i => len - (intOf i).toNat)
  case atStart => exact ⟨0, Nat.zero_le _, rfl, HR0.out⟩
  case round =>
    obtain ⟨k, hk, rfl, hrest⟩ := hrel
    have HR := Lib.hid hrest
    clear hrest
    by_cases hlt : k < len
    · have hkl : k < l.length := by have := HLEN.out; omega
      obtain ⟨a, n, c, f, lo, hi, rfl, hx, c0, c1, c2, c3, c4⟩ := HI.out.at_ hkl
      have HD := Lib.hid (drop_sp hkl)
      rw [hx] at HD
      clear hx hkl
      by_cases hz : n = no
      · have tz : (n == no) = true := by simpa using hz
        have HE := Lib.hid (fndI_hit (i := k) (x := (n, c, f, lo, hi)) (r := l.drop (k + 1)) hz)
        clear hz
        go_wp2
        go_ret
        exact ⟨by rw [← HR.out, HD.out, HE.out]; rfl, below_al _ _⟩
      · have tz : (n == no) = false := by simpa using hz
        have HE := Lib.hid (fndI_miss (i := k) (x := (n, c, f, lo, hi)) (r := l.drop (k + 1)) hz)
        clear hz
        go_wp2
        go_round
        case rel => exact ⟨k + 1, by omega, by go_num, by rw [← HR.out, HD.out, HE.out]⟩
        case measure => simp [intOf]; omega
    · have HE := Lib.hid (drop_end (l := l) (k := k) (by have := HLEN.out; omega))
      go_wp2
      go_ret
      exact ⟨by rw [← HR.out, HE.out]; rfl, below_al _ _⟩

end Go.Proofs.YtbclaiaadeecfaaDoor
