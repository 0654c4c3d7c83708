/-
  What Check and the document's Check answer: for every list, in every world.
-/
import Derived.Test.YtelbndhdgnmfjaaCodSeen
import Derived.Test.YtelbndhdgnmfjaaCodRead
namespace Go.Proofs.Ytelbndhdgnmfjaa
open Go.RowKit Go.Maps

/-- What the sizes of a list's texts may be. -/
def Fit2 (l : List Duo) : Prop := ∀ x ∈ l, x.1.size ≤ maxLen ∧ x.2.size ≤ maxLen
theorem Fit2.at_ {l : List Duo} (h : Fit2 l) {k : Nat} (hk : k < l.length) : (duoAt l k).1.size ≤ maxLen ∧ (duoAt l k).2.size ≤ maxLen := by rw [duoAt_get hk]; exact h _ (List.getElem_mem hk)
theorem Fit2.turn {l : List Duo} (h : Fit2 l) : Fit2 (turnL l) := by
  intro x hx
  simp only [turnL, List.mem_map] at hx
  obtain ⟨y, hy, rfl⟩ := hx
  exact ⟨(h y hy).2, (h y hy).1⟩
theorem Fit2.rot {l : List Duo} (h : Fit2 l) (k : Nat) : Fit2 (rotL k l) := fun x hx => h x ((rot_perm k l).mem_iff.1 hx)

set_option maxRecDepth 100000 in
set_option maxHeartbeats 1600000 in
theorem ccheck_long (A : Option Addr) (cap n : Nat) (w : World) (hn : 256 < n) (hm : n ≤ maxLen) :
    Calls Try.prog 10 #[.slice A n cap] w fun e w' => e = .returned (.tuple #[.int .i64 5, .int .i64 256]) ∧ Below w.heap.size w w' := by
  unfold maxLen at hm
  have t : decide ((256 : Int) < (n : Int)) = true := by simp; omega
  clear hn
  go_enter Try.func10, Try.ntmps10
  go_wp2
  go_ret2
  exact ⟨rfl, Below.refl _ _⟩
set_option maxRecDepth 100000 in
set_option maxHeartbeats 3200000 in
theorem ccheck_short (A : Option Addr) (cap : Nat) (l : List Duo) (w : World) (hI : Prs w A l) (hn : l.length ≤ 256) (hf : Fit2 l) :
    Calls Try.prog 10 #[.slice A l.length cap] w fun e w' => e = .returned (.tuple #[.int .i64 ((tabN l).1 : Int), .int .i64 ((tabN l).2 : Int)]) ∧ Below w.heap.size w w' := by
  have hmm := @run_makeMap Try.prog
  have HI := Lib.hid hI
  have HF := Lib.hid hf
  have HN := Lib.hid hn
  have t : decide ((256 : Int) < (l.length : Int)) = false := by simp; omega
  have hn' : (l.length : Int) < 1000 := by omega
  clear hI hf hn
  generalize hlen : l.length = len at *
  have HLEN := Lib.hid hlen
  clear hlen
  go_enter Try.func10, Try.ntmps10
  go_wp2
  clear t
  go_loopw [13] (fun i wr => ∃ k : Nat, k ≤ len ∧ i = .int .i64 (k : Int) ∧ (∀ j, j < k → (duoAt l j).1 ∉ froms (l.take j)) ∧ Ahead wr w.heap.size (froms (l.take k)) ∧ Below w.heap.size w wr) (fun i _ => len - (intOf i).toNat)
  case atStart => exact ⟨0, Nat.zero_le _, rfl, fun j hj => by omega, ahead_new w, below_al _ _⟩
  case round =>
    obtain ⟨k, hk, rfl, hno, hseen, hb⟩ := hrel
    have HNO := Lib.hid hno
    have HB := Lib.hid hb
    have HS := Lib.hid hseen
    clear hno hb hseen
    by_cases hlt : k < len
    · have hkl : k < l.length := by have := HLEN.out; omega
      obtain ⟨a, s, v, rfl, hx, hc, hd⟩ := (HI.out.below HB.out).at_ hkl
      have hfk := HF.out.at_ hkl
      have HTS := Lib.hid (froms_step hkl)
      have HTL := Lib.hid (froms_take_len (l := l) (k := k) (by omega))
      have HBD := Lib.hid (fun h => tab_bad (l := l) (k := k) (by rw [HLEN.out]; exact HN.out) hkl HNO.out h)
      rw [hx] at hfk HTS HBD
      dsimp only at hfk HTS HBD
      have HX := Lib.hid hx
      have HZ := Lib.hid hfk.1
      clear hx hfk hkl
      have HS1 := Lib.hid (HS.out.below (below_al wr (.cells #[.string s, .string v] 40)))
      have hlk := ahead_look HS1.out HZ.out
      by_cases hm : s ∈ froms (l.take k)
      · rw [memB_yes hm] at hlk
        have HE := Lib.hid (HBD.out hm)
        clear hm
        go_wp2
        go_ret2
        exact ⟨by rw [HE.out]; rfl, hbt HB.out (below_al _ _)⟩
      · have HM := Lib.hid hm
        rw [memB_no hm] at hlk
        clear hm
        obtain ⟨w3, hrun, hS3, hg3⟩ := ahead_put HS1.out HZ.out (by have := HTL.out; omega)
        have HS3 := Lib.hid hS3
        have HB3 := Lib.hid ((hbt HB.out (below_al wr (.cells #[.string s, .string v] 40))).grown hg3 (hbt HB.out (below_al wr _)).size (fun q hq => by cases hq; exact Nat.le_refl _))
        clear hS3 hg3
        go_wp2
        go_roundw
        case rel =>
          refine ⟨k + 1, by omega, by go_num, fun j hj => ?_, by rw [HTS.out]; exact HS3.out, HB3.out⟩
          rcases Nat.lt_or_ge j k with h | h
          · exact HNO.out j h
          · obtain rfl : j = k := by omega
            rw [HX.out]; exact HM.out
        case measure => simp [intOf]; omega
    · have HC := Lib.hid (tab_ok (l := l) (by rw [HLEN.out]; exact HN.out) (fun j hj => HNO.out j (by have := HLEN.out; omega)))
      go_wp2
      go_ret2
      exact ⟨by rw [HC.out]; rfl, HB.out⟩
theorem ccheck_any (A : Option Addr) (cap : Nat) (l : List Duo) (w : World) (hI : Prs w A l) (hm : l.length ≤ maxLen) (hf : Fit2 l) :
    Calls Try.prog 10 #[.slice A l.length cap] w fun e w' => e = .returned (.tuple #[.int .i64 ((tabN l).1 : Int), .int .i64 ((tabN l).2 : Int)]) ∧ Below w.heap.size w w' := by
  by_cases h : 256 < l.length
  · rw [tab_great h]; exact ccheck_long A cap _ w h hm
  · exact ccheck_short A cap l w hI (by omega) hf
set_option maxRecDepth 100000 in
set_option maxHeartbeats 1600000 in
theorem crcheck_long (A : Option Addr) (cap n : Nat) (w : World) (hn : 256 < n) (hm : n ≤ maxLen) :
    Calls Try.prog 12 #[.slice A n cap] w fun e w' => e = .returned (.tuple #[.int .i64 5, .int .i64 256]) ∧ w = w' := by
  unfold maxLen at hm
  have t : decide ((256 : Int) < (n : Int)) = true := by simp; omega
  clear hn
  go_enter Try.func12, Try.ntmps12
  go_wp2
  go_ret2
  exact ⟨rfl, rfl⟩
set_option maxRecDepth 100000 in
set_option maxHeartbeats 3200000 in
theorem crcheck_short (A : Option Addr) (cap : Nat) (l : List Duo) (w : World) (hI : Prs w A l) (hn : l.length ≤ 256) :
    Calls Try.prog 12 #[.slice A l.length cap] w fun e w' => e = .returned (.tuple #[.int .i64 ((tabN l).1 : Int), .int .i64 ((tabN l).2 : Int)]) ∧ w = w' := by
  have HI := Lib.hid hI
  have HN := Lib.hid hn
  have HH := Lib.hid (fun (k : Nat) (t : ByteArray) (h : k ≤ l.length) => cfind_any A cap l k t w hI h (by omega))
  have t : decide ((256 : Int) < (l.length : Int)) = false := by simp; omega
  have hn' : (l.length : Int) < 1000 := by omega
  clear hI hn
  generalize hlen : l.length = len at *
  have HLEN := Lib.hid hlen
  clear hlen
  go_enter Try.func12, Try.ntmps12
  go_wp2
  clear t
  go_loop [4] (fun i => ∃ k : Nat, k ≤ len ∧ i = .int .i64 (k : Int) ∧ (∀ j, j < k → (duoAt l j).1 ∉ froms (l.take j))) (fun i => len - (intOf i).toNat)
  case atStart => exact ⟨0, Nat.zero_le _, rfl, fun j hj => by omega⟩
  case round =>
    obtain ⟨k, hk, rfl, hno⟩ := hrel
    have HNO := Lib.hid hno
    clear hno
    by_cases hlt : k < len
    · have hkl : k < l.length := by have := HLEN.out; omega
      obtain ⟨a, s, v, rfl, hx, hc, hd⟩ := HI.out.at_ hkl
      have HBD := Lib.hid (fun h => tab_bad (l := l) (k := k) (by rw [HLEN.out]; exact HN.out) hkl HNO.out h)
      rw [hx] at HBD
      dsimp only at HBD
      have HX := Lib.hid hx
      have HC := Lib.hid (HH.out k s (by omega))
      clear hx hkl
      by_cases hm : s ∈ froms (l.take k)
      · have HE := Lib.hid (HBD.out hm)
        have hj := fstJ_ahead.2 hm
        clear hm
        generalize fstJ (l.take k) s = q at *
        have hq : decide ((0 : Int) ≤ q) = true := by simpa using hj
        clear hj
        go_wp2_with fail
        refine HC.out.mono ?_
        rintro e w1 ⟨rfl, rfl⟩
        go_wp2
        go_ret2
        exact ⟨by rw [HE.out]; rfl, rfl⟩
      · have HM := Lib.hid hm
        have hj : ¬ 0 ≤ fstJ (l.take k) s := fun h => hm (fstJ_ahead.1 h)
        clear hm
        generalize fstJ (l.take k) s = q at *
        have hq : decide ((0 : Int) ≤ q) = false := by simpa using hj
        clear hj
        go_wp2_with fail
        refine HC.out.mono ?_
        rintro e w1 ⟨rfl, rfl⟩
        go_wp2
        go_round
        case rel =>
          refine ⟨k + 1, by omega, by go_num, fun j hj => ?_⟩
          rcases Nat.lt_or_ge j k with h | h
          · exact HNO.out j h
          · obtain rfl : j = k := by omega
            rw [HX.out]; exact HM.out
        case measure => simp [intOf]; omega
    · have HC := Lib.hid (tab_ok (l := l) (by rw [HLEN.out]; exact HN.out) (fun j hj => HNO.out j (by have := HLEN.out; omega)))
      go_wp2
      go_ret2
      exact ⟨by rw [HC.out]; rfl, rfl⟩
theorem crcheck_any (A : Option Addr) (cap : Nat) (l : List Duo) (w : World) (hI : Prs w A l) (hm : l.length ≤ maxLen) :
    Calls Try.prog 12 #[.slice A l.length cap] w fun e w' => e = .returned (.tuple #[.int .i64 ((tabN l).1 : Int), .int .i64 ((tabN l).2 : Int)]) ∧ w = w' := by
  by_cases h : 256 < l.length
  · rw [tab_great h]; exact crcheck_long A cap _ w h hm
  · exact crcheck_short A cap l w hI (by omega)

end Go.Proofs.Ytelbndhdgnmfjaa
