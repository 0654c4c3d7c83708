/-
  What Apply and great, and the document's find, Apply and Same answer: for every list, in every world.
-/
import Derived.Test.YtelbndhdgnmfjaaCodOf
import Derived.BigQuiet
import Derived.Deep.RegionWith
namespace Go.Proofs.Ytelbndhdgnmfjaa
open Go.RowKit

set_option maxRecDepth 100000 in
set_option maxHeartbeats 1600000 in
theorem capply_any (A : Option Addr) (cap : Nat) (l : List Duo) (t : ByteArray) (w : World) (hI : Prs w A l) (hn : l.length ≤ 5000000) :
    Calls Try.prog 15 #[.slice A l.length cap, .string t] w fun e w' => e = .returned (.tuple #[.string (appS l t), .bool (appB l t)]) ∧ Below w.heap.size w w' := by
  have HI := Lib.hid hI
  clear hI
  generalize hlen : l.length = len at *
  have HLEN := Lib.hid hlen
  clear hlen
  go_enter Try.func15, Try.ntmps15
  go_wp2
  go_loopw [10] (fun i wr => ∃ k : Nat, k ≤ len ∧ i = .int .i64 (k : Int) ∧ (∀ j, j < k → (duoAt l j).1 ≠ t) ∧ Below w.heap.size w wr) (fun i _ => len - (intOf i).toNat)
  case atStart => exact ⟨0, Nat.zero_le _, rfl, fun j hj => by omega, Below.refl _ _⟩
  case round =>
    obtain ⟨k, hk, rfl, hno, hb⟩ := hrel
    have HNO := Lib.hid hno
    have HB := Lib.hid hb
    clear hno hb
    by_cases hlt : k < len
    · obtain ⟨a, s, v, rfl, hx, hc, hd⟩ := (HI.out.below HB.out).at_ (i := k) (by have := HLEN.out; omega)
      have HX := Lib.hid hx
      clear hx
      by_cases hst : s = t
      · subst hst
        have HF := Lib.hid (app_hit (by have := HLEN.out; omega) HNO.out (by rw [HX.out]))
        rw [HX.out] at HF
        dsimp only at HF
        go_wp2
        go_ret2
        exact ⟨by rw [HF.out.1, HF.out.2]; rfl, hbt HB.out (below_al _ _)⟩
      · have hzt := duo_ne hst
        have HST := Lib.hid hst
        clear hst
        go_wp2
        go_roundw
        case rel =>
          refine ⟨k + 1, by omega, by go_num, fun j hj => ?_, hbt HB.out (below_al _ _)⟩
          rcases Nat.lt_or_ge j k with h | h
          · exact HNO.out j h
          · obtain rfl : j = k := by omega
            rw [HX.out]; exact HST.out
        case measure => simp [intOf]; omega
    · have HF := Lib.hid (app_miss (l := l) (t := t) (fun j hj => HNO.out j (by have := HLEN.out; omega)))
      go_wp2
      go_ret2
      exact ⟨by rw [HF.out.1, HF.out.2]; rfl, HB.out⟩

set_option maxRecDepth 100000 in
set_option maxHeartbeats 1600000 in
theorem cfind_any (A : Option Addr) (cap : Nat) (l : List Duo) (n : Nat) (t : ByteArray) (w : World) (hI : Prs w A l) (hn : n ≤ l.length) (hl : l.length ≤ 5000000) :
    Calls Try.prog 20 #[.slice A l.length cap, .int .i64 (n : Int), .string t] w fun e w' => e = .returned (.int .i64 (fstJ (l.take n) t)) ∧ w = w' := by
  have HI := Lib.hid hI
  clear hI
  generalize hlen : l.length = len at *
  have HLEN := Lib.hid hlen
  clear hlen
  go_enter Try.func20, Try.ntmps20
  go_wp2
  go_loop [7] (fun i => ∃ k : Nat, k ≤ n ∧ i = .int .i64 (k : Int) ∧ (∀ j, j < k → (duoAt l j).1 ≠ t)) (fun i => n - (intOf i).toNat)
  case atStart => exact ⟨0, Nat.zero_le _, rfl, fun j hj => by omega⟩
  case round =>
    obtain ⟨k, hk, rfl, hno⟩ := hrel
    have HNO := Lib.hid hno
    clear hno
    by_cases hlt : k < n
    · obtain ⟨a, s, v, rfl, hx, hc, hd⟩ := HI.out.at_ (i := k) (by have := HLEN.out; omega)
      have hkl : k < len := by omega
      have HX := Lib.hid hx
      clear hx
      by_cases hst : s = t
      · have HF := Lib.hid (fstJ_hit (l := l) (by rw [HLEN.out]; exact hn) hlt HNO.out (by rw [HX.out]; exact hst))
        subst hst
        go_wp2
        go_ret
        exact ⟨by rw [HF.out]; rfl, rfl⟩
      · have hzt := duo_ne hst
        have HST := Lib.hid hst
        clear hst
        go_wp2
        go_round
        case rel =>
          refine ⟨k + 1, by omega, by go_num, fun j hj => ?_⟩
          rcases Nat.lt_or_ge j k with h | h
          · exact HNO.out j h
          · obtain rfl : j = k := by omega
            rw [HX.out]; exact HST.out
        case measure => simp [intOf]; omega
    · have HF := Lib.hid (fstJ_miss (l := l) (t := t) (n := n) (by rw [HLEN.out]; exact hn) (fun j hj => HNO.out j (by omega)))
      go_wp2
      go_ret
      exact ⟨by rw [HF.out]; rfl, rfl⟩

theorem fstJ_cases (l : List Duo) (t : ByteArray) : (fstJ l t = -1 ∧ appS l t = ⟨#[]⟩ ∧ appB l t = false) ∨ ∃ k : Nat, k < l.length ∧ fstJ l t = (k : Int) ∧ appS l t = (duoAt l k).2 ∧ appB l t = true := by
  unfold fstJ appS appB
  cases h : fstI l t
  · exact Or.inl ⟨rfl, rfl, rfl⟩
  · rename_i k
    exact Or.inr ⟨k, (fst_some h).1, rfl, rfl, rfl⟩
set_option maxRecDepth 100000 in
set_option maxHeartbeats 1600000 in
theorem crapply_any (A : Option Addr) (cap : Nat) (l : List Duo) (t : ByteArray) (w : World) (hI : Prs w A l) (hl : l.length ≤ 5000000) :
    Calls Try.prog 16 #[.slice A l.length cap, .string t] w fun e w' => e = .returned (.tuple #[.string (appS l t), .bool (appB l t)]) ∧ w = w' := by
  have HF := Lib.hid (cfind_any A cap l l.length t w hI (Nat.le_refl _) hl)
  rw [List.take_of_length_le (Nat.le_refl _)] at HF
  rcases fstJ_cases l t with ⟨h1, h2, h3⟩ | ⟨k, hk, h1, h2, h3⟩
  · rw [h1] at HF
    rw [h2, h3]
    clear h1 h2 h3
    generalize l.length = len at *
    go_enter Try.func16, Try.ntmps16
    go_wp2_with fail
    refine HF.out.mono ?_
    rintro e w1 ⟨rfl, rfl⟩
    go_wp2
    go_ret2
    exact ⟨rfl, rfl⟩
  · rw [h1] at HF
    rw [h2, h3]
    obtain ⟨a, s, v, rfl, hx, hc, hd⟩ := hI.at_ hk
    rw [hx]
    clear h1 h2 h3 hx
    have hlt : ¬ (k : Int) < 0 := by omega
    generalize l.length = len at *
    go_enter Try.func16, Try.ntmps16
    go_wp2_with fail
    refine HF.out.mono ?_
    rintro e w1 ⟨rfl, rfl⟩
    go_wp2
    go_ret2
    exact ⟨rfl, rfl⟩
set_option maxRecDepth 100000 in
set_option maxHeartbeats 1600000 in
theorem cgreat_long (A : Option Addr) (cap n : Nat) (w : World) (hn : 400 < n) (hm : n ≤ maxLen) : Calls Try.prog 9 #[.slice A n cap] w fun e w' => e = .returned (.bool true) ∧ Below w.heap.size w w' := by
  unfold maxLen at hm
  go_enter Try.func9, Try.ntmps9
  go_wp2
  go_ret
  exact ⟨rfl, Below.refl _ _⟩
set_option maxRecDepth 100000 in
set_option maxHeartbeats 1600000 in
theorem cgreat_short (A : Option Addr) (cap : Nat) (l : List Duo) (w : World) (hI : Prs w A l) (hn : l.length ≤ 400) (hz : ∀ x ∈ l, x.1.size ≤ maxLen ∧ x.2.size ≤ maxLen) : Calls Try.prog 9 #[.slice A l.length cap] w fun e w' => e = .returned (.bool (cgreatB l)) ∧ Below w.heap.size w w' := by
  have HI := Lib.hid hI
  have HZ : Hid (∀ k, k < l.length → (duoAt l k).1.size ≤ maxLen ∧ (duoAt l k).2.size ≤ maxLen) := fun k hk => by rw [duoAt_get hk]; exact hz _ (List.getElem_mem hk)
  clear hI hz
  generalize hlen : l.length = len at *
  have HLEN := Lib.hid hlen
  clear hlen
  go_enter Try.func9, Try.ntmps9
  go_wp2
  go_loopw [10] (fun i wr => ∃ k : Nat, k ≤ len ∧ i = .int .i64 (k : Int) ∧ (∀ j, j < k → (duoAt l j).1.size ≤ 1000 ∧ (duoAt l j).2.size ≤ 1000) ∧ Below w.heap.size w wr) (fun i _ => len - (intOf i).toNat)
  case atStart => exact ⟨0, Nat.zero_le _, rfl, fun j hj => by omega, Below.refl _ _⟩
  case round =>
    obtain ⟨k, hk, rfl, hno, hb⟩ := hrel
    have HNO := Lib.hid hno
    have HB := Lib.hid hb
    clear hno hb
    by_cases hlt : k < len
    · obtain ⟨a, s, v, rfl, hx, hc, hd⟩ := (HI.out.below HB.out).at_ (i := k) (by have := HLEN.out; omega)
      have hz := HZ.out k hlt
      rw [hx] at hz
      have hz1 : s.size ≤ maxLen := hz.1
      have hz2 : v.size ≤ maxLen := hz.2
      unfold maxLen at hz1 hz2
      have HX := Lib.hid hx
      clear hx hz
      by_cases h1 : 1000 < s.size
      · have HF := Lib.hid (cgreat_hit (l := l) (k := k) (by have := HLEN.out; omega) (by rw [HX.out]; exact Or.inl h1))
        go_wp2
        go_ret
        exact ⟨by rw [HF.out]; rfl, hbt HB.out (below_al _ _)⟩
      · by_cases h2 : 1000 < v.size
        · have HF := Lib.hid (cgreat_hit (l := l) (k := k) (by have := HLEN.out; omega) (by rw [HX.out]; exact Or.inr h2))
          go_wp2
          go_ret
          exact ⟨by rw [HF.out]; rfl, hbt HB.out (below_al _ _)⟩
        · go_wp2
          go_roundw
          case rel =>
            refine ⟨k + 1, by omega, by go_num, fun j hj => ?_, hbt HB.out (below_al _ _)⟩
            rcases Nat.lt_or_ge j k with h | h
            · exact HNO.out j h
            · obtain rfl : j = k := by omega
              rw [HX.out]; exact ⟨Nat.le_of_not_lt h1, Nat.le_of_not_lt h2⟩
          case measure => simp [intOf]; omega
    · have HF := Lib.hid (cgreat_miss (l := l) (by rw [HLEN.out]; exact hn) (fun j hj => HNO.out j (by have := HLEN.out; omega)))
      go_wp2
      go_ret
      exact ⟨by rw [HF.out]; rfl, HB.out⟩
theorem cgreat_any (A : Option Addr) (cap : Nat) (l : List Duo) (w : World) (hI : Prs w A l) (hm : l.length ≤ maxLen) (hz : ∀ x ∈ l, x.1.size ≤ maxLen ∧ x.2.size ≤ maxLen) : Calls Try.prog 9 #[.slice A l.length cap] w fun e w' => e = .returned (.bool (cgreatB l)) ∧ Below w.heap.size w w' := by
  by_cases h : 400 < l.length
  · rw [cgreat_far h]; exact cgreat_long A cap _ w h hm
  · exact cgreat_short A cap l w hI (by omega) hz
set_option maxRecDepth 100000 in
set_option maxHeartbeats 1600000 in
theorem csame_yes (A B : Option Addr) (ca cb : Nat) (l : List Duo) (w : World) (hA : Prs w A l) (hB : Prs w B l) (hl : l.length ≤ 5000000) :
    Calls Try.prog 18 #[.slice A l.length ca, .slice B l.length cb] w fun e w' => e = .returned (.bool true) ∧ Below w.heap.size w w' := by
  have HA := Lib.hid hA
  have HB := Lib.hid hB
  clear hA hB
  generalize hlen : l.length = len at *
  have HLEN := Lib.hid hlen
  clear hlen
  go_enter Try.func18, Try.ntmps18
  go_wp2
  go_loopw [5] (fun i wr => ∃ k : Nat, k ≤ len ∧ i = .int .i64 (k : Int) ∧ Below w.heap.size w wr) (fun i _ => len - (intOf i).toNat)
  case atStart => exact ⟨0, Nat.zero_le _, rfl, Below.refl _ _⟩
  case round =>
    obtain ⟨k, hk, rfl, hb⟩ := hrel
    have HW := Lib.hid hb
    clear hb
    by_cases hlt : k < len
    · obtain ⟨a, rfl, hc, hd⟩ := HA.out.below HW.out k (by have := HLEN.out; omega)
      obtain ⟨b, rfl, he, hf⟩ := HB.out.below HW.out k (by have := HLEN.out; omega)
      generalize duoAt l k = x at *
      obtain ⟨s, v⟩ := x
      dsimp only at hc hd he hf
      go_wp2_with fail
      go_quiet (fail)
      go_wp2
      go_roundw
      case rel => exact ⟨k + 1, by omega, by go_num, hbt HW.out (below_drewN _ _)⟩
      case measure => simp [intOf]; omega
    · go_wp2
      go_ret
      exact ⟨rfl, HW.out⟩

end Go.Proofs.Ytelbndhdgnmfjaa
