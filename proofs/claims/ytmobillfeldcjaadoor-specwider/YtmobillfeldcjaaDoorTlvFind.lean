/-
  What Find, great, has and Same answer: for every list, in every world.
-/
import Derived.Test.YtmobillfeldcjaaDoorTlvOf
import Derived.BigQuiet
import Derived.Deep.RegionWith
namespace Go.Proofs.YtmobillfeldcjaaDoor
open Go.RowKit


set_option maxHeartbeats 1600000 in
theorem tlvhas_any (A : Option Addr) (cap : Nat) (l : List Item) (n : Nat) (t : Int) (w : World) (hI : Tlvs w A l) (hn : n ≤ l.length) (hl : l.length ≤ 5000000) :
    Calls Tryd.prog 29 #[.slice A l.length cap, .int .i64 (n : Int), .int .i64 t] w fun e w' => e = .returned (.bool (hasB l n t)) ∧ w = w' := by
  have HI := Lib.hid hI
  clear hI
  generalize hlen : l.length = len at *
  have HLEN := Lib.hid hlen
  clear hlen
  go_enter Tryd.func29, Tryd.ntmps29
  go_wp2
  go_loop [7] (fun i => ∃ k : Nat, k ≤ n ∧ i = .int .i64 (k : Int) ∧ (∀ j, j < k → (itemAt l j).1 ≠ t)) (fun i => n - (intOf i).toNat)
  case atStart => exact ⟨0, Nat.zero_le _, rfl, fun j hj => by omega⟩
  case round =>
    obtain ⟨k, hk, rfl, hno⟩ := hrel
    have HNO := Lib.hid hno
    clear hno
    by_cases hlt : k < n
    · obtain ⟨a, rfl, hc, hd⟩ := HI.out k (by have := HLEN.out; omega)
      have hkl : k < len := by omega
      generalize hx : itemAt l k = x at *
      have HX := Lib.hid hx
      clear hx
      obtain ⟨z, s⟩ := x
      dsimp only at hc hd
      by_cases hzt : z = t
      · have HF := Lib.hid (has_hit (l := l) (by rw [HLEN.out]; exact hn) hlt (by rw [HX.out]))
        subst hzt
        go_wp2
        go_ret
        exact ⟨by rw [HF.out]; rfl, rfl⟩
      · have hzt' : (z == t) = false := by simpa using hzt
        go_wp2
        go_round
        case rel =>
          refine ⟨k + 1, by omega, by go_num, fun j hj => ?_⟩
          rcases Nat.lt_or_ge j k with h | h
          · exact HNO.out j h
          · obtain rfl : j = k := by omega
            rw [HX.out]; exact hzt
        case measure => simp [intOf]; omega
    · have HF := Lib.hid (has_miss (l := l) (n := n) (by rw [HLEN.out]; exact hn) (fun j hj => HNO.out j (by omega)))
      go_wp2
      go_ret
      exact ⟨by rw [HF.out]; rfl, rfl⟩

end Go.Proofs.YtmobillfeldcjaaDoor
