/-
  What the document's bytes of a list are: for every list, in every world.
-/
import Derived.Test.YtdnckiaeeikbhaaBmpMath
import Derived.Test.YtdnckiaeeikbhaaFldRefs
import Derived.Test.YtdnckiaeeikbhaaHexRefPut
import Derived.IntWalk
namespace Go.Proofs.Ytdnckiaeeikbhaa
open Go.RowKit

theorem acc_byte (p : Nat → Bool) (b k : Nat) (hk : k < 8) : ∃ y : Nat, accN p b k = y ∧ y < 128 ∧ accN p b (k + 1) = y * 2 + (if p (b + k + 1) = true then 1 else 0) := by
  refine ⟨accN p b k, rfl, ?_, rfl⟩
  have h1 := accN_lt p b k
  have h2 : 2 ^ k ≤ 2 ^ 7 := Nat.pow_le_pow_right (by omega) (by omega)
  omega
theorem acc_u8 (p : Nat → Bool) (b : Nat) : xb (UInt8.ofNat (accN p b 8)) = .int .u8 (accN p b 8 : Int) := by
  have h := accN_lt p b 8
  unfold xb
  rw [UInt8.toNat_ofNat', Nat.mod_eq_of_lt (by omega)]

set_option maxRecDepth 100000 in
set_option maxHeartbeats 3200000 in
theorem bytes_any (A : Option Addr) (cap : Nat) (zs : List Int) (b : Nat) (w : World) (hI : Ints w A zs) (hz : zs.length ≤ 1000) (hb : b ≤ 1000) :
    Calls Try.prog 24 #[.slice A zs.length cap, .int .i64 ((b + 1 : Nat) : Int)] w fun e w' => e = .returned (.string ⟨(bytesL (inL zs) b 8).toArray⟩) ∧ Below w.heap.size w w' := by
  obtain ⟨i0, hi, hz0, hz1, hz2⟩ := info_parts Try.infoX8
  have HI : Hid (∀ (n : Nat) (W : World), Below w.heap.size w W → Calls Try.prog 23 #[.slice A zs.length cap, .int .i64 (n : Int)] W fun e w' => e = .returned (.bool (inL zs n)) ∧ W = w') := fun n W hW => refIn_any A cap zs (n : Int) W (hI.below hW) hz
  clear hI
  generalize inL zs = p at *
  generalize zs.length = len at *
  have HO : Hid ((w.alloc (.cells #[] 5)).ownsRow w.heap.size 5 1 (.slice (some ⟨w.heap.size, 0, none⟩) 0 0) 0 []) := World.ownsRow_lit w #[] 0 (Nat.le_refl _) (by unfold maxLen; omega) rfl
  obtain ⟨b1, hb1⟩ : ∃ b1, b1 = b + 1 := ⟨_, rfl⟩
  rw [← hb1]
  have HB1 := Lib.hid hb1
  have hbb : b1 ≤ 1001 := by omega
  clear hb1 hb hz
  go_enter Try.func24, Try.ntmps24
  go_wp2
  go_loopw [5, 6, 7, 8] (fun v i _ _ wr => ∃ k cap g : Nat, k ≤ 8 ∧ i = .int .i64 (k : Int) ∧ v = .slice (some ⟨g, 0, none⟩) k cap ∧ wr.ownsRow w.heap.size 5 1 (.slice (some ⟨g, 0, none⟩) k cap) k ((bytesL p b k).map xb) ∧ Below w.heap.size w wr) (fun _ i _ _ _ => 8 - (intOf i).toNat)
  case atStart => exact ⟨0, 0, w.heap.size, Nat.zero_le _, rfl, rfl, HO.out, below_al _ _⟩
  case round =>
    obtain ⟨k, cp, g, hk, rfl, rfl, hown, hb⟩ := hrel
    have HW := Lib.hid hown
    have HB := Lib.hid hb
    clear hown hb
    by_cases hlt : k < 8
    · have hd : decide ((k : Int) < 8) = true := by simp; omega
      have HLT := Lib.hid hlt
      clear HO hlt
      go_wp2
      clear hd
      go_loop [7, 8] (fun y j => ∃ m : Nat, m ≤ 8 ∧ j = .int .i64 (m : Int) ∧ y = .int .u8 (accN p (b + 8 * k) m : Int)) (fun _ j => 8 - (intOf j).toNat)
      case atStart => exact ⟨0, Nat.zero_le _, rfl, rfl⟩
      case round =>
        obtain ⟨m, hm, rfl, rfl⟩ := hrel
        by_cases hmt : m < 8
        · obtain ⟨y, hy, hy1, hy2⟩ := acc_byte p (b + 8 * k) m hmt
          rw [hy]
          obtain ⟨n, hn⟩ : ∃ n, n = b + 8 * k + m + 1 := ⟨_, rfl⟩
          rw [← hn] at hy2
          have hc := HI.out n wr HB.out
          have hn' : (b1 : Int) + 8 * (k : Int) + (m : Int) = (n : Int) := by have := HB1.out; omega
          have hw : IntKind.u8.wrap ((y : Int) * 2) = ((y * 2 : Nat) : Int) := by rw [IntKind.wrap_u8]; omega
          have hw2 : IntKind.u8.wrap (((y * 2 : Nat) : Int) + 1) = ((y * 2 + 1 : Nat) : Int) := by rw [IntKind.wrap_u8]; omega
          have HY1 := Lib.hid hy1
          clear hy hy1 hn
          generalize hz9 : y * 2 = z at *
          generalize hz1 : z + 1 = z1 at *
          have HZ := Lib.hid hz9; have HZ1 := Lib.hid hz1; clear hz9 hz1
          cases hp : p n
          · rw [hp] at hc hy2
            have HC := Lib.hid hc
            have H2 := Lib.hid hy2
            clear hc hy2 hp
            go_wp2_with fail
            refine HC.out.mono ?_
            rintro e w1 ⟨rfl, rfl⟩
            go_wp2
            go_round
            case rel => exact ⟨m + 1, by omega, by go_num, by rw [H2.out]; simp⟩
            case measure => simp [intOf]; omega
          · rw [hp] at hc hy2
            have HC := Lib.hid hc
            have H2 := Lib.hid hy2
            clear hc hy2 hp
            go_wp2_with fail
            refine HC.out.mono ?_
            rintro e w1 ⟨rfl, rfl⟩
            go_wp2
            go_round
            case rel => exact ⟨m + 1, by omega, by go_num, by rw [H2.out]; simp [HZ1.out]⟩
            case measure => simp [intOf]; omega
        · obtain rfl : m = 8 := by omega
          have HS := Lib.hid (bytesL_succ p b k)
          have HX := Lib.hid (acc_u8 p (b + 8 * k))
          generalize accN p (b + 8 * k) 8 = y at *
          have hbz := HB.out.size
          go_wp2_with (at_builtin; refine wpList_append_lies _ rfl _ _ _ rfl w.heap.size 5 i0 _ 1 1 Try.underlying63 hi hz0 hz1 hz2 rfl (by omega) (.slice (some ⟨g, 0, none⟩) k cp) k _ rfl (HW.out.alloc _) ⟨wr.heap.size, 0, none⟩ 1 1 [.int .u8 (y : Int)] rfl rfl (World.news_of_block (cs := #[.int .u8 (y : Int)]) (t := 5) (fr := (0, 0)) (heap_alloc_new wr _)) (by simp [Value.oneCell']) (by omega) (by unfold maxLen; omega) (by omega) (by simp; omega) (wr.heap.size + 1) (by simp) ?_; intro g' cap' w2 hown2 hgrow hat hlt2)
          have hb2 : Below w.heap.size w w2 := (HB.out.alloc hbz _).grown hgrow (by simp; omega) (by intro q hq; have := own_base HW.out; simp [Value.ownBlock] at hq; omega)
          have HW2 := Lib.hid hown2; clear hown2 hgrow hat hlt2
          go_wp2
          go_roundw
          case rel => exact ⟨k + 1, cap', g', by have := HLT.out; omega, by go_num, rfl, by rw [HS.out, List.map_append]; have h := HW2.out; rw [← HX.out] at h; exact h, hb2⟩
          case measure => have := HLT.out; simp [intOf]; omega
    · obtain rfl : k = 8 := by omega
      have hcv : (convert 63 9 (.slice (some ⟨g, 0, none⟩) 8 cp)).run Try.prog wr = .ok (.string ⟨(bytesL p b 8).toArray⟩) wr := by
        have hown := HW.out
        have hlen := bytesL_len p b 8
        have h := run_convert_bytes_back (P := Try.prog) wr 63 9 5 ⟨g, 0, none⟩ cp (bytesL p b 8) Try.underlying63 Try.underlying5 Try.underlying9 (by
          intro i hi
          have hc := hown.cellAt i (by omega)
          rw [show (⟨g, 0, none⟩ : Addr).add i = ⟨g, i, none⟩ from by rw [Addr.add_lit, Nat.zero_add], hc]
          simp [xb, hi])
        rw [hlen] at h
        exact h
      clear HO
      go_wp2
      go_ret
      exact ⟨rfl, HB.out⟩

end Go.Proofs.Ytdnckiaeeikbhaa
