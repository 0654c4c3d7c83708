/-
  What the document's part of a bitmap is: for both styles, every text and place, in every world.
-/
import Derived.Test.YtdnckiaeeikbhaaBmpMath
import Derived.Test.YtdnckiaeeikbhaaHexRefGet
import Derived.Test.YtdnckiaeeikbhaaInts
namespace Go.Proofs.Ytdnckiaeeikbhaa
open Go.RowKit

theorem part_cut (st : Nat) (s : ByteArray) (at_ f : Nat) (w : World) (hst : st = 1 ∨ st = 2) (_hs : s.size ≤ 1000000) (ha : at_ ≤ s.size) (h : s.size < at_ + wid st) :
    Calls Try.prog 30 #[.int .i64 (st : Int), .string s, .int .i64 (at_ : Int), .int .i64 (f : Int)] w fun e w' => e = .returned (.tuple #[.slice none 0 0, .int .i64 2]) ∧ Below w.heap.size w w' := by
  rcases hst with rfl | rfl
  · have h' : s.size < at_ + 16 := h
    clear h
    go_enter Try.func30, Try.ntmps30
    go_wp2
    go_ret2
    exact ⟨rfl, Below.refl _ _⟩
  · have h' : s.size < at_ + 8 := h
    clear h
    go_enter Try.func30, Try.ntmps30
    go_wp2
    go_ret2
    exact ⟨rfl, Below.refl _ _⟩

theorem part_bad (s : ByteArray) (at_ f : Nat) (w : World) (hs : s.size ≤ 1000000) (h : at_ + 16 ≤ s.size) (hx : hgetB (s.extract at_ (at_ + 16)).data.toList = false) :
    Calls Try.prog 30 #[.int .i64 1, .string s, .int .i64 (at_ : Int), .int .i64 (f : Int)] w fun e w' => e = .returned (.tuple #[.slice none 0 0, .int .i64 3]) ∧ Below w.heap.size w w' := by
  have hsl : (s.extract at_ (at_ + 16)).size = 16 := by simp; omega
  have hg := fun W => hrefGet_any (s.extract at_ (at_ + 16)) W (by rw [hsl]; omega)
  rw [hx, hgetS_no hx] at hg
  generalize hgetI (s.extract at_ (at_ + 16)).data.toList = z at hg
  have HG := Lib.hid hg; clear hg hx
  go_enter Try.func30, Try.ntmps30
  go_wp2_with fail
  refine (HG.out _).mono ?_
  rintro e w1 ⟨rfl, hb1⟩
  go_wp2
  go_ret2
  exact ⟨rfl, hb1⟩

theorem own_cap {w : World} {base e size g n c : Nat} {xs : List Value} (h : w.ownsRow base e size (.slice (some ⟨g, 0, none⟩) n c) n xs) : n ≤ c := by
  rcases h.2 with ⟨h1, _⟩ | ⟨g', cap, cur, h1, hb, _, hle, _⟩
  · cases h1
  · injection h1 with h1 h2 h3
    omega

theorem bitL_at (t : ByteArray) (k j : Nat) (hk : k < t.size) (hj : j < 8) : bitL t.data.toList (8 * k + j) = t[k].toNat.testBit (7 - j) := by
  unfold bitL
  rw [show (8 * k + j) / 8 = k by omega, show (8 * k + j) % 8 = j by omega]
  have : t.data.toList.getD k 0 = t[k] := by
    rw [List.getD_eq_getElem?_getD, List.getElem?_eq_getElem (by rw [Array.length_toList]; exact hk), Option.getD_some]
    rfl
  rw [this]

theorem byte_at (t : ByteArray) (k : Nat) (hk : k < t.size) : ∃ c : Nat, c < 256 ∧ (∀ W : World, (Instr.index 9 (.string t) (.int .i64 (k : Int))).run Try.prog W = .ok (.int .u8 (c : Int)) W) ∧ ∀ j, j < 8 → bitL t.data.toList (8 * k + j) = c.testBit (7 - j) :=
  ⟨t[k].toNat, t[k].toNat_lt, ix_str t k hk, fun j hj => bitL_at t k j hk hj⟩

set_option maxRecDepth 100000 in
set_option maxHeartbeats 3200000 in
theorem part_ok2 (s : ByteArray) (at_ f : Nat) (w : World) (hs : s.size ≤ 1000000) (h : at_ + 8 ≤ s.size) (hf : f ≤ 1000) :
    Calls Try.prog 30 #[.int .i64 2, .string s, .int .i64 (at_ : Int), .int .i64 (f : Int)] w fun e w' => ∃ g cap : Nat, e = .returned (.tuple #[.slice (some ⟨g, 0, none⟩) (partL ((s.extract at_ (at_ + 8)).data.toList) f 64).length cap, .int .i64 0]) ∧ Ints w' (some ⟨g, 0, none⟩) (zi (partL ((s.extract at_ (at_ + 8)).data.toList) f 64)) ∧ (partL ((s.extract at_ (at_ + 8)).data.toList) f 64).length ≤ cap ∧ Below w.heap.size w w' := by
  obtain ⟨i0, hi, hz0, hz1, hz2⟩ := info_parts Try.infoX64
  have hsl : (s.extract at_ (at_ + 8)).size = 8 := by simp; omega
  go_enter Try.func30, Try.ntmps30
  go_wp2
  go_loopw [15, 16, 17, 18, 19] (fun v i _ _ _ wr => ∃ k len cap g : Nat, (k ≤ 8 ∧ len = (partL (s.extract at_ (at_ + 8)).data.toList f (8 * k)).length) ∧ i = .int .i64 (k : Int) ∧ v = .slice (some ⟨g, 0, none⟩) len cap ∧ wr.ownsRow w.heap.size 3 1 (.slice (some ⟨g, 0, none⟩) len cap) len ((partL (s.extract at_ (at_ + 8)).data.toList f (8 * k)).map iv) ∧ Below w.heap.size w wr) (fun _ i _ _ _ _ => 8 - (intOf i).toNat)
  case atStart => exact ⟨0, 0, 0, w.heap.size, ⟨by omega, rfl⟩, rfl, rfl, World.ownsRow_lit w #[] 0 (Nat.le_refl _) (by unfold maxLen; omega) rfl, below_al _ _⟩
  case round =>
    obtain ⟨k, len, cap, g, hk, rfl, rfl, hown, hb⟩ := hrel
    have HK := Lib.hid hk
    by_cases hlt : k < 8
    · have hd : decide ((k : Int) < 8) = true := by simp; omega
      have hk8 : k ≤ 8 := by omega
      obtain ⟨z, hc, hix, hbt⟩ := byte_at (s.extract at_ (at_ + 8)) k (by omega)
      have HBT := Lib.hid hbt
      have HCL := Lib.hid hc
      have HLT := Lib.hid hlt
      have HOW := Lib.hid hown
      have HB := Lib.hid hb
      clear hc hbt hlt hown hb hk
      go_wp2
      clear hd hix
      go_loopw [15, 17, 18, 19] (fun v x o i wr => ∃ j len cap g : Nat, (j ≤ 8 ∧ len = (partL (s.extract at_ (at_ + 8)).data.toList f (8 * k + j)).length) ∧ i = .int .i64 (j : Int) ∧ x = .int .u8 ((z % 2 ^ (8 - j) : Nat) : Int) ∧ o = .int .u8 ((128 / 2 ^ j : Nat) : Int) ∧ v = .slice (some ⟨g, 0, none⟩) len cap ∧ wr.ownsRow w.heap.size 3 1 (.slice (some ⟨g, 0, none⟩) len cap) len ((partL (s.extract at_ (at_ + 8)).data.toList f (8 * k + j)).map iv) ∧ Below w.heap.size w wr) (fun _ _ _ i _ => 8 - (intOf i).toNat)
      case atStart => exact ⟨0, len, cap, g, ⟨by omega, HK.out.2⟩, rfl, by have := HCL.out; rw [show z % 2 ^ (8 - 0) = z by omega], rfl, rfl, HOW.out, HB.out⟩
      case round =>
        obtain ⟨j, len, cap, g, hj, rfl, rfl, rfl, rfl, hown, hb⟩ := hrel
        have HJ := Lib.hid hj
        have HOW2 := Lib.hid hown
        have HB2 := Lib.hid hb
        have hbz := hb.size
        have hlen : len ≤ 72 := by have := partL_len (s.extract at_ (at_ + 8)).data.toList f (8 * k + j); omega
        clear HOW HB hown hb
        by_cases hjt : j < 8
        · obtain ⟨⟨hX, hO, hO1⟩, hO2, hyes, hno⟩ := bit_step z j HCL.out hjt
          have hps := partL_succ (s.extract at_ (at_ + 8)).data.toList f (8 * k + j)
          rw [HBT.out j hjt] at hps
          have hj8 : j ≤ 8 := by omega
          have hdj : decide ((j : Int) < 8) = true := by simp; omega
          have HJT := Lib.hid hjt
          have HO2 := Lib.hid hO2
          clear hj hjt hO2
          generalize z % 2 ^ (8 - j) = X at *
          generalize hOO : 128 / 2 ^ j = O at *
          generalize hXX : z % 2 ^ (8 - (j + 1)) = X' at *
          generalize hPP : 128 / 2 ^ (j + 1) = O' at *
          have HXX := Lib.hid hXX; have HPP := Lib.hid hPP
          have hdv : (O : Int) / 2 = (O' : Int) := by have := HO2.out; omega
          have hdm : (O' : Int) % 256 = (O' : Int) := by have := HO2.out; omega
          obtain ⟨n, hn⟩ : ∃ n, n = f + (8 * k + j) := ⟨_, rfl⟩
          have hn' : (f : Int) + 8 * (k : Int) + (j : Int) = (n : Int) := by omega
          have hnb : n ≤ 1200 := by omega
          rw [← hn] at hps
          clear hOO hXX hPP hn
          cases hb : z.testBit (7 - j)
          · obtain ⟨h1, h2⟩ := hno hb
            rw [hb] at hps
            have HPS := Lib.hid hps
            have hge : decide (O ≤ X) = false := by simp; omega
            have H12 := Lib.hid h2
            have HX1 := Lib.hid hX; have HO1 := Lib.hid hO; have HO3 := Lib.hid hO1
            clear hyes hno hb hps h1 h2 hX hO hO1
            go_wp2
            go_roundw
            case rel =>
              have hp := HPS.out
              rw [if_neg (by simp), List.append_nil] at hp
              exact ⟨j + 1, len, cap, g, ⟨by have := HJT.out; omega, by rw [show 8 * k + (j + 1) = 8 * k + j + 1 by omega, hp]; exact HJ.out.2⟩, by go_num, by rw [HXX.out, H12.out], by rw [HPP.out], rfl, by rw [show 8 * k + (j + 1) = 8 * k + j + 1 by omega, hp]; exact HOW2.out, HB2.out⟩
            case measure => have := HJT.out; simp [intOf]; omega
          · obtain ⟨h1, h2⟩ := hyes hb
            rw [hb] at hps
            have HPS := Lib.hid hps
            have hge : decide (O ≤ X) = true := by simp; omega
            have hsub : (X : Int) - (O : Int) = (X' : Int) := by omega
            have hX'b : (X' : Int) < 1000 := by omega
            have hwr : IntKind.u8.wrap (X' : Int) = (X' : Int) := by rw [IntKind.wrap_u8]; omega
            have HX1 := Lib.hid hX; have HO1 := Lib.hid hO; have HO3 := Lib.hid hO1
            clear hyes hno hb hps h1 h2 hX hO hO1
            go_wp2_with (at_builtin; refine wpList_append_lies _ rfl _ _ _ rfl w.heap.size 3 i0 _ 1 8 Try.underlying31 hi hz0 hz1 hz2 rfl (by omega) (.slice (some ⟨g, 0, none⟩) len cap) len _ rfl (HOW2.out.alloc _) ⟨wr.heap.size, 0, none⟩ 1 1 [.int .i64 (n : Int)] rfl rfl (World.news_of_block (cs := #[.int .i64 (n : Int)]) (t := 3) (fr := (0, 0)) (heap_alloc_new wr _)) (by simp [Value.oneCell']) (by omega) (by unfold maxLen; omega) (by omega) (by simp; omega) (wr.heap.size + 1) (by simp) ?_; intro g' cap' w2 hown2 hgrow hat hlt2)
            have hb2 : Below w.heap.size w w2 := (HB2.out.alloc hbz _).grown hgrow (by simp; omega) (by intro q hq; have := own_base HOW2.out; simp [Value.ownBlock] at hq; omega)
            have HW2 := Lib.hid hown2; clear hown2 hgrow hat hlt2
            go_wp2
            go_roundw
            case rel =>
              have hp := HPS.out
              rw [if_pos rfl] at hp
              exact ⟨j + 1, len + 1, cap', g', ⟨by have := HJT.out; omega, by rw [show 8 * k + (j + 1) = 8 * k + j + 1 by omega, hp, List.length_append, ← HJ.out.2]; rfl⟩, by go_num, by rw [HXX.out], by rw [HPP.out], rfl, by rw [show 8 * k + (j + 1) = 8 * k + j + 1 by omega, hp, List.map_append]; exact HW2.out, hb2⟩
            case measure => have := HJT.out; simp [intOf]; omega
        · obtain rfl : j = 8 := by omega
          go_wp2
          go_roundw
          case rel => exact ⟨k + 1, len, cap, g, ⟨by have := HLT.out; omega, HJ.out.2⟩, by go_num, rfl, HOW2.out, HB2.out⟩
          case measure => have := HLT.out; simp [intOf]; omega
    · obtain rfl : k = 8 := by omega
      have HOW := Lib.hid hown
      have HB := Lib.hid hb
      clear hown hb hk
      go_wp2
      go_ret2
      have h2 := HK.out.2
      exact ⟨g, cap, by rw [← h2]; rfl, ints_own HOW.out h2.symm, by rw [← h2]; exact own_cap HOW.out, HB.out⟩

set_option maxRecDepth 100000 in
set_option maxHeartbeats 3200000 in
theorem part_ok1 (s : ByteArray) (at_ f : Nat) (w : World) (hs : s.size ≤ 1000000) (h : at_ + 16 ≤ s.size) (hf : f ≤ 1000) (hx : hgetB (s.extract at_ (at_ + 16)).data.toList = true) :
    Calls Try.prog 30 #[.int .i64 1, .string s, .int .i64 (at_ : Int), .int .i64 (f : Int)] w fun e w' => ∃ g cap : Nat, e = .returned (.tuple #[.slice (some ⟨g, 0, none⟩) (partL (hgetL (s.extract at_ (at_ + 16)).data.toList) f 64).length cap, .int .i64 0]) ∧ Ints w' (some ⟨g, 0, none⟩) (zi (partL (hgetL (s.extract at_ (at_ + 16)).data.toList) f 64)) ∧ (partL (hgetL (s.extract at_ (at_ + 16)).data.toList) f 64).length ≤ cap ∧ Below w.heap.size w w' := by
  obtain ⟨i0, hi, hz0, hz1, hz2⟩ := info_parts Try.infoX64
  have hs1 : (s.extract at_ (at_ + 16)).size = 16 := by simp; omega
  have hg := fun W => hrefGet_any (s.extract at_ (at_ + 16)) W (by rw [hs1]; omega)
  rw [hx, hgetS_yes hx, hgetI_yes hx] at hg
  have hsl : (⟨(hgetL (s.extract at_ (at_ + 16)).data.toList).toArray⟩ : ByteArray).size = 8 := by
    show (hgetL (s.extract at_ (at_ + 16)).data.toList).toArray.size = 8
    rw [List.size_toArray, hgetL_length, Array.length_toList]
    show (s.extract at_ (at_ + 16)).size / 2 = 8
    omega
  have hq : hgetL (s.extract at_ (at_ + 16)).data.toList = (⟨(hgetL (s.extract at_ (at_ + 16)).data.toList).toArray⟩ : ByteArray).data.toList := rfl
  rw [hq]
  clear hq hx
  generalize (⟨(hgetL (s.extract at_ (at_ + 16)).data.toList).toArray⟩ : ByteArray) = t at *
  have HG := Lib.hid hg; clear hg hs1
  go_enter Try.func30, Try.ntmps30
  go_wp2_with fail
  refine (HG.out _).mono ?_
  rintro e w1 ⟨rfl, hb1⟩
  have HB1 := Lib.hid hb1
  clear hb1
  go_wp2
  go_loopw [15, 16, 17, 18, 19] (fun v i _ _ _ wr => ∃ k len cap g : Nat, (k ≤ 8 ∧ len = (partL t.data.toList f (8 * k)).length) ∧ i = .int .i64 (k : Int) ∧ v = .slice (some ⟨g, 0, none⟩) len cap ∧ wr.ownsRow w.heap.size 3 1 (.slice (some ⟨g, 0, none⟩) len cap) len ((partL t.data.toList f (8 * k)).map iv) ∧ Below w.heap.size w wr) (fun _ i _ _ _ _ => 8 - (intOf i).toNat)
  case atStart => exact ⟨0, 0, 0, w1.heap.size, ⟨by omega, rfl⟩, rfl, rfl, World.ownsRow_lit w1 #[] 0 (HB1.out.size) (by unfold maxLen; omega) rfl, hbt HB1.out (below_al _ _)⟩
  case round =>
    obtain ⟨k, len, cap, g, hk, rfl, rfl, hown, hb⟩ := hrel
    have HK := Lib.hid hk
    by_cases hlt : k < 8
    · have hd : decide ((k : Int) < 8) = true := by simp; omega
      have hk8 : k ≤ 8 := by omega
      obtain ⟨z, hc, hix, hbt⟩ := byte_at t k (by omega)
      have HBT := Lib.hid hbt
      have HCL := Lib.hid hc
      have HLT := Lib.hid hlt
      have HOW := Lib.hid hown
      have HB := Lib.hid hb
      clear hc hbt hlt hown hb hk
      go_wp2
      clear hd hix
      go_loopw [15, 17, 18, 19] (fun v x o i wr => ∃ j len cap g : Nat, (j ≤ 8 ∧ len = (partL t.data.toList f (8 * k + j)).length) ∧ i = .int .i64 (j : Int) ∧ x = .int .u8 ((z % 2 ^ (8 - j) : Nat) : Int) ∧ o = .int .u8 ((128 / 2 ^ j : Nat) : Int) ∧ v = .slice (some ⟨g, 0, none⟩) len cap ∧ wr.ownsRow w.heap.size 3 1 (.slice (some ⟨g, 0, none⟩) len cap) len ((partL t.data.toList f (8 * k + j)).map iv) ∧ Below w.heap.size w wr) (fun _ _ _ i _ => 8 - (intOf i).toNat)
      case atStart => exact ⟨0, len, cap, g, ⟨by omega, HK.out.2⟩, rfl, by have := HCL.out; rw [show z % 2 ^ (8 - 0) = z by omega], rfl, rfl, HOW.out, HB.out⟩
      case round =>
        obtain ⟨j, len, cap, g, hj, rfl, rfl, rfl, rfl, hown, hb⟩ := hrel
        have HJ := Lib.hid hj
        have HOW2 := Lib.hid hown
        have HB2 := Lib.hid hb
        have hbz := hb.size
        have hlen : len ≤ 72 := by have := partL_len t.data.toList f (8 * k + j); omega
        clear HOW HB hown hb
        by_cases hjt : j < 8
        · obtain ⟨⟨hX, hO, hO1⟩, hO2, hyes, hno⟩ := bit_step z j HCL.out hjt
          have hps := partL_succ t.data.toList f (8 * k + j)
          rw [HBT.out j hjt] at hps
          have hj8 : j ≤ 8 := by omega
          have hdj : decide ((j : Int) < 8) = true := by simp; omega
          have HJT := Lib.hid hjt
          have HO2 := Lib.hid hO2
          clear hj hjt hO2
          generalize z % 2 ^ (8 - j) = X at *
          generalize hOO : 128 / 2 ^ j = O at *
          generalize hXX : z % 2 ^ (8 - (j + 1)) = X' at *
          generalize hPP : 128 / 2 ^ (j + 1) = O' at *
          have HXX := Lib.hid hXX; have HPP := Lib.hid hPP
          have hdv : (O : Int) / 2 = (O' : Int) := by have := HO2.out; omega
          have hdm : (O' : Int) % 256 = (O' : Int) := by have := HO2.out; omega
          obtain ⟨n, hn⟩ : ∃ n, n = f + (8 * k + j) := ⟨_, rfl⟩
          have hn' : (f : Int) + 8 * (k : Int) + (j : Int) = (n : Int) := by omega
          have hnb : n ≤ 1200 := by omega
          rw [← hn] at hps
          clear hOO hXX hPP hn
          cases hb : z.testBit (7 - j)
          · obtain ⟨h1, h2⟩ := hno hb
            rw [hb] at hps
            have HPS := Lib.hid hps
            have hge : decide (O ≤ X) = false := by simp; omega
            have H12 := Lib.hid h2
            have HX1 := Lib.hid hX; have HO1 := Lib.hid hO; have HO3 := Lib.hid hO1
            clear hyes hno hb hps h1 h2 hX hO hO1
            go_wp2
            go_roundw
            case rel =>
              have hp := HPS.out
              rw [if_neg (by simp), List.append_nil] at hp
              exact ⟨j + 1, len, cap, g, ⟨by have := HJT.out; omega, by rw [show 8 * k + (j + 1) = 8 * k + j + 1 by omega, hp]; exact HJ.out.2⟩, by go_num, by rw [HXX.out, H12.out], by rw [HPP.out], rfl, by rw [show 8 * k + (j + 1) = 8 * k + j + 1 by omega, hp]; exact HOW2.out, HB2.out⟩
            case measure => have := HJT.out; simp [intOf]; omega
          · obtain ⟨h1, h2⟩ := hyes hb
            rw [hb] at hps
            have HPS := Lib.hid hps
            have hge : decide (O ≤ X) = true := by simp; omega
            have hsub : (X : Int) - (O : Int) = (X' : Int) := by omega
            have hX'b : (X' : Int) < 1000 := by omega
            have hwr : IntKind.u8.wrap (X' : Int) = (X' : Int) := by rw [IntKind.wrap_u8]; omega
            have HX1 := Lib.hid hX; have HO1 := Lib.hid hO; have HO3 := Lib.hid hO1
            clear hyes hno hb hps h1 h2 hX hO hO1
            go_wp2_with (at_builtin; refine wpList_append_lies _ rfl _ _ _ rfl w.heap.size 3 i0 _ 1 8 Try.underlying31 hi hz0 hz1 hz2 rfl (by omega) (.slice (some ⟨g, 0, none⟩) len cap) len _ rfl (HOW2.out.alloc _) ⟨wr.heap.size, 0, none⟩ 1 1 [.int .i64 (n : Int)] rfl rfl (World.news_of_block (cs := #[.int .i64 (n : Int)]) (t := 3) (fr := (0, 0)) (heap_alloc_new wr _)) (by simp [Value.oneCell']) (by omega) (by unfold maxLen; omega) (by omega) (by simp; omega) (wr.heap.size + 1) (by simp) ?_; intro g' cap' w2 hown2 hgrow hat hlt2)
            have hb2 : Below w.heap.size w w2 := (HB2.out.alloc hbz _).grown hgrow (by simp; omega) (by intro q hq; have := own_base HOW2.out; simp [Value.ownBlock] at hq; omega)
            have HW2 := Lib.hid hown2; clear hown2 hgrow hat hlt2
            go_wp2
            go_roundw
            case rel =>
              have hp := HPS.out
              rw [if_pos rfl] at hp
              exact ⟨j + 1, len + 1, cap', g', ⟨by have := HJT.out; omega, by rw [show 8 * k + (j + 1) = 8 * k + j + 1 by omega, hp, List.length_append, ← HJ.out.2]; rfl⟩, by go_num, by rw [HXX.out], by rw [HPP.out], rfl, by rw [show 8 * k + (j + 1) = 8 * k + j + 1 by omega, hp, List.map_append]; exact HW2.out, hb2⟩
            case measure => have := HJT.out; simp [intOf]; omega
        · obtain rfl : j = 8 := by omega
          go_wp2
          go_roundw
          case rel => exact ⟨k + 1, len, cap, g, ⟨by have := HLT.out; omega, HJ.out.2⟩, by go_num, rfl, HOW2.out, HB2.out⟩
          case measure => have := HLT.out; simp [intOf]; omega
    · obtain rfl : k = 8 := by omega
      have HOW := Lib.hid hown
      have HB := Lib.hid hb
      clear hown hb hk
      go_wp2
      go_ret2
      have h2 := HK.out.2
      exact ⟨g, cap, by rw [← h2]; rfl, ints_own HOW.out h2.symm, by rw [← h2]; exact own_cap HOW.out, HB.out⟩

/-- Both styles. -/
theorem part_ok (st : Nat) (s : ByteArray) (at_ f : Nat) (w : World) (hst : st = 1 ∨ st = 2) (hs : s.size ≤ 1000000) (h : at_ + wid st ≤ s.size) (hf : f ≤ 1000) (hx : rdB st (s.extract at_ (at_ + wid st)).data.toList = true) :
    Calls Try.prog 30 #[.int .i64 (st : Int), .string s, .int .i64 (at_ : Int), .int .i64 (f : Int)] w fun e w' => ∃ g cap : Nat, e = .returned (.tuple #[.slice (some ⟨g, 0, none⟩) (partL (rdL st (s.extract at_ (at_ + wid st)).data.toList) f 64).length cap, .int .i64 0]) ∧ Ints w' (some ⟨g, 0, none⟩) (zi (partL (rdL st (s.extract at_ (at_ + wid st)).data.toList) f 64)) ∧ (partL (rdL st (s.extract at_ (at_ + wid st)).data.toList) f 64).length ≤ cap ∧ Below w.heap.size w w' := by
  rcases hst with rfl | rfl
  · exact part_ok1 s at_ f w hs h hf hx
  · exact part_ok2 s at_ f w hs h hf
theorem part_no (st : Nat) (s : ByteArray) (at_ f : Nat) (w : World) (hst : st = 1 ∨ st = 2) (hs : s.size ≤ 1000000) (h : at_ + wid st ≤ s.size) (hx : rdB st (s.extract at_ (at_ + wid st)).data.toList = false) :
    Calls Try.prog 30 #[.int .i64 (st : Int), .string s, .int .i64 (at_ : Int), .int .i64 (f : Int)] w fun e w' => e = .returned (.tuple #[.slice none 0 0, .int .i64 3]) ∧ Below w.heap.size w w' := by
  rcases hst with rfl | rfl
  · exact part_bad s at_ f w hs h hx
  · cases hx

end Go.Proofs.Ytdnckiaeeikbhaa
