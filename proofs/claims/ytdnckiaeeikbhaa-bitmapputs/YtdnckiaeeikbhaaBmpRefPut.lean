/-
  What the document's Put answers: for every style and list, in every world.
-/
import Derived.Test.YtdnckiaeeikbhaaBmpRef
import Derived.Deep.AppendLies
import Derived.Laws.OwnMore
namespace Go.Proofs.Ytdnckiaeeikbhaa
open Go.RowKit

theorem refPut_style (st : Int) (A : Option Addr) (n cap : Nat) (w : World) (h1 : st ≠ 1) (h2 : st ≠ 2) :
    Calls Try.prog 10 #[.int .i64 st, .slice A n cap] w fun e w' => e = .returned (.tuple #[.string ⟨#[]⟩, .bool false]) ∧ Below w.heap.size w w' := by
  have k1 : (st != 1) = true := by simp [h1]
  have k2 : (st != 2) = true := by simp [h2]
  clear h1 h2
  go_enter Try.func10, Try.ntmps10
  go_wp2
  go_ret2
  exact ⟨rfl, Below.refl _ _⟩
theorem refPut_one (st : Nat) (A : Option Addr) (cap : Nat) (zs : List Int) (w : World) (hst : st = 1 ∨ st = 2) (hI : Ints w A zs) (hz : zs.length ≤ 900) (h : inL zs 1 = true) :
    Calls Try.prog 10 #[.int .i64 (st : Int), .slice A zs.length cap] w fun e w' => e = .returned (.tuple #[.string ⟨#[]⟩, .bool false]) ∧ Below w.heap.size w w' := by
  have HI := Lib.hid (by have := refIn_any A cap zs 1 w hI (by omega); rw [show decide ((1 : Int) ∈ zs) = true from h] at this; exact this)
  clear hI h
  generalize zs.length = len at *
  rcases hst with rfl | rfl
  · go_enter Try.func10, Try.ntmps10
    go_wp2_with fail
    refine HI.out.mono ?_
    rintro e w1 ⟨rfl, rfl⟩
    go_wp2
    go_ret2
    exact ⟨rfl, Below.refl _ _⟩
  · go_enter Try.func10, Try.ntmps10
    go_wp2_with fail
    refine HI.out.mono ?_
    rintro e w1 ⟨rfl, rfl⟩
    go_wp2
    go_ret2
    exact ⟨rfl, Below.refl _ _⟩

theorem str_append (a b : List UInt8) : (⟨a.toArray⟩ ++ ⟨b.toArray⟩ : ByteArray) = ⟨(a ++ b).toArray⟩ := by
  rw [ByteArray.ext_iff, ByteArray.data_append]; simp

set_option maxRecDepth 100000 in
set_option maxHeartbeats 3200000 in
theorem refPut_ok1 (A : Option Addr) (cap : Nat) (zs : List Int) (w : World) (hI : Ints w A zs) (hz : zs.length ≤ 900) (h : inL zs 1 = false) :
    Calls Try.prog 10 #[.int .i64 1, .slice A zs.length cap] w fun e w' => e = .returned (.tuple #[.string ⟨(hputL (outL zs)).toArray⟩, .bool true]) ∧ Below w.heap.size w w' := by
  obtain ⟨i0, hi, hz0, hz1, hz2⟩ := info_parts Try.infoX64
  have HI1 := Lib.hid (by have := refIn_any A cap zs 1 w hI (by omega); rw [show decide ((1 : Int) ∈ zs) = false from h] at this; exact this)
  have HIN : Hid (∀ n : Nat, Calls Try.prog 23 #[.slice A zs.length cap, .int .i64 (n : Int)] w fun e w' => e = .returned (.bool (inL zs n)) ∧ w = w') := fun n => refIn_any A cap zs (n : Int) w hI (by omega)
  have HBY : Hid (∀ W, Below w.heap.size w W → Calls Try.prog 24 #[.slice A zs.length cap, .int .i64 1] W fun e w' => e = .returned (.string ⟨(bytesL (inL zs) 0 8).toArray⟩) ∧ Below W.heap.size W w') := fun W hW => bytes_any A cap zs 0 W (hI.below hW) (by omega) (by omega)
  have HBZ : Hid (∀ W, Below w.heap.size w W → Calls Try.prog 24 #[.slice A zs.length cap, .int .i64 65] W fun e w' => e = .returned (.string ⟨(bytesL (inL zs) 64 8).toArray⟩) ∧ Below W.heap.size W w') := fun W hW => bytes_any A cap zs 64 W (hI.below hW) (by omega) (by omega)
  have HBX : Hid (∀ W g c, Ints W (some ⟨g, 0, none⟩) (1 :: zs) → Calls Try.prog 24 #[.slice (some ⟨g, 0, none⟩) (1 + zs.length) c, .int .i64 1] W fun e w' => e = .returned (.string ⟨(bytesL (inL (1 :: zs)) 0 8).toArray⟩) ∧ Below W.heap.size W w') := fun W g c hW => by
    have := bytes_any (some ⟨g, 0, none⟩) c (1 :: zs) 0 W hW (by simp; omega) (by omega)
    rw [List.length_cons, Nat.add_comm] at this
    exact this
  have HNW : Hid (∀ W, Below w.heap.size w W → anyN (inL zs) 64 = true → ∃ a, A = some a ∧ 0 < zs.length ∧ ∀ j u, (zs.map fun z => Value.int .i64 z)[j]? = some u → W.cell? (a.add j) = some u) := fun W hW ha => by
    have hlen : 0 < zs.length := by
      cases zs with
      | nil =>
        unfold anyN inL at ha
        simp at ha
      | cons z zs => simp
    obtain ⟨a, rfl, _⟩ := hI 0 hlen
    exact ⟨a, rfl, hlen, ints_news (hI.below hW)⟩
  have HT0 : Hid ((⟨(bytesL (inL zs) 0 8).toArray⟩ : ByteArray).size = 8) := by show (bytesL (inL zs) 0 8).toArray.size = 8; rw [List.size_toArray, bytesL_len]
  have HT2 : Hid ((⟨(bytesL (inL zs) 64 8).toArray⟩ : ByteArray).size = 8) := by show (bytesL (inL zs) 64 8).toArray.size = 8; rw [List.size_toArray, bytesL_len]
  have HT1 : Hid ((⟨(bytesL (inL (1 :: zs)) 0 8).toArray⟩ : ByteArray).size = 8) := by show (bytesL (inL (1 :: zs)) 0 8).toArray.size = 8; rw [List.size_toArray, bytesL_len]
  have HLM : Hid ((zs.map fun z => Value.int .i64 z).length = zs.length * 1) := by show _ = _; simp
  have HCP : Hid (∀ (W : World) (base g n c : Nat), W.ownsRow base 3 1 (.slice (some ⟨g, 0, none⟩) n c) n ([Value.int .i64 1] ++ zs.map fun z => Value.int .i64 z) → n = 1 + zs.length → Ints W (some ⟨g, 0, none⟩) (1 :: zs)) := fun W base g n c ho hn => ints_copy (zs := 1 :: zs) ho (by simp; omega)
  have HOS : Hid (anyN (inL zs) 64 = false → outL zs = bytesL (inL zs) 0 8) := fun e => by unfold outL; rw [e]; simp
  have HOL : Hid (anyN (inL zs) 64 = true → outL zs = bytesL (inL (1 :: zs)) 0 8 ++ bytesL (inL zs) 64 8) := fun e => by unfold outL; rw [e]; simp
  clear hI h
  generalize hTa : (⟨(bytesL (inL zs) 0 8).toArray⟩ : ByteArray) = ta at *
  generalize hTb : (⟨(bytesL (inL (1 :: zs)) 0 8).toArray⟩ : ByteArray) = tb at *
  generalize hTc : (⟨(bytesL (inL zs) 64 8).toArray⟩ : ByteArray) = tc at *
  have HTA := Lib.hid hTa; have HTB := Lib.hid hTb; have HTC := Lib.hid hTc
  clear hTa hTb hTc
  generalize hP : inL zs = p at *
  have HP := Lib.hid hP; clear hP
  generalize hN : (zs.map fun z => Value.int .i64 z) = news at *
  have HNE : Hid (∀ u ∈ news, u.oneCell' = true) := by show ∀ u ∈ news, u.oneCell' = true; rw [← hN]; simp [Value.oneCell']
  have HNN := Lib.hid hN; clear hN
  generalize zs.length = len at *
  go_enter Try.func10, Try.ntmps10
  go_wp2_with fail
  refine HI1.out.mono ?_
  rintro e w1 ⟨rfl, rfl⟩
  go_wp2
  go_loop [6, 7] (fun v i => ∃ n m : Nat, n = 65 + m ∧ m ≤ 64 ∧ i = .int .i64 (n : Int) ∧ v = .bool (anyN p m)) (fun _ i => 129 - (intOf i).toNat)
  case atStart => exact ⟨65, 0, rfl, by omega, rfl, rfl⟩
  case round =>
    obtain ⟨n, m, hn, hm, rfl, rfl⟩ := hrel
    have hs := anyN_succ p m
    rw [← hn] at hs
    by_cases hlt : m < 64
    · have hn1 : n ≤ 128 := by omega
      have HN := Lib.hid hn; have HL := Lib.hid hlt
      clear hn hlt hm
      cases hv : anyN p m
      · rw [hv, Bool.false_or] at hs
        have hc := HIN.out n
        cases hp : p n
        · rw [hp] at hs hc
          have HS := Lib.hid hs; have HC := Lib.hid hc; have HV := Lib.hid hv; clear hs hc hp hv
          go_wp2_with fail
          refine HC.out.mono ?_
          rintro e w1 ⟨rfl, rfl⟩
          go_wp2
          go_round
          case rel => exact ⟨n + 1, m + 1, by have := HN.out; omega, by have := HL.out; omega, by go_num, by rw [HS.out]⟩
          case measure => simp [intOf]; omega
        · rw [hp] at hs hc
          have HS := Lib.hid hs; have HC := Lib.hid hc; have HV := Lib.hid hv; clear hs hc hp hv
          go_wp2_with fail
          refine HC.out.mono ?_
          rintro e w1 ⟨rfl, rfl⟩
          go_wp2
          go_round
          case rel => exact ⟨n + 1, m + 1, by have := HN.out; omega, by have := HL.out; omega, by go_num, by rw [HS.out]⟩
          case measure => simp [intOf]; omega
      · rw [hv, Bool.true_or] at hs
        have HS := Lib.hid hs; have HV := Lib.hid hv; clear hs hv
        go_wp2
        go_round
        case rel => exact ⟨n + 1, m + 1, by have := HN.out; omega, by have := HL.out; omega, by go_num, by rw [HS.out]⟩
        case measure => simp [intOf]; omega
    · obtain rfl : m = 64 := by omega
      obtain rfl : n = 129 := by omega
      clear hs hlt hm hn
      cases hv : anyN p 64
      · have HO := Lib.hid (HOS.out hv)
        clear hv
        go_wp2_with fail
        refine (HBY.out _ (Below.refl _ _)).mono ?_
        rintro e w1 ⟨rfl, hb1⟩
        have HB1 := Lib.hid hb1
        clear hb1
        go_wp2_with fail
        refine (hrefPut_any ta _ (by rw [HT0.out]; omega)).mono ?_
        rintro e w2 ⟨rfl, hb2⟩
        have HB2 := Lib.hid (hbt HB1.out hb2)
        clear hb2
        go_wp2
        go_ret2
        exact ⟨by rw [HO.out, ← HTA.out]; rfl, HB2.out⟩
      · have HO := Lib.hid (HOL.out hv)
        have HV := Lib.hid hv
        clear hv
        go_wp2_with fail
        refine (HBY.out _ (Below.refl _ _)).mono ?_
        rintro e w1 ⟨rfl, hb1⟩
        have HB1 := Lib.hid hb1
        have hbz := hb1.size
        obtain ⟨a, rfl, hl0, hnews⟩ := HNW.out (w1.alloc (.cells #[.int .i64 1] 3)) (hbt hb1 (below_al _ _)) HV.out
        have HNS := Lib.hid hnews
        have HL0 := Lib.hid hl0
        clear hb1 hnews hl0
        go_wp2_with (at_builtin; refine wpList_append_lies _ rfl _ _ _ rfl w1.heap.size 3 i0 _ 1 8 Try.underlying31 hi hz0 hz1 hz2 rfl (by omega) (.slice (some ⟨w1.heap.size, 0, none⟩) 1 1) 1 [.int .i64 1] rfl (World.ownsRow_lit w1 #[.int .i64 1] 1 (Nat.le_refl _) (by unfold maxLen; omega) rfl) a len cap news rfl HLM.out HNS.out HNE.out HL0.out (by unfold maxLen; omega) (by omega) (by simp) (w1.heap.size + 1) (by simp) ?_; intro g' cap' w2 hown2 hgrow hat hlt2)
        have HB2 : Hid (Below w.heap.size w w2) := (hbt HB1.out (below_al _ _)).grown hgrow (by simp; omega) (by intro q hq; simp [Value.ownBlock] at hq; omega)
        have HI2 := Lib.hid (HCP.out w2 _ g' _ cap' hown2 rfl)
        clear hown2 hgrow hat hlt2
        go_wp2_with fail
        refine (HBX.out _ _ _ HI2.out).mono ?_
        rintro e w3 ⟨rfl, hb3⟩
        have HB3 := Lib.hid (hbt HB2.out hb3)
        clear hb3
        go_wp2_with fail
        refine (HBZ.out _ HB3.out).mono ?_
        rintro e w4 ⟨rfl, hb4⟩
        have HB4 := Lib.hid (hbt HB3.out hb4)
        have hsz : ¬ 9223372036854775807 < tb.size + tc.size := by rw [HT1.out, HT2.out]; omega
        clear hb4
        go_wp2_with fail
        refine (hrefPut_any (tb ++ tc) _ (by rw [ByteArray.size_append, HT1.out, HT2.out]; omega)).mono ?_
        rintro e w5 ⟨rfl, hb5⟩
        have HB5 := Lib.hid (hbt HB4.out hb5)
        clear hb5
        go_wp2
        go_ret2
        exact ⟨by rw [HO.out, ← HTB.out, ← HTC.out, str_append]; rfl, HB5.out⟩
set_option maxRecDepth 100000 in
set_option maxHeartbeats 3200000 in
theorem refPut_ok2 (A : Option Addr) (cap : Nat) (zs : List Int) (w : World) (hI : Ints w A zs) (hz : zs.length ≤ 900) (h : inL zs 1 = false) :
    Calls Try.prog 10 #[.int .i64 2, .slice A zs.length cap] w fun e w' => e = .returned (.tuple #[.string ⟨(outL zs).toArray⟩, .bool true]) ∧ Below w.heap.size w w' := by
  obtain ⟨i0, hi, hz0, hz1, hz2⟩ := info_parts Try.infoX64
  have HI1 := Lib.hid (by have := refIn_any A cap zs 1 w hI (by omega); rw [show decide ((1 : Int) ∈ zs) = false from h] at this; exact this)
  have HIN : Hid (∀ n : Nat, Calls Try.prog 23 #[.slice A zs.length cap, .int .i64 (n : Int)] w fun e w' => e = .returned (.bool (inL zs n)) ∧ w = w') := fun n => refIn_any A cap zs (n : Int) w hI (by omega)
  have HBY : Hid (∀ W, Below w.heap.size w W → Calls Try.prog 24 #[.slice A zs.length cap, .int .i64 1] W fun e w' => e = .returned (.string ⟨(bytesL (inL zs) 0 8).toArray⟩) ∧ Below W.heap.size W w') := fun W hW => bytes_any A cap zs 0 W (hI.below hW) (by omega) (by omega)
  have HBZ : Hid (∀ W, Below w.heap.size w W → Calls Try.prog 24 #[.slice A zs.length cap, .int .i64 65] W fun e w' => e = .returned (.string ⟨(bytesL (inL zs) 64 8).toArray⟩) ∧ Below W.heap.size W w') := fun W hW => bytes_any A cap zs 64 W (hI.below hW) (by omega) (by omega)
  have HBX : Hid (∀ W g c, Ints W (some ⟨g, 0, none⟩) (1 :: zs) → Calls Try.prog 24 #[.slice (some ⟨g, 0, none⟩) (1 + zs.length) c, .int .i64 1] W fun e w' => e = .returned (.string ⟨(bytesL (inL (1 :: zs)) 0 8).toArray⟩) ∧ Below W.heap.size W w') := fun W g c hW => by
    have := bytes_any (some ⟨g, 0, none⟩) c (1 :: zs) 0 W hW (by simp; omega) (by omega)
    rw [List.length_cons, Nat.add_comm] at this
    exact this
  have HNW : Hid (∀ W, Below w.heap.size w W → anyN (inL zs) 64 = true → ∃ a, A = some a ∧ 0 < zs.length ∧ ∀ j u, (zs.map fun z => Value.int .i64 z)[j]? = some u → W.cell? (a.add j) = some u) := fun W hW ha => by
    have hlen : 0 < zs.length := by
      cases zs with
      | nil =>
        unfold anyN inL at ha
        simp at ha
      | cons z zs => simp
    obtain ⟨a, rfl, _⟩ := hI 0 hlen
    exact ⟨a, rfl, hlen, ints_news (hI.below hW)⟩
  have HT0 : Hid ((⟨(bytesL (inL zs) 0 8).toArray⟩ : ByteArray).size = 8) := by show (bytesL (inL zs) 0 8).toArray.size = 8; rw [List.size_toArray, bytesL_len]
  have HT2 : Hid ((⟨(bytesL (inL zs) 64 8).toArray⟩ : ByteArray).size = 8) := by show (bytesL (inL zs) 64 8).toArray.size = 8; rw [List.size_toArray, bytesL_len]
  have HT1 : Hid ((⟨(bytesL (inL (1 :: zs)) 0 8).toArray⟩ : ByteArray).size = 8) := by show (bytesL (inL (1 :: zs)) 0 8).toArray.size = 8; rw [List.size_toArray, bytesL_len]
  have HLM : Hid ((zs.map fun z => Value.int .i64 z).length = zs.length * 1) := by show _ = _; simp
  have HCP : Hid (∀ (W : World) (base g n c : Nat), W.ownsRow base 3 1 (.slice (some ⟨g, 0, none⟩) n c) n ([Value.int .i64 1] ++ zs.map fun z => Value.int .i64 z) → n = 1 + zs.length → Ints W (some ⟨g, 0, none⟩) (1 :: zs)) := fun W base g n c ho hn => ints_copy (zs := 1 :: zs) ho (by simp; omega)
  have HOS : Hid (anyN (inL zs) 64 = false → outL zs = bytesL (inL zs) 0 8) := fun e => by unfold outL; rw [e]; simp
  have HOL : Hid (anyN (inL zs) 64 = true → outL zs = bytesL (inL (1 :: zs)) 0 8 ++ bytesL (inL zs) 64 8) := fun e => by unfold outL; rw [e]; simp
  clear hI h
  generalize hTa : (⟨(bytesL (inL zs) 0 8).toArray⟩ : ByteArray) = ta at *
  generalize hTb : (⟨(bytesL (inL (1 :: zs)) 0 8).toArray⟩ : ByteArray) = tb at *
  generalize hTc : (⟨(bytesL (inL zs) 64 8).toArray⟩ : ByteArray) = tc at *
  have HTA := Lib.hid hTa; have HTB := Lib.hid hTb; have HTC := Lib.hid hTc
  clear hTa hTb hTc
  generalize hP : inL zs = p at *
  have HP := Lib.hid hP; clear hP
  generalize hN : (zs.map fun z => Value.int .i64 z) = news at *
  have HNE : Hid (∀ u ∈ news, u.oneCell' = true) := by show ∀ u ∈ news, u.oneCell' = true; rw [← hN]; simp [Value.oneCell']
  have HNN := Lib.hid hN; clear hN
  generalize zs.length = len at *
  go_enter Try.func10, Try.ntmps10
  go_wp2_with fail
  refine HI1.out.mono ?_
  rintro e w1 ⟨rfl, rfl⟩
  go_wp2
  go_loop [6, 7] (fun v i => ∃ n m : Nat, n = 65 + m ∧ m ≤ 64 ∧ i = .int .i64 (n : Int) ∧ v = .bool (anyN p m)) (fun _ i => 129 - (intOf i).toNat)
  case atStart => exact ⟨65, 0, rfl, by omega, rfl, rfl⟩
  case round =>
    obtain ⟨n, m, hn, hm, rfl, rfl⟩ := hrel
    have hs := anyN_succ p m
    rw [← hn] at hs
    by_cases hlt : m < 64
    · have hn1 : n ≤ 128 := by omega
      have HN := Lib.hid hn; have HL := Lib.hid hlt
      clear hn hlt hm
      cases hv : anyN p m
      · rw [hv, Bool.false_or] at hs
        have hc := HIN.out n
        cases hp : p n
        · rw [hp] at hs hc
          have HS := Lib.hid hs; have HC := Lib.hid hc; have HV := Lib.hid hv; clear hs hc hp hv
          go_wp2_with fail
          refine HC.out.mono ?_
          rintro e w1 ⟨rfl, rfl⟩
          go_wp2
          go_round
          case rel => exact ⟨n + 1, m + 1, by have := HN.out; omega, by have := HL.out; omega, by go_num, by rw [HS.out]⟩
          case measure => simp [intOf]; omega
        · rw [hp] at hs hc
          have HS := Lib.hid hs; have HC := Lib.hid hc; have HV := Lib.hid hv; clear hs hc hp hv
          go_wp2_with fail
          refine HC.out.mono ?_
          rintro e w1 ⟨rfl, rfl⟩
          go_wp2
          go_round
          case rel => exact ⟨n + 1, m + 1, by have := HN.out; omega, by have := HL.out; omega, by go_num, by rw [HS.out]⟩
          case measure => simp [intOf]; omega
      · rw [hv, Bool.true_or] at hs
        have HS := Lib.hid hs; have HV := Lib.hid hv; clear hs hv
        go_wp2
        go_round
        case rel => exact ⟨n + 1, m + 1, by have := HN.out; omega, by have := HL.out; omega, by go_num, by rw [HS.out]⟩
        case measure => simp [intOf]; omega
    · obtain rfl : m = 64 := by omega
      obtain rfl : n = 129 := by omega
      clear hs hlt hm hn
      cases hv : anyN p 64
      · have HO := Lib.hid (HOS.out hv)
        clear hv
        go_wp2_with fail
        refine (HBY.out _ (Below.refl _ _)).mono ?_
        rintro e w1 ⟨rfl, hb1⟩
        have HB1 := Lib.hid hb1
        clear hb1
        go_wp2
        go_ret2
        exact ⟨by rw [HO.out, HTA.out]; rfl, HB1.out⟩
      · have HO := Lib.hid (HOL.out hv)
        have HV := Lib.hid hv
        clear hv
        go_wp2_with fail
        refine (HBY.out _ (Below.refl _ _)).mono ?_
        rintro e w1 ⟨rfl, hb1⟩
        have HB1 := Lib.hid hb1
        have hbz := hb1.size
        obtain ⟨a, rfl, hl0, hnews⟩ := HNW.out (w1.alloc (.cells #[.int .i64 1] 3)) (hbt hb1 (below_al _ _)) HV.out
        have HNS := Lib.hid hnews
        have HL0 := Lib.hid hl0
        clear hb1 hnews hl0
        go_wp2_with (at_builtin; refine wpList_append_lies _ rfl _ _ _ rfl w1.heap.size 3 i0 _ 1 8 Try.underlying31 hi hz0 hz1 hz2 rfl (by omega) (.slice (some ⟨w1.heap.size, 0, none⟩) 1 1) 1 [.int .i64 1] rfl (World.ownsRow_lit w1 #[.int .i64 1] 1 (Nat.le_refl _) (by unfold maxLen; omega) rfl) a len cap news rfl HLM.out HNS.out HNE.out HL0.out (by unfold maxLen; omega) (by omega) (by simp) (w1.heap.size + 1) (by simp) ?_; intro g' cap' w2 hown2 hgrow hat hlt2)
        have HB2 : Hid (Below w.heap.size w w2) := (hbt HB1.out (below_al _ _)).grown hgrow (by simp; omega) (by intro q hq; simp [Value.ownBlock] at hq; omega)
        have HI2 := Lib.hid (HCP.out w2 _ g' _ cap' hown2 rfl)
        clear hown2 hgrow hat hlt2
        go_wp2_with fail
        refine (HBX.out _ _ _ HI2.out).mono ?_
        rintro e w3 ⟨rfl, hb3⟩
        have HB3 := Lib.hid (hbt HB2.out hb3)
        clear hb3
        go_wp2_with fail
        refine (HBZ.out _ HB3.out).mono ?_
        rintro e w4 ⟨rfl, hb4⟩
        have HB4 := Lib.hid (hbt HB3.out hb4)
        have hsz : ¬ 9223372036854775807 < tb.size + tc.size := by rw [HT1.out, HT2.out]; omega
        clear hb4
        go_wp2
        go_ret2
        exact ⟨by rw [HO.out, ← str_append, HTB.out, HTC.out]; rfl, HB4.out⟩

/-- Both styles. -/
theorem refPut_ok (st : Nat) (A : Option Addr) (cap : Nat) (zs : List Int) (w : World) (hst : st = 1 ∨ st = 2) (hI : Ints w A zs) (hz : zs.length ≤ 900) (h : inL zs 1 = false) :
    Calls Try.prog 10 #[.int .i64 (st : Int), .slice A zs.length cap] w fun e w' => e = .returned (.tuple #[.string ⟨(spL st (outL zs)).toArray⟩, .bool true]) ∧ Below w.heap.size w w' := by
  rcases hst with rfl | rfl
  · exact refPut_ok1 A cap zs w hI hz h
  · exact refPut_ok2 A cap zs w hI hz h

end Go.Proofs.Ytdnckiaeeikbhaa
