/-
  The law WireTypes: for every style and text, in every world that holds the table of kinds.
-/
import Derived.Test.YtckapcafpnlnoaaDoorWirAwk
namespace Go.Proofs.YtckapcafpnlnoaaDoor
open Go.RowKit

theorem wtype_bad (st : Int) (m : ByteArray) (w : World) (h : (st ≠ 1 ∧ st ≠ 2) ∨ mtiB m.data.toList = false) :
    Calls Tryd.prog 9 #[.int .i64 st, .string m] w fun e w' => e = .returned (.tuple #[.string ⟨#[]⟩, .bool false]) ∧ Below w.heap.size w w' := by
  cases hm : mtiB m.data.toList
  · exact wtype_none st m w hm
  · rcases h with h | h
    · exact wtype_style st m w hm h
    · rw [hm] at h; cases h

set_option maxRecDepth 100000 in
set_option maxHeartbeats 1600000 in
theorem wtypes_long (st : Int) (m : ByteArray) (w : World) (hK : Kinds w) (h : 100 < m.size) :
    Calls Tryd.prog 3 #[.int .i64 st, .string m] w fun e w' => e = .returned (.bool true) ∧ Below w.heap.size w w' := by
  have t : decide ((100 : Int) < (m.size : Int)) = true := by simp; omega
  have HK := Lib.hid hK
  clear h hK
  go_enter Tryd.func3, Tryd.ntmps3
  go_wp2_with fail
  refine (wawake_any _ HK.out).mono ?_
  rintro e w1 ⟨rfl, hb1⟩
  have HB1 := Lib.hid hb1
  clear hb1
  go_wp2_with fail
  refine (wawake_any _ (HK.out.below HB1.out)).mono ?_
  rintro e w2 ⟨rfl, hb2⟩
  have HB2 := Lib.hid (hbt HB1.out hb2)
  clear hb2
  go_wp2
  go_ret
  exact ⟨rfl, HB2.out⟩
set_option maxRecDepth 100000 in
set_option maxHeartbeats 1600000 in
theorem wtypes_style (st : Int) (m : ByteArray) (w : World) (hK : Kinds w) (h : ¬ 100 < m.size) (hs : st ≠ 1 ∧ st ≠ 2) :
    Calls Tryd.prog 3 #[.int .i64 st, .string m] w fun e w' => e = .returned (.bool true) ∧ Below w.heap.size w w' := by
  have t : decide ((100 : Int) < (m.size : Int)) = false := by simp; omega
  have HT := Lib.hid (fun W => wtype_bad st m W (.inl hs))
  have t1 : (st != 1) = true := by simpa using hs.1
  have t2 : (st != 2) = true := by simpa using hs.2
  have HK := Lib.hid hK
  clear h hK hs
  go_enter Tryd.func3, Tryd.ntmps3
  go_wp2_with fail
  refine (wawake_any _ HK.out).mono ?_
  rintro e w1 ⟨rfl, hb1⟩
  have HB1 := Lib.hid hb1
  clear hb1
  go_wp2_with fail
  refine (HT.out _).mono ?_
  rintro e w2 ⟨rfl, hb2⟩
  have HB2 := Lib.hid (hbt HB1.out hb2)
  clear hb2
  go_wp2
  go_ret
  exact ⟨rfl, HB2.out⟩
set_option maxRecDepth 100000 in
set_option maxHeartbeats 1600000 in
theorem wtypes_none (k : Nat) (m : ByteArray) (w : World) (hK : Kinds w) (h : ¬ 100 < m.size) (hk : k = 1 ∨ k = 2) (hm : m.size ≤ maxLen) (hz : mtiB m.data.toList = false) :
    Calls Tryd.prog 3 #[.int .i64 (k : Int), .string m] w fun e w' => e = .returned (.bool true) ∧ Below w.heap.size w w' := by
  have t : decide ((100 : Int) < (m.size : Int)) = false := by simp; omega
  have HT := Lib.hid (fun W => wtype_bad (k : Int) m W (.inr hz))
  have HR := Lib.hid (fun W => mrefRight_any m W hm)
  rw [hz] at HR
  have HK := Lib.hid hK
  clear h hK hm hz
  rcases hk with rfl | rfl
  · have HT1 : Hid (∀ W, Calls Tryd.prog 9 #[.int .i64 1, .string m] W fun e w' => e = .returned (.tuple #[.string ⟨#[]⟩, .bool false]) ∧ Below W.heap.size W w') := HT.out
    clear HT
    show Calls Tryd.prog 3 #[.int .i64 1, .string m] w _
    go_enter Tryd.func3, Tryd.ntmps3
    go_wp2_with fail
    refine (wawake_any _ HK.out).mono ?_
    rintro e w1 ⟨rfl, hb1⟩
    have HB1 := Lib.hid hb1
    clear hb1
    go_wp2_with fail
    refine (HT1.out _).mono ?_
    rintro e w2 ⟨rfl, hb2⟩
    have HB2 := Lib.hid (hbt HB1.out hb2)
    clear hb2
    go_wp2_with fail
    refine (HR.out _).mono ?_
    rintro e w3 ⟨rfl, rfl⟩
    go_wp2
    go_ret
    exact ⟨rfl, HB2.out⟩
  · have HT1 : Hid (∀ W, Calls Tryd.prog 9 #[.int .i64 2, .string m] W fun e w' => e = .returned (.tuple #[.string ⟨#[]⟩, .bool false]) ∧ Below W.heap.size W w') := HT.out
    clear HT
    show Calls Tryd.prog 3 #[.int .i64 2, .string m] w _
    go_enter Tryd.func3, Tryd.ntmps3
    go_wp2_with fail
    refine (wawake_any _ HK.out).mono ?_
    rintro e w1 ⟨rfl, hb1⟩
    have HB1 := Lib.hid hb1
    clear hb1
    go_wp2_with fail
    refine (HT1.out _).mono ?_
    rintro e w2 ⟨rfl, hb2⟩
    have HB2 := Lib.hid (hbt HB1.out hb2)
    clear hb2
    go_wp2_with fail
    refine (HR.out _).mono ?_
    rintro e w3 ⟨rfl, rfl⟩
    go_wp2
    go_ret
    exact ⟨rfl, HB2.out⟩
set_option maxRecDepth 100000 in
set_option maxHeartbeats 1600000 in
theorem wtypes_yes (k : Nat) (m : ByteArray) (w : World) (hK : Kinds w) (h : ¬ 100 < m.size) (hk : k = 1 ∨ k = 2) (hm : m.size ≤ maxLen) (hz : mtiB m.data.toList = true) :
    Calls Tryd.prog 3 #[.int .i64 (k : Int), .string m] w fun e w' => e = .returned (.bool true) ∧ Below w.heap.size w w' := by
  have t : decide ((100 : Int) < (m.size : Int)) = false := by simp; omega
  have HT := Lib.hid (fun W => wtype_yes k m W hz hk)
  have HD := Lib.hid (fun W => wrtype_yes k m W hz hk)
  have HR := Lib.hid (fun W => mrefRight_any m W hm)
  rw [hz] at HR
  have HK := Lib.hid hK
  clear h hK hm hz
  generalize (⟨(typL k m.data.toList).toArray⟩ : ByteArray) = x at *
  rcases hk with rfl | rfl
  · have HT1 : Hid (∀ W, Calls Tryd.prog 9 #[.int .i64 1, .string m] W fun e w' => e = .returned (.tuple #[.string x, .bool true]) ∧ Below W.heap.size W w') := HT.out
    have HD1 : Hid (∀ W, Calls Tryd.prog 11 #[.int .i64 1, .string m] W fun e w' => e = .returned (.string x) ∧ Below W.heap.size W w') := HD.out
    clear HT HD
    show Calls Tryd.prog 3 #[.int .i64 1, .string m] w _
    go_enter Tryd.func3, Tryd.ntmps3
    go_wp2_with fail
    refine (wawake_any _ HK.out).mono ?_
    rintro e w1 ⟨rfl, hb1⟩
    have HB1 := Lib.hid hb1
    clear hb1
    go_wp2_with fail
    refine (HT1.out _).mono ?_
    rintro e w2 ⟨rfl, hb2⟩
    have HB2 := Lib.hid (hbt HB1.out hb2)
    clear hb2
    go_wp2_with fail
    refine (HR.out _).mono ?_
    rintro e w3 ⟨rfl, rfl⟩
    go_wp2_with fail
    refine (HD1.out _).mono ?_
    rintro e w4 ⟨rfl, hb4⟩
    have HB4 := Lib.hid (hbt HB2.out hb4)
    clear hb4
    go_wp2
    go_ret
    exact ⟨rfl, HB4.out⟩
  · have HT1 : Hid (∀ W, Calls Tryd.prog 9 #[.int .i64 2, .string m] W fun e w' => e = .returned (.tuple #[.string x, .bool true]) ∧ Below W.heap.size W w') := HT.out
    have HD1 : Hid (∀ W, Calls Tryd.prog 11 #[.int .i64 2, .string m] W fun e w' => e = .returned (.string x) ∧ Below W.heap.size W w') := HD.out
    clear HT HD
    show Calls Tryd.prog 3 #[.int .i64 2, .string m] w _
    go_enter Tryd.func3, Tryd.ntmps3
    go_wp2_with fail
    refine (wawake_any _ HK.out).mono ?_
    rintro e w1 ⟨rfl, hb1⟩
    have HB1 := Lib.hid hb1
    clear hb1
    go_wp2_with fail
    refine (HT1.out _).mono ?_
    rintro e w2 ⟨rfl, hb2⟩
    have HB2 := Lib.hid (hbt HB1.out hb2)
    clear hb2
    go_wp2_with fail
    refine (HR.out _).mono ?_
    rintro e w3 ⟨rfl, rfl⟩
    go_wp2_with fail
    refine (HD1.out _).mono ?_
    rintro e w4 ⟨rfl, hb4⟩
    have HB4 := Lib.hid (hbt HB2.out hb4)
    clear hb4
    go_wp2
    go_ret
    exact ⟨rfl, HB4.out⟩

theorem wtypes_walk (st : Int) (m : ByteArray) (w : World) (hK : Kinds w) (_h1 : -9223372036854775808 ≤ st) (_h2 : st ≤ 9223372036854775807) (hm : m.size ≤ maxLen) :
    Calls Tryd.prog 3 #[.int .i64 st, .string m] w fun e w' => e = .returned (.bool true) ∧ Below w.heap.size w w' := by
  by_cases h : 100 < m.size
  · exact wtypes_long st m w hK h
  · by_cases hs : st ≠ 1 ∧ st ≠ 2
    · exact wtypes_style st m w hK h hs
    · obtain ⟨k, rfl, hk⟩ : ∃ k : Nat, st = (k : Int) ∧ (k = 1 ∨ k = 2) := ⟨st.toNat, by omega, by omega⟩
      cases hz : mtiB m.data.toList
      · exact wtypes_none k m w hK h hk hm hz
      · exact wtypes_yes k m w hK h hk hm hz

end Go.Proofs.YtckapcafpnlnoaaDoor
