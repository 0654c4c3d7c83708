/-
  What First answers, and the document's First and Wider: for every class and text.
-/
import Derived.Test.YtmobillfeldcjaaDoorClsIs
namespace Go.Proofs.YtmobillfeldcjaaDoor
open Go.RowKit

theorem fst_step (c : Int) (s : ByteArray) (k : Nat) (h : k < s.size) (ha : (s.data.toList.take k).all (fun x => isO c x.toNat) = true) (hb : isO c s[k].toNat = true) :
    (s.data.toList.take (k + 1)).all (fun x => isO c x.toNat) = true := by
  rw [List.take_succ_eq_append_getElem (by simpa using h), List.all_append, ha]
  simp only [List.all_cons, List.all_nil, Bool.and_true, Bool.true_and]
  exact hb
theorem fst_end (c : Int) (s : ByteArray) (k : Nat) (h : ¬ k < s.size) (ha : (s.data.toList.take k).all (fun x => isO c x.toNat) = true) : fst c s.data.toList = -1 := by
  rw [List.take_of_length_le (by simp; omega)] at ha
  exact fst_all ha
theorem fst_here (c : Int) (s : ByteArray) (k : Nat) (h : k < s.size) (ha : (s.data.toList.take k).all (fun x => isO c x.toNat) = true) (hb : isO c s[k].toNat = false) : fst c s.data.toList = (k : Int) :=
  fst_at (by simpa using h) ha hb

set_option maxHeartbeats 800000 in
theorem first_any (c : Int) (s : ByteArray) (w : World) (hw : Kinds w) (hs : s.size ≤ maxLen) :
    Calls Tryd.prog 17 #[.int .i64 c, .string s] w fun e w' => e = .returned (.int .i64 (fst c s.data.toList)) ∧ Below w.heap.size w w' := by
  unfold maxLen at hs
  have HW := Lib.hid hw; clear hw
  go_enter Tryd.func17, Tryd.ntmps17
  go_wp2
  go_loopw [8] (fun i w' => ∃ k : Nat, k ≤ s.size ∧ i = .int .i64 (k : Int) ∧ (s.data.toList.take k).all (fun x => isO c x.toNat) = true ∧ Below w.heap.size w w') (fun i _ => s.size - (intOf i).toNat)
  case atStart => exact ⟨0, Nat.zero_le _, rfl, rfl, Below.refl _ _⟩
  case round =>
    obtain ⟨k, hk, rfl, ha, hbel⟩ := hrel
    have HA := Lib.hid ha; clear ha
    have HBL := Lib.hid hbel; clear hbel
    by_cases hlt : k < s.size
    · have hx := ix_str s k hlt
      have HI := Lib.hid (fun w hw => is_any c s[k].toNat w hw)
      cases hd : isO c s[k].toNat
      · rw [hd] at HI
        have HB := Lib.hid (fst_here c s k hlt HA.out hd)
        clear hd
        generalize s[k] = x at hx HI
        go_wp2_with fail
        refine (HI.out _ (HW.out.below HBL.out)).mono ?_
        rintro e w1 ⟨rfl, hb1⟩
        go_wp2_with fail
        go_ret
        exact ⟨by rw [HB.out]; rfl, hbt HBL.out hb1⟩
      · rw [hd] at HI
        have HS := Lib.hid (fst_step c s k hlt HA.out hd)
        clear hd
        generalize s[k] = x at hx HI
        go_wp2_with fail
        refine (HI.out _ (HW.out.below HBL.out)).mono ?_
        rintro e w1 ⟨rfl, hb1⟩
        go_wp2_with fail
        go_roundw
        case rel => exact ⟨k + 1, by omega, by go_num, HS.out, hbt HBL.out hb1⟩
        case measure => simp [intOf]; omega
    · have HB := Lib.hid (fst_end c s k hlt HA.out)
      go_wp2
      go_ret
      exact ⟨by rw [HB.out]; rfl, HBL.out⟩

set_option maxHeartbeats 800000 in
theorem refFirst_any (c : Int) (s : ByteArray) (w : World) (hs : s.size ≤ maxLen) :
    Calls Tryd.prog 19 #[.int .i64 c, .string s] w fun e w' => e = .returned (.int .i64 (fst c s.data.toList)) ∧ w = w' := by
  unfold maxLen at hs
  go_enter Tryd.func19, Tryd.ntmps19
  go_wp2
  go_loop [5] (fun i => ∃ k : Nat, k ≤ s.size ∧ i = .int .i64 (k : Int) ∧ (s.data.toList.take k).all (fun x => isO c x.toNat) = true) (fun i => s.size - (intOf i).toNat)
  case atStart => exact ⟨0, Nat.zero_le _, rfl, rfl⟩
  case round =>
    obtain ⟨k, hk, rfl, ha⟩ := hrel
    have HA := Lib.hid ha; clear ha
    by_cases hlt : k < s.size
    · have hx := ix_str s k hlt
      have HI := Lib.hid (fun w => refIs_any c s[k].toNat w)
      cases hd : isO c s[k].toNat
      · rw [hd] at HI
        have HB := Lib.hid (fst_here c s k hlt HA.out hd)
        clear hd
        generalize s[k] = x at hx HI
        go_wp2_with fail
        refine (HI.out _).mono ?_
        rintro e w1 ⟨rfl, rfl⟩
        go_wp2_with fail
        go_ret
        exact ⟨by rw [HB.out]; rfl, rfl⟩
      · rw [hd] at HI
        have HS := Lib.hid (fst_step c s k hlt HA.out hd)
        clear hd
        generalize s[k] = x at hx HI
        go_wp2_with fail
        refine (HI.out _).mono ?_
        rintro e w1 ⟨rfl, rfl⟩
        go_wp2_with fail
        go_round
        case rel => exact ⟨k + 1, by omega, by go_num, HS.out⟩
        case measure => simp [intOf]; omega
    · have HB := Lib.hid (fst_end c s k hlt HA.out)
      go_wp2
      go_ret
      exact ⟨by rw [HB.out]; rfl, rfl⟩

set_option maxHeartbeats 800000 in
theorem refWider_no (a b : Int) (w : World) (h : isC a = false ∨ isC b = false) :
    Calls Tryd.prog 22 #[.int .i64 a, .int .i64 b] w fun e w' => e = .returned (.bool false) ∧ w = w' := by
  rw [isC_false, isC_false] at h
  go_enter Tryd.func22, Tryd.ntmps22
  rcases (show a < 1 ∨ (1 ≤ a ∧ 6 < a) ∨ (1 ≤ a ∧ a ≤ 6 ∧ b < 1) ∨ (1 ≤ a ∧ a ≤ 6 ∧ 1 ≤ b ∧ 6 < b) by omega) with h1 | ⟨h1, h2⟩ | ⟨h1, h2, h3⟩ | ⟨h1, h2, h3, h4⟩
  all_goals
    clear h
    go_wp2
    go_ret
    exact ⟨rfl, rfl⟩
set_option maxHeartbeats 1600000 in
theorem refWider_yes (a b : Int) (w : World) (ha : isC a = true) (hb : isC b = true) :
    Calls Tryd.prog 22 #[.int .i64 a, .int .i64 b] w fun e w' => e = .returned (.bool (wid a b)) ∧ w = w' := by
  have hno : ∀ j, j < 256 → isO b j = true → isO a j = false → wid a b = false := fun j hj h1 h2 => wid_bad hj h1 h2
  have hyes : (∀ j, j < 256 → isO b j = true → isO a j = true) → wid a b = true := wid_all ha hb
  generalize wid a b = r at hno hyes ⊢
  have HNO := Lib.hid hno; clear hno
  have HYES := Lib.hid hyes; clear hyes
  rw [isC_iff] at ha hb
  have h1 : (1 : Int) ≤ a := by omega
  have h2 := ha.2
  have h3 : (1 : Int) ≤ b := by omega
  have h4 := hb.2
  clear ha hb
  go_enter Tryd.func22, Tryd.ntmps22
  go_wp2
  clear h1 h2 h3 h4
  go_loop [5] (fun i => ∃ k : Nat, k ≤ 256 ∧ i = .int .i64 (k : Int) ∧ ∀ j, j < k → isO b j = true → isO a j = true) (fun i => 256 - (intOf i).toNat)
  case atStart => exact ⟨0, by omega, rfl, by omega⟩
  case round =>
    obtain ⟨k, hk, rfl, hall⟩ := hrel
    have HA := Lib.hid hall; clear hall
    by_cases hlt : k < 256
    · have tk : decide ((k : Int) < 256) = true := by simp; omega
      have hk9 : (k : Int) < 1000 := by omega
      have hwr : IntKind.u8.wrap (k : Int) = (k : Int) := by
        rw [IntKind.wrap_u8]; omega
      have HIB := Lib.hid (fun w => refIs_any b k w)
      have HIA := Lib.hid (fun w => refIs_any a k w)
      have HL := Lib.hid hlt; clear hlt hk
      cases hdb : isO b k
      · rw [hdb] at HIB
        have HD := Lib.hid hdb; clear hdb
        go_wp2_with fail
        refine (HIB.out _).mono ?_
        rintro e w1 ⟨rfl, rfl⟩
        go_wp2_with fail
        go_round
        case rel => exact ⟨k + 1, HL.out, by go_num, fun j hj hb => by
          by_cases e : j = k
          · subst e; rw [HD.out] at hb; cases hb
          · exact HA.out j (by omega) hb⟩
        case measure => have := HL.out; simp [intOf]; omega
      · rw [hdb] at HIB
        have HD := Lib.hid hdb; clear hdb
        cases hda : isO a k
        · rw [hda] at HIA
          have HB := Lib.hid (HNO.out k HL.out HD.out hda); clear hda
          go_wp2_with fail
          refine (HIB.out _).mono ?_
          rintro e w1 ⟨rfl, rfl⟩
          go_wp2_with fail
          refine (HIA.out _).mono ?_
          rintro e w1 ⟨rfl, rfl⟩
          go_wp2_with fail
          go_ret
          exact ⟨by rw [HB.out]; rfl, rfl⟩
        · rw [hda] at HIA
          have HE := Lib.hid hda; clear hda
          go_wp2_with fail
          refine (HIB.out _).mono ?_
          rintro e w1 ⟨rfl, rfl⟩
          go_wp2_with fail
          refine (HIA.out _).mono ?_
          rintro e w1 ⟨rfl, rfl⟩
          go_wp2_with fail
          go_round
          case rel => exact ⟨k + 1, HL.out, by go_num, fun j hj hb => by
            by_cases e : j = k
            · subst e; exact HE.out
            · exact HA.out j (by omega) hb⟩
          case measure => have := HL.out; simp [intOf]; omega
    · have HB := Lib.hid (HYES.out (fun j hj => HA.out j (by omega)))
      have tk : decide ((k : Int) < 256) = false := by simp; omega
      clear hk hlt
      go_wp2
      go_ret
      exact ⟨by rw [HB.out]; rfl, rfl⟩
theorem refWider_any (a b : Int) (w : World) :
    Calls Tryd.prog 22 #[.int .i64 a, .int .i64 b] w fun e w' => e = .returned (.bool (wid a b)) ∧ w = w' := by
  cases h : isC a
  · rw [wid_no_a h]
    exact refWider_no a b w (.inl h)
  cases g : isC b
  · rw [wid_no_b g]
    exact refWider_no a b w (.inr g)
  exact refWider_yes a b w h g

end Go.Proofs.YtmobillfeldcjaaDoor
