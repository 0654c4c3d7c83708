/-
  What the document's Pad answers: for every text and width, in every world.
-/
import Derived.Test.YtfifbaclpljmdaaDigPad
namespace Go.Proofs.Ytfifbaclpljmdaa
open Go.RowKit

theorem cons48 (t : ByteArray) : ((⟨#[48]⟩ : ByteArray) ++ t).data.toList = 48 :: t.data.toList := by
  obtain ⟨⟨d⟩⟩ := t
  rw [ByteArray.mk_append_mk]
  simp

set_option maxHeartbeats 800000 in
theorem refPad_more (s : ByteArray) (k : Nat) (w : World) (h1 : 1 ≤ s.size) (h2 : s.size ≤ 999) (ha : allD s.data.toList = true) (h4 : 1 ≤ k) (h5 : k ≤ 999) (hm : s.size ≤ k) :
    Calls Try.prog 16 #[.string s, .int .i64 (k : Int)] w fun e w' => e = .returned (.tuple #[.string ⟨(padL s.data.toList (k : Int)).toArray⟩, .bool true]) ∧ w = w' := by
  have hall : ∀ w, Calls Try.prog 14 #[.string s] w fun e w' => e = .returned (.bool true) ∧ w = w' := by
    intro w
    have := refAll_any s w (by unfold maxLen; omega)
    rw [ha] at this
    exact this
  have HL := Lib.hid hall; clear hall ha
  have t1 : decide ((s.size : Int) < 1) = false := by simp; omega
  have t2 : decide ((999 : Int) < (s.size : Int)) = false := by simp; omega
  have t3 : decide ((k : Int) < 1) = false := by simp; omega
  have t4 : decide ((999 : Int) < (k : Int)) = false := by simp; omega
  go_enter Try.func16, Try.ntmps16
  go_wp2_with (go_at_call 14; refine (HL.out _).mono ?_; rintro e w' ⟨rfl, rfl⟩)
  go_loop [0] (fun a => ∃ (j : Nat) (t : ByteArray), s.size + j ≤ k ∧ a = .string t ∧ t.size = s.size + j ∧ t.data.toList = List.replicate j 48 ++ s.data.toList) (fun a => k - (match a with | .string t => t.size | _ => 0))
  case atStart => exact ⟨0, s, by omega, rfl, rfl, rfl⟩
  case round =>
    obtain ⟨j, t, hj, rfl, ht, hd⟩ := hrel
    have HT := Lib.hid ht
    have HD := Lib.hid hd; clear hd
    have htb : t.size ≤ k := by omega
    clear ht
    by_cases hlt : t.size < k
    · obtain ⟨u, hu⟩ : ∃ u, (⟨#[48]⟩ : ByteArray) ++ t = u := ⟨_, rfl⟩
      have hadd : ∀ W : World, (Op.stringOp .add ⟨#[48]⟩ t).run Try.prog W = .ok (.string u) W := by
        intro W
        rw [run_string_add_sum W _ _ (by show 1 + t.size ≤ _; omega), hu]
      have hul : u.data.toList = 48 :: t.data.toList := by rw [← hu]; exact cons48 t
      have hus : u.size = t.size + 1 := by
        rw [Lib.size_eq, hul, List.length_cons, ← Lib.size_eq]
      have HU := Lib.hid hul
      have HS := Lib.hid hus
      clear hul hus hu
      go_wp2
      go_round
      case rel => exact ⟨j + 1, u, by have := HT.out; omega, rfl, by have := HT.out; have := HS.out; omega, by rw [HU.out, HD.out, List.replicate_succ]; rfl⟩
      case measure => simp; have := HS.out; omega
    · go_wp2
      go_loop [0] (fun a => a = .string t) (fun _ => 0)
      case atStart => rfl
      case round =>
        subst hrel
        go_wp2
        go_ret2
        refine ⟨?_, rfl⟩
        have e : t = ⟨(padL s.data.toList (k : Int)).toArray⟩ := by
          apply bs_ext
          have h := HT.out
          rw [HD.out]
          unfold padL
          rw [Int.toNat_natCast, ← Lib.size_eq, show s.size - k = 0 from by omega, show k - s.size = j from by omega, List.drop_zero]
        rw [← e]
        rfl

theorem byte_first (t : ByteArray) (h0 : 0 < t.size) : t.data.toList[0]? = some t[0] := by
  rw [List.getElem?_eq_getElem (by simpa using h0)]
  simp
  rfl
theorem head_cut (t : ByteArray) (l : List UInt8) (i : Nat) (hd : t.data.toList = l.drop i) (h0 : 0 < t.size) : l.take (i + 1) = l.take i ++ [t[0]] ∧ (t.extract 1 t.size).data.toList = l.drop (i + 1) ∧ (t.extract 1 t.size).size = t.size - 1 := by
  have hl : t.size = l.length - i := by rw [Lib.size_eq, hd, List.length_drop]
  have hi : i < l.length := by omega
  have e1 : (t.extract 1 t.size).data.toList = l.drop (i + 1) := by
    rw [Lib.extract_to_end, hd, List.drop_drop]
  refine ⟨?_, e1, ?_⟩
  · rw [List.take_succ_eq_append_getElem hi]
    have h1 := byte_first t h0
    rw [hd, List.getElem?_drop, Nat.add_zero, List.getElem?_eq_getElem hi] at h1
    rw [Option.some.inj h1]
  · rw [Lib.size_eq, e1, List.length_drop]; omega

set_option maxHeartbeats 800000 in
theorem refPad_less (s : ByteArray) (k : Nat) (w : World) (h1 : 1 ≤ s.size) (h2 : s.size ≤ 999) (ha : allD s.data.toList = true) (h4 : 1 ≤ k) (h5 : k ≤ 999) (hm : k < s.size) :
    Calls Try.prog 16 #[.string s, .int .i64 (k : Int)] w fun e w' => e = .returned (.tuple #[.string (padS s.data.toList (k : Int)), .bool (padB s.data.toList (k : Int))]) ∧ w = w' := by
  have hB : padB s.data.toList (k : Int) = zs (s.data.toList.take (s.size - k)) := by
    rw [padB_eq (padA_yes (by rw [← Lib.size_eq]; exact h1) (by rw [← Lib.size_eq]; exact h2) ha (by omega) (by omega)), ← Lib.size_eq, Int.toNat_natCast]
  have HB := Lib.hid hB; clear hB
  have hall : ∀ w, Calls Try.prog 14 #[.string s] w fun e w' => e = .returned (.bool true) ∧ w = w' := by
    intro w
    have := refAll_any s w (by unfold maxLen; omega)
    rw [ha] at this
    exact this
  have HL := Lib.hid hall; clear hall ha
  have t1 : decide ((s.size : Int) < 1) = false := by simp; omega
  have t2 : decide ((999 : Int) < (s.size : Int)) = false := by simp; omega
  have t3 : decide ((k : Int) < 1) = false := by simp; omega
  have t4 : decide ((999 : Int) < (k : Int)) = false := by simp; omega
  go_enter Try.func16, Try.ntmps16
  go_wp2_with (go_at_call 14; refine (HL.out _).mono ?_; rintro e w' ⟨rfl, rfl⟩)
  go_loop [0] (fun a => a = .string s) (fun _ => 0)
  case atStart => rfl
  case round =>
    subst hrel
    go_wp2
    go_loop [0] (fun a => ∃ (i : Nat) (t : ByteArray), i ≤ s.size - k ∧ a = .string t ∧ t.size = s.size - i ∧ t.data.toList = s.data.toList.drop i ∧ zs (s.data.toList.take i) = true) (fun a => (match a with | .string t => t.size | _ => 0))
    case atStart => exact ⟨0, s, by omega, rfl, rfl, rfl, rfl⟩
    case round =>
      obtain ⟨i, t, hi, rfl, ht, hd, hz⟩ := hrel
      have HT := Lib.hid ht
      have HD := Lib.hid hd
      have HZ := Lib.hid hz
      have htb : t.size ≤ 999 := by omega
      have htk : k ≤ t.size := by omega
      clear hd hz
      by_cases hlt : k < t.size
      · have h0 : 0 < t.size := by omega
        have hik : i < s.size - k := by omega
        have hc := head_cut t s.data.toList i HD.out h0
        have HC := Lib.hid hc; clear hc ht
        cases h48 : t[0] == 48
        · have hne : ((t[0].toNat : Int) != 48) = true := by
            rw [not48] at h48; rw [bne_iff_ne]; omega
          have hfin : zs (s.data.toList.take (s.size - k)) = false := by
            have e : zs (s.data.toList.take (i + 1)) = false := by rw [HC.out.1, zs_snoc, h48]; simp
            unfold zs at e ⊢
            rw [List.all_eq_false] at e ⊢
            obtain ⟨x, hx, hx2⟩ := e
            refine ⟨x, ?_, hx2⟩
            have : (s.data.toList.take (s.size - k)).take (i + 1) = s.data.toList.take (i + 1) := by rw [List.take_take, Nat.min_eq_left (by omega)]
            rw [← this] at hx
            exact List.mem_of_mem_take hx
          have HF := Lib.hid hfin; clear hfin h48
          go_wp2
          go_ret2
          have hb : padB s.data.toList (k : Int) = false := by rw [HB.out, HF.out]
          exact ⟨by rw [padS_no hb, hb]; rfl, rfl⟩
        · have hne : ((t[0].toNat : Int) != 48) = false := by
            rw [is48] at h48; rw [bne_eq_false_iff_eq]; omega
          have hz2 : zs (s.data.toList.take (i + 1)) = true := by rw [HC.out.1, zs_snoc, h48, HZ.out]; rfl
          have HZ2 := Lib.hid hz2; clear hz2 h48
          go_wp2
          go_round
          case rel => exact ⟨i + 1, t.extract 1 t.size, by omega, rfl, by rw [HC.out.2.2, HT.out]; omega, HC.out.2.1, HZ2.out⟩
          case measure => simp; omega
      · have hi2 : i = s.size - k := by omega
        have HI := Lib.hid hi2; clear hi2 ht
        go_wp2
        go_ret2
        refine ⟨?_, rfl⟩
        have e : t = ⟨(padL s.data.toList (k : Int)).toArray⟩ := by
          apply bs_ext
          rw [HD.out, HI.out]
          unfold padL
          rw [Int.toNat_natCast, ← Lib.size_eq, show k - s.size = 0 from by omega]
          simp
        have hb : padB s.data.toList (k : Int) = true := by rw [HB.out, ← HI.out, HZ.out]
        rw [padS_yes hb, hb, ← e]
        rfl

set_option maxHeartbeats 800000 in
theorem refPad_no (s : ByteArray) (k : Int) (w : World) (hs : s.size ≤ maxLen) (h : s.size < 1 ∨ 999 < s.size ∨ allD s.data.toList = false ∨ k < 1 ∨ 999 < k) :
    Calls Try.prog 16 #[.string s, .int .i64 k] w fun e w' => e = .returned (.tuple #[.string ⟨#[]⟩, .bool false]) ∧ w = w' := by
  have hall : ∀ w, Calls Try.prog 14 #[.string s] w fun e w' => e = .returned (.bool (allD s.data.toList)) ∧ w = w' := fun w => refAll_any s w hs
  unfold maxLen at hs
  by_cases h1 : s.size < 1
  · have t1 : decide ((s.size : Int) < 1) = true := by simp; omega
    clear h hall
    go_enter Try.func16, Try.ntmps16
    go_wp2
    go_ret2
    exact ⟨rfl, rfl⟩
  · have t1 : decide ((s.size : Int) < 1) = false := by simp; omega
    by_cases h2 : 999 < s.size
    · have t2 : decide ((999 : Int) < (s.size : Int)) = true := by simp; omega
      clear h hall
      go_enter Try.func16, Try.ntmps16
      go_wp2
      go_ret2
      exact ⟨rfl, rfl⟩
    · have t2 : decide ((999 : Int) < (s.size : Int)) = false := by simp; omega
      cases h3 : allD s.data.toList
      · rw [h3] at hall
        have HL := Lib.hid hall; clear hall h h3
        go_enter Try.func16, Try.ntmps16
        go_wp2_with (go_at_call 14; refine (HL.out _).mono ?_; rintro e w' ⟨rfl, rfl⟩)
        go_ret2
        exact ⟨rfl, rfl⟩
      · have h' : k < 1 ∨ 999 < k := by
          rcases h with h | h | h | h | h
          · omega
          · omega
          · rw [h3] at h; cases h
          · exact Or.inl h
          · exact Or.inr h
        rw [h3] at hall
        have HL := Lib.hid hall; clear hall h h3
        by_cases h4 : k < 1
        · have t3 : decide (k < 1) = true := by simpa using h4
          clear h'
          go_enter Try.func16, Try.ntmps16
          go_wp2_with (go_at_call 14; refine (HL.out _).mono ?_; rintro e w' ⟨rfl, rfl⟩)
          go_ret2
          exact ⟨rfl, rfl⟩
        · have h5 : 999 < k := by omega
          have t3 : decide (k < 1) = false := by simpa using h4
          have t4 : decide (999 < k) = true := by simpa using h5
          clear h'
          go_enter Try.func16, Try.ntmps16
          go_wp2_with (go_at_call 14; refine (HL.out _).mono ?_; rintro e w' ⟨rfl, rfl⟩)
          go_ret2
          exact ⟨rfl, rfl⟩

theorem refPad_any (s : ByteArray) (k : Int) (w : World) (hs : s.size ≤ maxLen) :
    Calls Try.prog 16 #[.string s, .int .i64 k] w fun e w' => e = .returned (.tuple #[.string (padS s.data.toList k), .bool (padB s.data.toList k)]) ∧ w = w' := by
  have hl : s.data.toList.length = s.size := by simp
  by_cases h : s.size < 1 ∨ 999 < s.size ∨ allD s.data.toList = false ∨ k < 1 ∨ 999 < k
  · have hb : padB s.data.toList k = false := padA_no (by rw [hl]; exact h)
    rw [padS_no hb, hb]
    exact refPad_no s k w hs h
  · have h1 : 1 ≤ s.size := by omega
    have h2 : s.size ≤ 999 := by omega
    have h4 : 1 ≤ k := by omega
    have h5 : k ≤ 999 := by omega
    have h3 : allD s.data.toList = true := by
      cases g : allD s.data.toList
      · exact absurd (Or.inr (Or.inr (Or.inl g))) h
      · rfl
    obtain ⟨k, rfl⟩ := Int.eq_ofNat_of_zero_le (show 0 ≤ k by omega)
    by_cases hm : s.size ≤ k
    · have hA : padA s.data.toList (k : Int) = true := padA_yes (by omega) (by omega) h3 h4 h5
      have hB := padB_eq hA
      rw [hl, Int.toNat_natCast] at hB
      rw [show s.size - k = 0 from by omega] at hB
      have hB' : padB s.data.toList (k : Int) = true := hB
      rw [padS_yes hB', hB']
      exact refPad_more s k w h1 h2 h3 (by omega) (by omega) hm
    · exact refPad_less s k w h1 h2 h3 (by omega) (by omega) (by omega)

end Go.Proofs.Ytfifbaclpljmdaa
