/-
  What both Pads answer: for every text and width, in every world.
-/
import Derived.Test.YtfifbaclpljmdaaDigGet
import Derived.Test.YtfifbaclpljmdaaShelf
import Derived.Lib.Strings
import Derived.Lib.IndexBytes
namespace Go.Proofs.Ytfifbaclpljmdaa
open Go.RowKit

def zs (l : List UInt8) : Bool := l.all fun c => c == 48
def padA (l : List UInt8) (w : Int) : Bool := decide (1 ≤ l.length) && decide (l.length ≤ 999) && allD l && decide (1 ≤ w) && decide (w ≤ 999)
def padB (l : List UInt8) (w : Int) : Bool := padA l w && zs (l.take (l.length - w.toNat))
def padL (l : List UInt8) (w : Int) : List UInt8 := List.replicate (w.toNat - l.length) 48 ++ l.drop (l.length - w.toNat)
def padS (l : List UInt8) (w : Int) : ByteArray := if padB l w = true then ⟨(padL l w).toArray⟩ else ⟨#[]⟩
theorem padS_yes {l : List UInt8} {w : Int} (h : padB l w = true) : padS l w = ⟨(padL l w).toArray⟩ := by simp [padS, h]
theorem padS_no {l : List UInt8} {w : Int} (h : padB l w = false) : padS l w = ⟨#[]⟩ := by simp [padS, h]
theorem padA_no {l : List UInt8} {w : Int} (h : l.length < 1 ∨ 999 < l.length ∨ allD l = false ∨ w < 1 ∨ 999 < w) : padB l w = false := by
  unfold padB padA
  rcases h with h | h | h | h | h
  · simp [show ¬ 1 ≤ l.length by omega]
  · simp [show ¬ l.length ≤ 999 by omega]
  · simp [h]
  · simp [show ¬ 1 ≤ w by omega]
  · simp [show ¬ w ≤ 999 by omega]
theorem padA_yes {l : List UInt8} {w : Int} (h1 : 1 ≤ l.length) (h2 : l.length ≤ 999) (h3 : allD l = true) (h4 : 1 ≤ w) (h5 : w ≤ 999) : padA l w = true := by
  simp [padA, h1, h2, h3, h4, h5]
theorem padB_eq {l : List UInt8} {w : Int} (h : padA l w = true) : padB l w = zs (l.take (l.length - w.toNat)) := by simp [padB, h]
theorem bs_ext {a b : ByteArray} (h : a.data.toList = b.data.toList) : a = b := by
  apply ByteArray.ext; exact Array.toList_inj.1 h
theorem zs_snoc (l : List UInt8) (c : UInt8) : zs (l ++ [c]) = (zs l && c == 48) := by simp [zs]
theorem zs_step (s : ByteArray) (k : Nat) (h : k < s.size) : zs (s.data.toList.take (k + 1)) = (zs (s.data.toList.take k) && s[k] == 48) := by
  rw [take_snoc s k h, zs_snoc]
theorem zs_bad (s : ByteArray) (k : Nat) (h : k < s.size) (hb : (s[k] == 48) = false) : zs s.data.toList = false := by
  unfold zs
  rw [List.all_eq_false]
  exact ⟨s[k], by show s.data[k] ∈ s.data.toList; simp, by simp [hb]⟩
theorem is48 (c : UInt8) : (c == 48) = true ↔ c.toNat = 48 := by
  rw [beq_iff_eq]
  constructor
  · intro h; rw [h]; rfl
  · intro h; exact UInt8.toNat_inj.1 h
theorem not48 (c : UInt8) : (c == 48) = false ↔ c.toNat ≠ 48 := by
  rw [← Bool.not_eq_true, is48]

set_option maxHeartbeats 800000 in
theorem noughts_any (s : ByteArray) (w : World) :
    Calls Try.prog 20 #[.string s] w fun e w' => e = .returned (.bool (zs s.data.toList)) ∧ Below w.heap.size w w' := by
  go_enter Try.func20, Try.ntmps20
  go_wp2
  go_loopw [] (fun w' => ∃ k : Nat, k ≤ s.size ∧ w' = w.iter s k ∧ zs (s.data.toList.take k) = true) (fun w' => s.size - w'.iterPos w.heap.size)
  case atStart => exact ⟨0, Nat.zero_le _, rfl, rfl⟩
  case round =>
    obtain ⟨k, hk, rfl, ha⟩ := hrel
    by_cases hlt : k < s.size
    · have hst := zs_step s k hlt
      have hbad := zs_bad s k hlt
      rw [ha] at hst
      have hnx : ∀ ty, (Instr.next (.pointer (some ⟨w.heap.size, 0, none⟩)) true ty).run Try.prog (w.iter s k) = _ := fun ty => run_next_any w s k ty hlt
      cases hd : s[k] == 48
      · have HB := Lib.hid (hbad hd); clear hbad hst ha
        rw [not48] at hd
        have hr : (((Utf8.decode s k).1 : Int) != 48) = true := by
          rw [bne_iff_ne]
          by_cases h8 : s[k].toNat < 128
          · rw [decode_ascii s k hlt h8]; dsimp only; omega
          · have := (decode_high s k hlt (by omega)).1; omega
        clear hd
        go_wp2
        go_ret
        exact ⟨by rw [HB.out]; rfl, (Below.refl _ _).alloc (Nat.le_refl _) _⟩
      · rw [hd] at hst
        have HS := Lib.hid hst; clear hbad hst ha
        rw [is48] at hd
        have hde := decode_ascii s k hlt (by omega)
        rw [hde, hd] at hnx
        clear hd hde
        go_wp2
        go_roundw
        case rel => exact ⟨k + 1, by omega, rfl, by rw [HS.out]; rfl⟩
        case measure => simp; omega
    · have HA := Lib.hid ha; clear ha
      have hnx : ∀ ty, (Instr.next (.pointer (some ⟨w.heap.size, 0, none⟩)) true ty).run Try.prog (w.iter s k) = _ := fun ty => run_next_end w s k ty hlt
      go_wp2
      go_ret
      have h := HA.out
      rw [List.take_of_length_le (by simp; omega)] at h
      exact ⟨by rw [h]; rfl, (Below.refl _ _).alloc (Nat.le_refl _) _⟩

theorem pad_more (l : List UInt8) (k : Nat) (s : ByteArray) (hl : s.data.toList = l) (h : l.length ≤ k) :
    (⟨(Lib.repeatL [48] (k - l.length)).toArray⟩ : ByteArray) ++ s = ⟨(padL l (k : Int)).toArray⟩ := by
  obtain ⟨⟨d⟩⟩ := s
  have e : ∀ c, Lib.repeatL [48] c = List.replicate c (48 : UInt8) := by
    intro c
    induction c with
    | zero => rfl
    | succ c ih => rw [Lib.repeatL, ih, List.replicate_succ]; rfl
  simp only at hl
  subst hl
  rw [ByteArray.mk_append_mk, e]
  unfold padL
  rw [Int.toNat_natCast, show d.length - k = 0 from by omega, List.drop_zero]

set_option maxHeartbeats 800000 in
theorem pad_more_calls (s : ByteArray) (k : Nat) (w : World) (h1 : 1 ≤ s.size) (h2 : s.size ≤ 999) (ha : allD s.data.toList = true) (h4 : 1 ≤ k) (h5 : k ≤ 999) (hm : s.size ≤ k) :
    Calls Try.prog 15 #[.string s, .int .i64 (k : Int)] w fun e w' => e = .returned (.tuple #[.string ⟨(padL s.data.toList (k : Int)).toArray⟩, .bool true]) ∧ Below w.heap.size w w' := by
  have hall : ∀ w, Calls Try.prog 13 #[.string s] w fun e w' => e = .returned (.bool true) ∧ Below w.heap.size w w' := by
    intro w
    have := all_any s w
    rw [ha] at this
    exact this
  have HL := Lib.hid hall; clear hall ha
  have hrep : ∀ w, Calls Try.prog 19 #[.string ⟨#[48]⟩, .int .i64 ((k : Int) - (s.size : Int))] w fun e w' => e = .returned (.string ⟨(Lib.repeatL [48] (k - s.size)).toArray⟩) ∧ Below w.heap.size w w' := by
    intro w
    have := Try.strings_Repeat ⟨#[48]⟩ (k - s.size) w (by omega) (by show 1 * (k - s.size) ≤ _; omega)
    rw [show ((k - s.size : Nat) : Int) = (k : Int) - (s.size : Int) from by omega] at this
    exact this
  have HR := Lib.hid hrep; clear hrep
  have hadd : ∀ W : World, (Op.stringOp .add ⟨(Lib.repeatL [48] (k - s.size)).toArray⟩ s).run Try.prog W = .ok (.string ⟨(padL s.data.toList (k : Int)).toArray⟩) W := by
    intro W
    have hl : s.data.toList.length = s.size := by simp
    rw [run_string_add_sum W _ _ (by show (Lib.repeatL [48] (k - s.size)).toArray.size + s.size ≤ _; simp [Lib.repeatL_length]; omega), ← pad_more s.data.toList k s rfl (by omega), hl]
  go_enter Try.func15, Try.ntmps15
  go_wp2_with (first | (go_at_call 17; refine (within_yes _ _ _ (by omega) (by omega)).mono ?_; rintro e w' ⟨rfl, rfl⟩) | (go_at_call 13; refine (HL.out _).mono ?_; rintro e w1 ⟨rfl, hb1⟩) | (go_at_call 19; refine (HR.out _).mono ?_; rintro e w2 ⟨rfl, hb2⟩))
  go_ret2
  exact ⟨rfl, hb1.trans (hb2.mono (by exact hb1.size))⟩

theorem pad_less (s : ByteArray) (k : Nat) (h : k < s.size) : s.extract (s.size - k) s.size = ⟨(padL s.data.toList (k : Int)).toArray⟩ := by
  apply bs_ext
  have hl : s.data.toList.length = s.size := by simp
  rw [Lib.extract_to_end]
  unfold padL
  rw [Int.toNat_natCast, hl, show k - s.size = 0 from by omega]
  simp

set_option maxHeartbeats 800000 in
theorem pad_less_calls (s : ByteArray) (k : Nat) (w : World) (h1 : 1 ≤ s.size) (h2 : s.size ≤ 999) (ha : allD s.data.toList = true) (h4 : 1 ≤ k) (h5 : k ≤ 999) (hm : k < s.size) :
    Calls Try.prog 15 #[.string s, .int .i64 (k : Int)] w fun e w' => e = .returned (.tuple #[.string (if zs (s.data.toList.take (s.size - k)) = true then ⟨(padL s.data.toList (k : Int)).toArray⟩ else ⟨#[]⟩), .bool (zs (s.data.toList.take (s.size - k)))]) ∧ Below w.heap.size w w' := by
  have hall : ∀ w, Calls Try.prog 13 #[.string s] w fun e w' => e = .returned (.bool true) ∧ Below w.heap.size w w' := by
    intro w
    have := all_any s w
    rw [ha] at this
    exact this
  have HL := Lib.hid hall; clear hall ha
  have hz : ∀ w, Calls Try.prog 20 #[.string (s.extract 0 (s.size - k))] w fun e w' => e = .returned (.bool (zs (s.data.toList.take (s.size - k)))) ∧ Below w.heap.size w w' := by
    intro w
    have := noughts_any (s.extract 0 (s.size - k)) w
    rw [Lib.extract_data, List.drop_zero, Nat.sub_zero] at this
    exact this
  have hpl := pad_less s k hm
  cases hzz : zs (s.data.toList.take (s.size - k))
  · rw [hzz] at hz
    have HZ := Lib.hid hz; clear hz hzz hpl
    simp only [Bool.false_eq_true, if_false]
    have e1 : ((s.size : Int) - (k : Int)).toNat = s.size - k := by omega
    go_enter Try.func15, Try.ntmps15
    go_wp2_with (first | (go_at_call 17; refine (within_yes _ _ _ (by omega) (by omega)).mono ?_; rintro e w' ⟨rfl, rfl⟩) | (go_at_call 13; refine (HL.out _).mono ?_; rintro e w1 ⟨rfl, hb1⟩) | (go_at_call 20; refine (HZ.out _).mono ?_; rintro e w2 ⟨rfl, hb2⟩))
    go_ret2
    exact ⟨rfl, hb1.trans (hb2.mono (by exact hb1.size))⟩
  · rw [hzz] at hz
    have HZ := Lib.hid hz
    have HP := Lib.hid hpl
    clear hz hzz hpl
    simp only [if_true]
    have e1 : ((s.size : Int) - (k : Int)).toNat = s.size - k := by omega
    go_enter Try.func15, Try.ntmps15
    go_wp2_with (first | (go_at_call 17; refine (within_yes _ _ _ (by omega) (by omega)).mono ?_; rintro e w' ⟨rfl, rfl⟩) | (go_at_call 13; refine (HL.out _).mono ?_; rintro e w1 ⟨rfl, hb1⟩) | (go_at_call 20; refine (HZ.out _).mono ?_; rintro e w2 ⟨rfl, hb2⟩))
    go_ret2
    exact ⟨by rw [← HP.out]; rfl, hb1.trans (hb2.mono (by exact hb1.size))⟩

set_option maxHeartbeats 800000 in
theorem pad_no (s : ByteArray) (k : Int) (w : World) (hs : s.size ≤ maxLen) (h : s.size < 1 ∨ 999 < s.size ∨ allD s.data.toList = false ∨ k < 1 ∨ 999 < k) :
    Calls Try.prog 15 #[.string s, .int .i64 k] w fun e w' => e = .returned (.tuple #[.string ⟨#[]⟩, .bool false]) ∧ Below w.heap.size w w' := by
  unfold maxLen at hs
  by_cases h1 : s.size < 1 ∨ 999 < s.size
  · have H1 : Hid ((s.size : Int) < 1 ∨ 999 < (s.size : Int)) := by show _ ∨ _; omega
    clear h h1
    go_enter Try.func15, Try.ntmps15
    go_wp2_with (go_at_call 17; refine (within_no _ _ _ H1.out).mono ?_; rintro e w' ⟨rfl, rfl⟩)
    go_ret2
    exact ⟨rfl, Below.refl _ _⟩
  · have g1 : 1 ≤ s.size := by omega
    have g2 : s.size ≤ 999 := by omega
    by_cases h2 : k < 1 ∨ 999 < k
    · have H2 := Lib.hid h2
      clear h h1 h2
      have hin1 : ∀ w, Calls Try.prog 17 #[.int .i64 (s.size : Int), .int .i64 999] w fun e w' => e = .returned (.bool true) ∧ w = w' := fun w => within_yes _ _ w (by omega) (by omega)
      have hin2 : ∀ w, Calls Try.prog 17 #[.int .i64 k, .int .i64 999] w fun e w' => e = .returned (.bool false) ∧ w = w' := fun w => within_no _ _ w H2.out
      have K1 := Lib.hid hin1
      have K2 := Lib.hid hin2
      clear hin1 hin2 H2
      go_enter Try.func15, Try.ntmps15
      go_wp2_with fail
      refine (K1.out _).mono ?_
      rintro e w' ⟨rfl, rfl⟩
      go_wp2_with fail
      refine (K2.out _).mono ?_
      rintro e w' ⟨rfl, rfl⟩
      go_wp2
      go_ret2
      exact ⟨rfl, Below.refl _ _⟩
    · have g4 : 1 ≤ k := by omega
      have g5 : k ≤ 999 := by omega
      have h3 : allD s.data.toList = false := by
        rcases h with h | h | h | h | h
        · omega
        · omega
        · exact h
        · omega
        · omega
      have hall : ∀ w, Calls Try.prog 13 #[.string s] w fun e w' => e = .returned (.bool false) ∧ Below w.heap.size w w' := by
        intro w
        have := all_any s w
        rw [h3] at this
        exact this
      have HL := Lib.hid hall; clear hall h h1 h2 h3
      go_enter Try.func15, Try.ntmps15
      go_wp2_with (first | (go_at_call 17; refine (within_yes _ _ _ (by omega) (by omega)).mono ?_; rintro e w' ⟨rfl, rfl⟩) | (go_at_call 13; refine (HL.out _).mono ?_; rintro e w1 ⟨rfl, hb1⟩))
      go_ret2
      exact ⟨rfl, hb1⟩

theorem pad_any (s : ByteArray) (k : Int) (w : World) (hs : s.size ≤ maxLen) :
    Calls Try.prog 15 #[.string s, .int .i64 k] w fun e w' => e = .returned (.tuple #[.string (padS s.data.toList k), .bool (padB s.data.toList k)]) ∧ Below w.heap.size w w' := by
  have hl : s.data.toList.length = s.size := by simp
  by_cases h : s.size < 1 ∨ 999 < s.size ∨ allD s.data.toList = false ∨ k < 1 ∨ 999 < k
  · have hb : padB s.data.toList k = false := padA_no (by rw [hl]; exact h)
    rw [padS_no hb, hb]
    exact pad_no s k w hs h
  · have h1 : 1 ≤ s.size := by omega
    have h2 : s.size ≤ 999 := by omega
    have h4 : 1 ≤ k := by omega
    have h5 : k ≤ 999 := by omega
    have h3 : allD s.data.toList = true := by
      cases g : allD s.data.toList
      · exact absurd (Or.inr (Or.inr (Or.inl g))) h
      · rfl
    obtain ⟨k, rfl⟩ := Int.eq_ofNat_of_zero_le (show 0 ≤ k by omega)
    have hA : padA s.data.toList (k : Int) = true := padA_yes (by omega) (by omega) h3 h4 h5
    have hB := padB_eq hA
    rw [hl, Int.toNat_natCast] at hB
    by_cases hm : s.size ≤ k
    · rw [show s.size - k = 0 from by omega] at hB
      have hB' : padB s.data.toList (k : Int) = true := hB
      rw [padS_yes hB', hB']
      exact pad_more_calls s k w h1 h2 h3 (by omega) (by omega) hm
    · unfold padS
      rw [hB]
      exact pad_less_calls s k w h1 h2 h3 (by omega) (by omega) (by omega)

end Go.Proofs.Ytfifbaclpljmdaa
