/-
  Texts of one family, laid together: TagMath, TagSmall, TagRt, TagPut, TagGet, TagRefGet.
-/
import Derived.Test.YtnbllngljgmebaaDoorPackBase
import Derived.IntWalk
import Derived.Laws.BitsLemmas

/-
  Tags: which numbers are tags, which bytes they have, and which tag stands in bytes; put and got undo each other, and no tag's bytes begin another one's. (No program is named here.)
-/
namespace Go.Proofs.YtnbllngljgmebaaDoor

/-- How many bytes a tag has that begins so; 0: none begins so. -/
def tfirst (c : Nat) : Nat := if c = 0 ∨ c / 32 % 2 = 1 then 0 else if c % 32 = 31 then 2 else 1
def tends (c : Nat) : Prop := 1 ≤ c ∧ c ≤ 127
instance (c : Nat) : Decidable (tends c) := by unfold tends; infer_instance
/-- The number is a tag: of one byte; of two bytes. -/
def tone (n : Nat) : Prop := n < 256 ∧ tfirst n = 1
def ttwo (n : Nat) : Prop := 256 ≤ n ∧ n < 65536 ∧ tfirst (n / 256) = 2 ∧ tends (n % 256)
instance (n : Nat) : Decidable (tone n) := by unfold tone; infer_instance
instance (n : Nat) : Decidable (ttwo n) := by unfold ttwo; infer_instance
def tputL (n : Nat) : List UInt8 := if n < 256 then [UInt8.ofNat n] else [UInt8.ofNat (n / 256), UInt8.ofNat (n % 256)]
/-- What two bytes say that stand there, the second one perhaps not. -/
def tread (p a : Nat) : Option Nat → Nat × Nat × Nat
  | none => if tfirst a = 0 then (0, 0, 13) else if tfirst a = 1 then (a, p + 1, 0) else (0, 0, 2)
  | some b => if tfirst a = 0 then (0, 0, 13) else if tfirst a = 1 then (a, p + 1, 0) else if tends b then (256 * a + b, p + 2, 0) else (0, 0, 13)
/-- The tag, the place behind it, an error. -/
def tget (l : List UInt8) (p : Nat) : Nat × Nat × Nat :=
  match l[p]? with
  | none => (0, 0, 2)
  | some a => tread p a.toNat ((l[p + 1]?).map UInt8.toNat)

theorem tfirst_cases (c : Nat) : (tfirst c = 0 ∧ (c = 0 ∨ c / 32 % 2 = 1)) ∨ (tfirst c = 1 ∧ c ≠ 0 ∧ c / 32 % 2 = 0 ∧ c % 32 ≠ 31) ∨ (tfirst c = 2 ∧ c ≠ 0 ∧ c / 32 % 2 = 0 ∧ c % 32 = 31) := by
  unfold tfirst
  split
  · left; exact ⟨rfl, by assumption⟩
  · split
    · right; right; refine ⟨rfl, ?_, ?_, by assumption⟩ <;> omega
    · right; left; refine ⟨rfl, ?_, ?_, by assumption⟩ <;> omega
theorem tputL_one {n : Nat} (h : n < 256) : tputL n = [UInt8.ofNat n] := by unfold tputL; rw [if_pos h]
theorem tputL_two {n : Nat} (h : 256 ≤ n) : tputL n = [UInt8.ofNat (n / 256), UInt8.ofNat (n % 256)] := by unfold tputL; rw [if_neg (by omega)]
theorem tputL_length_le (n : Nat) : 1 ≤ (tputL n).length ∧ (tputL n).length ≤ 2 := by unfold tputL; split <;> simp

theorem tget_cut {l : List UInt8} {p : Nat} (h : l.length ≤ p) : tget l p = (0, 0, 2) := by unfold tget; rw [List.getElem?_eq_none h]
theorem tget_at {l : List UInt8} {p : Nat} (a : UInt8) (h : l[p]? = some a) : tget l p = tread p a.toNat ((l[p + 1]?).map UInt8.toNat) := by unfold tget; rw [h]
theorem tread_no {p a : Nat} (o : Option Nat) (h : tfirst a = 0) : tread p a o = (0, 0, 13) := by cases o <;> simp [tread, h]
theorem tread_one {p a : Nat} (o : Option Nat) (h : tfirst a = 1) : tread p a o = (a, p + 1, 0) := by cases o <;> simp [tread, h]
theorem tread_cut {p a : Nat} (h : tfirst a = 2) : tread p a none = (0, 0, 2) := by simp [tread, h]
theorem tread_bad {p a b : Nat} (h : tfirst a = 2) (hb : ¬ tends b) : tread p a (some b) = (0, 0, 13) := by simp [tread, h, hb]
theorem tread_two {p a b : Nat} (h : tfirst a = 2) (hb : tends b) : tread p a (some b) = (256 * a + b, p + 2, 0) := by simp [tread, h, hb]
theorem tread_err {p a : Nat} {o : Option Nat} (h : (tread p a o).2.2 ≠ 0) : (tread p a o).1 = 0 ∧ (tread p a o).2.1 = 0 := by
  rcases tfirst_cases a with ⟨h0, _⟩ | ⟨h1, _⟩ | ⟨h2, _⟩
  · rw [tread_no o h0]; exact ⟨rfl, rfl⟩
  · rw [tread_one o h1] at h; exact absurd rfl h
  · cases o with
    | none => rw [tread_cut h2]; exact ⟨rfl, rfl⟩
    | some b =>
      by_cases hb : tends b
      · rw [tread_two h2 hb] at h; exact absurd rfl h
      · rw [tread_bad h2 hb]; exact ⟨rfl, rfl⟩
theorem tget_err {l : List UInt8} {p : Nat} (h : (tget l p).2.2 ≠ 0) : (tget l p).1 = 0 ∧ (tget l p).2.1 = 0 := by
  unfold tget at *
  split at h
  · exact ⟨rfl, rfl⟩
  · exact tread_err h

/-- A tag that is put is got. -/
theorem tget_back {n : Nat} (x y : List UInt8) (h : tone n ∨ ttwo n) : tget (x ++ tputL n ++ y) x.length = (n, x.length + (tputL n).length, 0) := by
  rcases h with ⟨h, h1⟩ | ⟨h, h0, h1, h2⟩
  · rw [tputL_one h, List.append_assoc]
    rw [tget_at (UInt8.ofNat n) (by simp), ofNat_val h, tread_one _ h1]
    rfl
  · rw [tputL_two h, List.append_assoc]
    rw [tget_at (UInt8.ofNat (n / 256)) (by simp), ofNat_val (by omega)]
    rw [show (x ++ ([UInt8.ofNat (n / 256), UInt8.ofNat (n % 256)] ++ y))[x.length + 1]? = some (UInt8.ofNat (n % 256)) by rw [List.getElem?_append_right (by omega)]; simp]
    rw [Option.map_some, ofNat_val (by omega), tread_two h1 h2]
    rw [show 256 * (n / 256) + n % 256 = n by omega]
    rfl

/-- Bytes that are got are put as they were. -/
theorem tget_one {l : List UInt8} (h : (tget l 0).2.2 = 0) : (tone (tget l 0).1 ∨ ttwo (tget l 0).1) ∧ (tget l 0).2.1 ≤ l.length ∧ tputL (tget l 0).1 = l.take (tget l 0).2.1 := by
  match l with
  | [] => exact absurd h (by decide)
  | [a] =>
    have e : tget [a] 0 = tread 0 a.toNat none := rfl
    rw [e] at h ⊢
    have ha := a.toNat_lt
    rcases tfirst_cases a.toNat with ⟨h0, _⟩ | ⟨h1, _⟩ | ⟨h2, _⟩
    · rw [tread_no _ h0] at h; exact absurd h (by decide)
    · rw [tread_one _ h1]
      refine ⟨Or.inl ⟨by omega, h1⟩, by simp, ?_⟩
      show tputL a.toNat = [a]
      rw [tputL_one (by omega), UInt8.ofNat_toNat]
    · rw [tread_cut h2] at h; exact absurd h (by decide)
  | a :: b :: r =>
    have e : tget (a :: b :: r) 0 = tread 0 a.toNat (some b.toNat) := rfl
    rw [e] at h ⊢
    have ha := a.toNat_lt
    have hb := b.toNat_lt
    rcases tfirst_cases a.toNat with ⟨h0, _⟩ | ⟨h1, _⟩ | ⟨h2, g0, g1, g2⟩
    · rw [tread_no _ h0] at h; exact absurd h (by decide)
    · rw [tread_one _ h1]
      refine ⟨Or.inl ⟨by omega, h1⟩, by simp, ?_⟩
      show tputL a.toNat = [a]
      rw [tputL_one (by omega), UInt8.ofNat_toNat]
    · by_cases ht : tends b.toNat
      · rw [tread_two h2 ht]
        have d1 : (256 * a.toNat + b.toNat) / 256 = a.toNat := by omega
        have d2 : (256 * a.toNat + b.toNat) % 256 = b.toNat := by omega
        refine ⟨Or.inr ⟨by omega, by omega, by rw [d1]; exact h2, by rw [d2]; exact ht⟩, by simp, ?_⟩
        show tputL (256 * a.toNat + b.toNat) = [a, b]
        rw [tputL_two (by omega), d1, d2, UInt8.ofNat_toNat, UInt8.ofNat_toNat]
      · rw [tread_bad h2 ht] at h; exact absurd h (by decide)

/-- No tag's bytes begin another one's. -/
theorem tput_apart {m n : Nat} (hm : tone m ∨ ttwo m) (hn : tone n ∨ ttwo n) (k : Nat) (hk : k = min (tputL m).length (tputL n).length) : (tputL m).take k = (tputL n).take k ↔ m = n := by
  subst hk
  constructor
  · intro h
    have e1 := tget_back [] [] hm
    have e2 := tget_back [] [] hn
    rcases hm with ⟨a1, a2⟩ | ⟨a1, a2, a3, a4⟩ <;> rcases hn with ⟨b1, b2⟩ | ⟨b1, b2, b3, b4⟩
    · rw [tputL_one a1, tputL_one b1] at h
      have h := congrArg UInt8.toNat (List.head_eq_of_cons_eq h)
      rw [ofNat_val a1, ofNat_val b1] at h
      exact h
    · rw [tputL_one a1, tputL_two b1] at h
      have h := congrArg UInt8.toNat (List.head_eq_of_cons_eq h)
      rw [ofNat_val a1, ofNat_val (by omega)] at h
      rw [← h, a2] at b3
      exact absurd b3 (by decide)
    · rw [tputL_two a1, tputL_one b1] at h
      have h := congrArg UInt8.toNat (List.head_eq_of_cons_eq h)
      rw [ofNat_val b1, ofNat_val (by omega)] at h
      rw [h, b2] at a3
      exact absurd a3 (by decide)
    · rw [tputL_two a1, tputL_two b1] at h
      simp only [List.length_cons, List.length_nil, Nat.min_self, List.take_succ_cons, List.take_zero, List.cons.injEq, and_true] at h
      obtain ⟨h1, h2⟩ := h
      have h1 := congrArg UInt8.toNat h1
      have h2 := congrArg UInt8.toNat h2
      rw [ofNat_val (by omega), ofNat_val (by omega)] at h1 h2
      omega
  · rintro rfl; rfl

end Go.Proofs.YtnbllngljgmebaaDoor

/-
  What begins, goesOn, ends and the document's First answer: for every byte, in every world.
-/
namespace Go.Proofs.YtnbllngljgmebaaDoor
open Go.RowKit

theorem and32_all : ∀ c : Fin 256, (bits .and .u8 ((c.val : Nat) : Int) 32 == 0) = (c.val / 32 % 2 == 0) := by decide +kernel
theorem and31_all : ∀ c : Fin 256, (bits .and .u8 ((c.val : Nat) : Int) 31 == 31) = (c.val % 32 == 31) := by decide +kernel
theorem and32 {c : Nat} (h : c < 256) : (bits .and .u8 (c : Int) 32 == 0) = (c / 32 % 2 == 0) := and32_all ⟨c, h⟩
theorem and31 {c : Nat} (h : c < 256) : (bits .and .u8 (c : Int) 31 == 31) = (c % 32 == 31) := and31_all ⟨c, h⟩

theorem begins_no (c : Nat) (hc : c < 256) (h : tfirst c = 0) (w : World) : Calls Tryd.prog 106 #[.int .u8 (c : Int)] w fun e w' => e = .returned (.bool false) ∧ w = w' := by
  by_cases h0 : c = 0
  · subst h0
    show Calls Tryd.prog 106 #[.int .u8 0] w _
    go_enter Tryd.func106, Tryd.ntmps106
    go_wp2
    go_ret
    exact ⟨rfl, rfl⟩
  · have h1 : (bits .and .u8 (c : Int) 32 == 0) = false := by
      rw [and32 hc]
      rcases tfirst_cases c with ⟨_, g⟩ | ⟨g, _⟩ | ⟨g, _⟩
      · simp; omega
      · omega
      · omega
    have h2 : ((c : Int) != 0) = true := by simp [h0]
    clear h hc h0
    go_enter Tryd.func106, Tryd.ntmps106
    go_wp2
    go_ret
    exact ⟨by rw [← h1]; rfl, rfl⟩

theorem begins_yes (c : Nat) (hc : c < 256) (h : tfirst c ≠ 0) (w : World) : Calls Tryd.prog 106 #[.int .u8 (c : Int)] w fun e w' => e = .returned (.bool true) ∧ w = w' := by
  have h1 : (bits .and .u8 (c : Int) 32 == 0) = true := by
    rw [and32 hc]
    rcases tfirst_cases c with ⟨g, _⟩ | ⟨_, _, g, _⟩ | ⟨_, _, g, _⟩
    · exact absurd g h
    · simp; omega
    · simp; omega
  have h2 : ((c : Int) != 0) = true := by
    rcases tfirst_cases c with ⟨g, _⟩ | ⟨_, g, _, _⟩ | ⟨_, g, _, _⟩
    · exact absurd g h
    · simp [g]
    · simp [g]
  clear h hc
  go_enter Tryd.func106, Tryd.ntmps106
  go_wp2
  go_ret
  exact ⟨by rw [← h1]; rfl, rfl⟩

theorem goesOn_any (c : Nat) (hc : c < 256) (w : World) : Calls Tryd.prog 107 #[.int .u8 (c : Int)] w fun e w' => e = .returned (.bool (c % 32 == 31)) ∧ w = w' := by
  have h1 := and31 hc
  generalize (c % 32 == 31) = b at *
  clear hc
  go_enter Tryd.func107, Tryd.ntmps107
  go_wp2
  go_ret
  exact ⟨by rw [← h1]; rfl, rfl⟩

theorem goesOn_no (c : Nat) (hc : c < 256) (h : tfirst c = 1) (w : World) : Calls Tryd.prog 107 #[.int .u8 (c : Int)] w fun e w' => e = .returned (.bool false) ∧ w = w' := by
  have e : (c % 32 == 31) = false := by
    rcases tfirst_cases c with ⟨g, _⟩ | ⟨_, _, _, g⟩ | ⟨g, _⟩
    · omega
    · simp; omega
    · omega
  have := goesOn_any c hc w
  rw [e] at this
  exact this
theorem goesOn_yes (c : Nat) (hc : c < 256) (h : tfirst c = 2) (w : World) : Calls Tryd.prog 107 #[.int .u8 (c : Int)] w fun e w' => e = .returned (.bool true) ∧ w = w' := by
  have e : (c % 32 == 31) = true := by
    rcases tfirst_cases c with ⟨g, _⟩ | ⟨g, _⟩ | ⟨_, _, _, g⟩
    · omega
    · omega
    · simp; omega
  have := goesOn_any c hc w
  rw [e] at this
  exact this

theorem ends_any (c : Nat) (w : World) : Calls Tryd.prog 108 #[.int .u8 (c : Int)] w fun e w' => e = .returned (.bool (decide (tends c))) ∧ w = w' := by
  by_cases h1 : 1 ≤ c
  · have g1 : (1 : Int) ≤ (c : Int) := by omega
    by_cases h2 : c ≤ 127
    · have g2 : decide ((c : Int) ≤ 127) = true := by simp; omega
      rw [show decide (tends c) = true by simp; exact ⟨h1, h2⟩]
      clear h1 h2
      go_enter Tryd.func108, Tryd.ntmps108
      go_wp2
      go_ret
      exact ⟨rfl, rfl⟩
    · have g2 : decide ((c : Int) ≤ 127) = false := by simp; omega
      rw [show decide (tends c) = false by simp; intro g; exact h2 g.2]
      clear h1 h2
      go_enter Tryd.func108, Tryd.ntmps108
      go_wp2
      go_ret
      exact ⟨rfl, rfl⟩
  · obtain rfl : c = 0 := by omega
    rw [show decide (tends 0) = false by decide]
    show Calls Tryd.prog 108 #[.int .u8 0] w _
    go_enter Tryd.func108, Tryd.ntmps108
    go_wp2
    go_ret
    exact ⟨rfl, rfl⟩

theorem tfirst_any (c : Nat) (hc : c < 256) (w : World) : Calls Tryd.prog 85 #[.int .u8 (c : Int)] w fun e w' => e = .returned (.int .i64 (tfirst c : Int)) ∧ w = w' := by
  by_cases h0 : c = 0
  · subst h0
    show Calls Tryd.prog 85 #[.int .u8 0] w _
    go_enter Tryd.func85, Tryd.ntmps85
    go_wp2
    go_ret
    exact ⟨rfl, rfl⟩
  have hz : ((c : Int) == 0) = false := by simp [h0]
  have hc' : (c : Int) < 256 := by omega
  have hm : (c : Int) % 32 = ((c % 32 : Nat) : Int) := by omega
  have hd : (c : Int) / 32 = ((c / 32 : Nat) : Int) := by omega
  have hdm : ((c / 32 : Nat) : Int) % 2 = ((c / 32 % 2 : Nat) : Int) := by omega
  rcases tfirst_cases c with ⟨e, g⟩ | ⟨e, _, g1, g2⟩ | ⟨e, _, g1, g2⟩
  · rw [e]
    have g : c / 32 % 2 = 1 := by omega
    have g' : (c : Int) / 32 % 2 = 1 := by omega
    clear e g hm hd hdm hc
    go_enter Tryd.func85, Tryd.ntmps85
    go_wp2
    go_ret
    exact ⟨rfl, rfl⟩
  · rw [e]
    have g1' : (c : Int) / 32 % 2 = 0 := by omega
    have g2' : ((c : Int) % 32 == 31) = false := by simp; omega
    clear e g1 g2 hm hd hdm hc
    go_enter Tryd.func85, Tryd.ntmps85
    go_wp2
    go_ret
    exact ⟨rfl, rfl⟩
  · rw [e]
    have g1' : (c : Int) / 32 % 2 = 0 := by omega
    have g2' : (c : Int) % 32 = 31 := by omega
    clear e g1 g2 hm hd hdm hc
    go_enter Tryd.func85, Tryd.ntmps85
    go_wp2
    go_ret
    exact ⟨rfl, rfl⟩

end Go.Proofs.YtnbllngljgmebaaDoor

/-
  What Right and the document's Right answer: for every number, in every world.
-/
namespace Go.Proofs.YtnbllngljgmebaaDoor
open Go.RowKit

/-- The number is a tag. -/
def tagB (n : Int) : Bool := decide (0 ≤ n) && (decide (tone n.toNat) || decide (ttwo n.toNat))
theorem tagB_far {n : Int} (h : n < 0 ∨ 65535 < n) : tagB n = false := by
  unfold tagB
  rw [Bool.and_eq_false_iff]
  by_cases h0 : 0 ≤ n
  · right
    rw [Bool.or_eq_false_iff]
    refine ⟨decide_eq_false fun g => ?_, decide_eq_false fun g => ?_⟩
    · have := g.1; omega
    · have := g.2.1; omega
  · left; exact decide_eq_false h0
theorem tagB_nat (n : Nat) : tagB (n : Int) = true ↔ tone n ∨ ttwo n := by
  unfold tagB
  simp
theorem tagB_low {n : Nat} (h : n < 256) : tagB (n : Int) = decide (tfirst n = 1) := by
  rw [Bool.eq_iff_iff, tagB_nat, decide_eq_true_eq]
  constructor
  · rintro (g | g)
    · exact g.2
    · have := g.1; omega
  · intro g; exact Or.inl ⟨h, g⟩
theorem tagB_high {a b : Nat} (ha : a < 256) (hb : b < 256) (h : 1 ≤ a) : tagB ((256 * a + b : Nat) : Int) = (decide (tfirst a = 2) && decide (tends b)) := by
  have d1 : (256 * a + b) / 256 = a := by omega
  have d2 : (256 * a + b) % 256 = b := by omega
  rw [Bool.eq_iff_iff, tagB_nat, Bool.and_eq_true, decide_eq_true_eq, decide_eq_true_eq]
  constructor
  · rintro (g | g)
    · have := g.1; omega
    · have g1 := g.2.2.1
      have g2 := g.2.2.2
      rw [d1] at g1
      rw [d2] at g2
      exact ⟨g1, g2⟩
  · rintro ⟨g1, g2⟩
    exact Or.inr ⟨by omega, by omega, by rw [d1]; exact g1, by rw [d2]; exact g2⟩


end Go.Proofs.YtnbllngljgmebaaDoor

/-
  What Put and the document's Put answer: for every number, in every world.
-/
namespace Go.Proofs.YtnbllngljgmebaaDoor
open Go.RowKit


end Go.Proofs.YtnbllngljgmebaaDoor

/-
  What Get answers: for every text and place, in every world.
-/
namespace Go.Proofs.YtnbllngljgmebaaDoor
open Go.RowKit

theorem tget_w_place (p : Int) (s : ByteArray) (w : World) (h : p < 0 ∨ (s.size : Int) < p) :
    Calls Tryd.prog 103 #[.string s, .int .i64 p] w fun e w' => e = .returned (.tuple #[.int .i64 0, .int .i64 0, .int .i64 1]) ∧ w = w' := by
  by_cases h0 : p < 0
  · clear h
    go_enter Tryd.func103, Tryd.ntmps103
    go_wp2
    go_ret3
    exact ⟨rfl, rfl⟩
  · have h1 : (s.size : Int) < p := by omega
    have h2 : decide (p < 0) = false := by simp; omega
    clear h h0
    go_enter Tryd.func103, Tryd.ntmps103
    go_wp2
    go_ret3
    exact ⟨rfl, rfl⟩

theorem tget_w_cut (s : ByteArray) (w : World) :
    Calls Tryd.prog 103 #[.string s, .int .i64 (s.size : Int)] w fun e w' => e = .returned (.tuple #[.int .i64 0, .int .i64 0, .int .i64 2]) ∧ w = w' := by
  have h2 : decide ((s.size : Int) < 0) = false := by simp
  go_enter Tryd.func103, Tryd.ntmps103
  go_wp2
  go_ret3
  exact ⟨rfl, rfl⟩

theorem tget_w_no (p a : Nat) (s : ByteArray) (w : World) (hp : p < s.size) (ha : a < 256) (hix : At s p a) (h : tfirst a = 0) :
    Calls Tryd.prog 103 #[.string s, .int .i64 (p : Int)] w fun e w' => e = .returned (.tuple #[.int .i64 0, .int .i64 0, .int .i64 13]) ∧ w = w' := by
  unfold At at hix
  have HB := Lib.hid (begins_no a ha h)
  have h2 : decide ((p : Int) < 0) = false := by simp
  have h3 : decide (s.size < p) = false := by simp; omega
  have h4 : ((p : Int) == (s.size : Int)) = false := by simp; omega
  have ha1 : (a : Int) < 256 := by omega
  clear h ha
  go_enter Tryd.func103, Tryd.ntmps103
  go_wp2_with fail
  refine (HB.out _).mono ?_
  rintro e w1 ⟨rfl, rfl⟩
  go_wp2
  go_ret3
  exact ⟨rfl, rfl⟩

theorem tget_w_one (p a : Nat) (s : ByteArray) (w : World) (hs : s.size ≤ 5000000) (hp : p < s.size) (ha : a < 256) (hix : At s p a) (h : tfirst a = 1) :
    Calls Tryd.prog 103 #[.string s, .int .i64 (p : Int)] w fun e w' => e = .returned (.tuple #[.int .i64 (a : Int), .int .i64 ((p + 1 : Nat) : Int), .int .i64 0]) ∧ w = w' := by
  unfold At at hix
  have HB := Lib.hid (begins_yes a ha (by omega))
  have HG := Lib.hid (goesOn_no a ha h)
  have h2 : decide ((p : Int) < 0) = false := by simp
  have h3 : decide (s.size < p) = false := by simp; omega
  have h4 : ((p : Int) == (s.size : Int)) = false := by simp; omega
  have ha1 : (a : Int) < 256 := by omega
  clear h ha
  go_enter Tryd.func103, Tryd.ntmps103
  go_wp2_with fail
  refine (HB.out _).mono ?_
  rintro e w1 ⟨rfl, rfl⟩
  go_wp2_with fail
  refine (HG.out _).mono ?_
  rintro e w1 ⟨rfl, rfl⟩
  go_wp2
  go_ret3
  exact ⟨rfl, rfl⟩

theorem tget_w_short (p a : Nat) (s : ByteArray) (w : World) (hs : s.size ≤ 5000000) (hp : p + 1 = s.size) (ha : a < 256) (hix : At s p a) (h : tfirst a = 2) :
    Calls Tryd.prog 103 #[.string s, .int .i64 (p : Int)] w fun e w' => e = .returned (.tuple #[.int .i64 0, .int .i64 0, .int .i64 2]) ∧ w = w' := by
  unfold At at hix
  have HB := Lib.hid (begins_yes a ha (by omega))
  have HG := Lib.hid (goesOn_yes a ha h)
  have h2 : decide ((p : Int) < 0) = false := by simp
  have h3 : decide (s.size < p) = false := by simp; omega
  have h4 : ((p : Int) == (s.size : Int)) = false := by simp; omega
  have h5 : ((p : Int) + 1 == (s.size : Int)) = true := by simp; omega
  have hp' : p < s.size := by omega
  have ha1 : (a : Int) < 256 := by omega
  clear h ha hp
  go_enter Tryd.func103, Tryd.ntmps103
  go_wp2_with fail
  refine (HB.out _).mono ?_
  rintro e w1 ⟨rfl, rfl⟩
  go_wp2_with fail
  refine (HG.out _).mono ?_
  rintro e w1 ⟨rfl, rfl⟩
  go_wp2
  go_ret3
  exact ⟨rfl, rfl⟩

theorem tget_w_bad (p a b : Nat) (s : ByteArray) (w : World) (hs : s.size ≤ 5000000) (hp : p + 1 < s.size) (ha : a < 256) (hix : At s p a) (hiy : At s ((p : Int) + 1) b) (h : tfirst a = 2) (hb : b < 256) (ht : ¬ tends b) :
    Calls Tryd.prog 103 #[.string s, .int .i64 (p : Int)] w fun e w' => e = .returned (.tuple #[.int .i64 0, .int .i64 0, .int .i64 13]) ∧ w = w' := by
  unfold At at hix hiy
  have HB := Lib.hid (begins_yes a ha (by omega))
  have HG := Lib.hid (goesOn_yes a ha h)
  have HE := Lib.hid (ends_any b)
  rw [decide_eq_false ht] at HE
  have h2 : decide ((p : Int) < 0) = false := by simp
  have h3 : decide (s.size < p) = false := by simp; omega
  have h4 : ((p : Int) == (s.size : Int)) = false := by simp; omega
  have h5 : ((p : Int) + 1 == (s.size : Int)) = false := by simp; omega
  have ha1 : (a : Int) < 256 := by omega
  have hb1 : (b : Int) < 256 := by omega
  clear h ha hb ht
  go_enter Tryd.func103, Tryd.ntmps103
  go_wp2_with fail
  refine (HB.out _).mono ?_
  rintro e w1 ⟨rfl, rfl⟩
  go_wp2_with fail
  refine (HG.out _).mono ?_
  rintro e w1 ⟨rfl, rfl⟩
  go_wp2_with fail
  refine (HE.out _).mono ?_
  rintro e w1 ⟨rfl, rfl⟩
  go_wp2
  go_ret3
  exact ⟨rfl, rfl⟩

theorem tget_w_two (p a b : Nat) (s : ByteArray) (w : World) (hs : s.size ≤ 5000000) (hp : p + 1 < s.size) (ha : a < 256) (hix : At s p a) (hiy : At s ((p : Int) + 1) b) (h : tfirst a = 2) (hb : b < 256) (ht : tends b) :
    Calls Tryd.prog 103 #[.string s, .int .i64 (p : Int)] w fun e w' => e = .returned (.tuple #[.int .i64 ((256 * a + b : Nat) : Int), .int .i64 ((p + 2 : Nat) : Int), .int .i64 0]) ∧ w = w' := by
  unfold At at hix hiy
  have HB := Lib.hid (begins_yes a ha (by omega))
  have HG := Lib.hid (goesOn_yes a ha h)
  have HE := Lib.hid (ends_any b)
  rw [decide_eq_true ht] at HE
  have hj := tag_join a b ha hb
  have h2 : decide ((p : Int) < 0) = false := by simp
  have h3 : decide (s.size < p) = false := by simp; omega
  have h4 : ((p : Int) == (s.size : Int)) = false := by simp; omega
  have h5 : ((p : Int) + 1 == (s.size : Int)) = false := by simp; omega
  have ha1 : (a : Int) < 256 := by omega
  have hb1 : (b : Int) < 256 := by omega
  generalize 256 * a + b = z at hj ⊢
  clear h ha hb ht
  go_enter Tryd.func103, Tryd.ntmps103
  go_wp2_with fail
  refine (HB.out _).mono ?_
  rintro e w1 ⟨rfl, rfl⟩
  go_wp2_with fail
  refine (HG.out _).mono ?_
  rintro e w1 ⟨rfl, rfl⟩
  go_wp2_with fail
  refine (HE.out _).mono ?_
  rintro e w1 ⟨rfl, rfl⟩
  go_wp2
  go_ret3
  exact ⟨rfl, rfl⟩

def tgetV (r : Nat × Nat × Nat) : Value := .tuple #[.int .i64 (r.1 : Int), .int .i64 (r.2.1 : Int), .int .i64 (r.2.2 : Int)]

/-- What Get answers at a place of a text. -/
theorem tget_any (p : Nat) (s : ByteArray) (w : World) (hs : s.size ≤ 5000000) (hp : p ≤ s.size) :
    Calls Tryd.prog 103 #[.string s, .int .i64 (p : Int)] w fun e w' => e = .returned (tgetV (tget s.data.toList p)) ∧ w = w' := by
  have hl : s.data.toList.length = s.size := by simp
  by_cases h : p = s.size
  · subst h
    rw [tget_cut (by omega)]
    exact tget_w_cut s w
  have hp : p < s.size := by omega
  have ha := s[p].toNat_lt
  rw [tget_at _ (list_at s p hp)]
  rcases tfirst_cases s[p].toNat with ⟨e, _⟩ | ⟨e, _⟩ | ⟨e, _⟩
  · rw [tread_no _ e]
    exact tget_w_no p _ s w hp ha (at_str s p hp) e
  · rw [tread_one _ e]
    exact tget_w_one p _ s w hs hp ha (at_str s p hp) e
  · by_cases h1 : p + 1 = s.size
    · rw [List.getElem?_eq_none (by omega), Option.map_none, tread_cut e]
      exact tget_w_short p _ s w hs h1 ha (at_str s p hp) e
    · have hp1 : p + 1 < s.size := by omega
      have hb := s[p + 1].toNat_lt
      rw [list_at s (p + 1) hp1, Option.map_some]
      by_cases ht : tends s[p + 1].toNat
      · rw [tread_two e ht]
        exact tget_w_two p _ _ s w hs hp1 ha (at_str s p hp) (at_str s (p + 1) hp1) e hb ht
      · rw [tread_bad e ht]
        exact tget_w_bad p _ _ s w hs hp1 ha (at_str s p hp) (at_str s (p + 1) hp1) e hb ht

end Go.Proofs.YtnbllngljgmebaaDoor

/-
  What the document's Get answers: for every text and place, in every world.
-/
namespace Go.Proofs.YtnbllngljgmebaaDoor
open Go.RowKit

theorem trefGet_place (p : Int) (s : ByteArray) (w : World) (h : p < 0 ∨ (s.size : Int) < p) :
    Calls Tryd.prog 74 #[.string s, .int .i64 p] w fun e w' => e = .returned (.tuple #[.int .i64 0, .int .i64 0, .int .i64 1]) ∧ Below w.heap.size w w' := by
  by_cases h0 : p < 0
  · clear h
    go_enter Tryd.func74, Tryd.ntmps74
    go_wp2
    go_ret3
    exact ⟨rfl, Below.refl _ _⟩
  · have h1 : (s.size : Int) < p := by omega
    have h2 : decide (p < 0) = false := by simp; omega
    clear h h0
    go_enter Tryd.func74, Tryd.ntmps74
    go_wp2
    go_ret3
    exact ⟨rfl, Below.refl _ _⟩

theorem trefGet_cut (s : ByteArray) (w : World) :
    Calls Tryd.prog 74 #[.string s, .int .i64 (s.size : Int)] w fun e w' => e = .returned (.tuple #[.int .i64 0, .int .i64 0, .int .i64 2]) ∧ Below w.heap.size w w' := by
  have h2 : decide ((s.size : Int) < 0) = false := by simp
  go_enter Tryd.func74, Tryd.ntmps74
  go_wp2
  go_ret3
  exact ⟨rfl, Below.refl _ _⟩

theorem trefGet_no (p a : Nat) (s : ByteArray) (w : World) (hp : p < s.size) (ha : a < 256) (hix : At s p a) (h : tfirst a = 0) :
    Calls Tryd.prog 74 #[.string s, .int .i64 (p : Int)] w fun e w' => e = .returned (.tuple #[.int .i64 0, .int .i64 0, .int .i64 13]) ∧ Below w.heap.size w w' := by
  unfold At at hix
  have HF := Lib.hid (tfirst_any a ha)
  rw [h] at HF
  have h2 : decide ((p : Int) < 0) = false := by simp
  have h3 : decide (s.size < p) = false := by simp; omega
  have h4 : ((p : Int) == (s.size : Int)) = false := by simp; omega
  have ha1 : (a : Int) < 256 := by omega
  clear h ha
  go_enter Tryd.func74, Tryd.ntmps74
  go_wp2_with fail
  refine (HF.out _).mono ?_
  rintro e w1 ⟨rfl, rfl⟩
  go_wp2
  go_ret3
  exact ⟨rfl, Below.refl _ _⟩

theorem trefGet_one (p a : Nat) (s : ByteArray) (w : World) (hs : s.size ≤ 1000000) (hp : p < s.size) (ha : a < 256) (hix : At s p a) (h : tfirst a = 1) :
    Calls Tryd.prog 74 #[.string s, .int .i64 (p : Int)] w fun e w' => e = .returned (.tuple #[.int .i64 (a : Int), .int .i64 ((p + 1 : Nat) : Int), .int .i64 0]) ∧ Below w.heap.size w w' := by
  unfold At at hix
  have HF := Lib.hid (tfirst_any a ha)
  rw [h] at HF
  have h2 : decide ((p : Int) < 0) = false := by simp
  have h3 : decide (s.size < p) = false := by simp; omega
  have h4 : ((p : Int) == (s.size : Int)) = false := by simp; omega
  have ha1 : (a : Int) < 256 := by omega
  clear h ha
  go_enter Tryd.func74, Tryd.ntmps74
  go_wp2_with fail
  refine (HF.out _).mono ?_
  rintro e w1 ⟨rfl, rfl⟩
  go_wp2
  go_ret3
  exact ⟨rfl, Below.refl _ _⟩

theorem trefGet_short (p a : Nat) (s : ByteArray) (w : World) (hs : s.size ≤ 1000000) (hp : p + 1 = s.size) (ha : a < 256) (hix : At s p a) (h : tfirst a = 2) :
    Calls Tryd.prog 74 #[.string s, .int .i64 (p : Int)] w fun e w' => e = .returned (.tuple #[.int .i64 0, .int .i64 0, .int .i64 2]) ∧ Below w.heap.size w w' := by
  unfold At at hix
  have HF := Lib.hid (tfirst_any a ha)
  rw [h] at HF
  have h2 : decide ((p : Int) < 0) = false := by simp
  have h3 : decide (s.size < p) = false := by simp; omega
  have h4 : ((p : Int) == (s.size : Int)) = false := by simp; omega
  have h5 : decide ((s.size : Int) - (p : Int) < 2) = true := by simp; omega
  have hp' : p < s.size := by omega
  have ha1 : (a : Int) < 256 := by omega
  clear h ha hp
  go_enter Tryd.func74, Tryd.ntmps74
  go_wp2_with fail
  refine (HF.out _).mono ?_
  rintro e w1 ⟨rfl, rfl⟩
  go_wp2
  go_ret3
  exact ⟨rfl, Below.refl _ _⟩

theorem trefGet_bad (p a b : Nat) (s : ByteArray) (w : World) (hs : s.size ≤ 1000000) (hp : p + 1 < s.size) (ha : a < 256) (hix : At s p a) (hiy : At s ((p : Int) + 1) b) (h : tfirst a = 2) (hb : b < 256) (ht : ¬ tends b) :
    Calls Tryd.prog 74 #[.string s, .int .i64 (p : Int)] w fun e w' => e = .returned (.tuple #[.int .i64 0, .int .i64 0, .int .i64 13]) ∧ Below w.heap.size w w' := by
  unfold At at hix hiy
  have HF := Lib.hid (tfirst_any a ha)
  rw [h] at HF
  have h2 : decide ((p : Int) < 0) = false := by simp
  have h3 : decide (s.size < p) = false := by simp; omega
  have h4 : ((p : Int) == (s.size : Int)) = false := by simp; omega
  have h5 : decide ((s.size : Int) - (p : Int) < 2) = false := by simp; omega
  have ha1 : (a : Int) < 256 := by omega
  have hb1 : (b : Int) < 256 := by omega
  by_cases h0 : b = 0
  · subst h0
    change ∀ w, (Instr.index 9 (.string s) (.int .i64 ((p : Int) + 1))).run Tryd.prog w = .ok (.int .u8 0) w at hiy
    clear h ha hb ht hb1
    go_enter Tryd.func74, Tryd.ntmps74
    go_wp2_with fail
    refine (HF.out _).mono ?_
    rintro e w1 ⟨rfl, rfl⟩
    go_wp2
    go_ret3
    exact ⟨rfl, Below.refl _ _⟩
  · have g1 : ((b : Int) == 0) = false := by simp [h0]
    have g2 : decide ((127 : Int) < (b : Int)) = true := by simp; unfold tends at ht; omega
    clear h ha hb ht h0
    go_enter Tryd.func74, Tryd.ntmps74
    go_wp2_with fail
    refine (HF.out _).mono ?_
    rintro e w1 ⟨rfl, rfl⟩
    go_wp2
    go_ret3
    exact ⟨rfl, Below.refl _ _⟩

set_option maxRecDepth 100000 in
set_option maxHeartbeats 800000 in
theorem trefGet_two (p a b : Nat) (s : ByteArray) (w : World) (hs : s.size ≤ 1000000) (hp : p + 1 < s.size) (ha : a < 256) (hix : At s p a) (hiy : At s ((p : Int) + 1) b) (h : tfirst a = 2) (hb : b < 256) (ht : tends b) :
    Calls Tryd.prog 74 #[.string s, .int .i64 (p : Int)] w fun e w' => e = .returned (.tuple #[.int .i64 ((256 * a + b : Nat) : Int), .int .i64 ((p + 2 : Nat) : Int), .int .i64 0]) ∧ Below w.heap.size w w' := by
  unfold At at hix hiy
  have HF := Lib.hid (tfirst_any a ha)
  rw [h] at HF
  obtain ⟨ht1, ht2⟩ := ht
  have h2 : decide ((p : Int) < 0) = false := by simp
  have h3 : decide (s.size < p) = false := by simp; omega
  have h4 : ((p : Int) == (s.size : Int)) = false := by simp; omega
  have h5 : decide ((s.size : Int) - (p : Int) < 2) = false := by simp; omega
  have g1 : ((b : Int) == 0) = false := by simp; omega
  have g2 : decide ((127 : Int) < (b : Int)) = false := by simp; omega
  have ha1 : (a : Int) < 256 := by omega
  have hb1 : (b : Int) < 256 := by omega
  have w1 : IntKind.i64.wrap (256 * (a : Int)) = 256 * (a : Int) := IntWalk.i64_in _ (by omega)
  have w2 : IntKind.i64.wrap ((p : Int) + 1) = (p : Int) + 1 := IntWalk.i64_in _ (by omega)
  have w3 : IntKind.i64.wrap (256 * (a : Int) + (b : Int)) = ((256 * a + b : Nat) : Int) := by rw [IntWalk.i64_in _ (by omega)]; omega
  have w4 : IntKind.i64.wrap ((p : Int) + 2) = ((p + 2 : Nat) : Int) := by rw [IntWalk.i64_in _ (by omega)]; omega
  have w5 : IntKind.i64.wrap (a : Int) = (a : Int) := IntWalk.i64_in _ (by omega)
  have w6 : IntKind.i64.wrap (b : Int) = (b : Int) := IntWalk.i64_in _ (by omega)
  generalize 256 * a + b = z at w3 ⊢
  generalize p + 2 = y at w4 ⊢
  clear h ha hb ht1 ht2
  go_enter Tryd.func74, Tryd.ntmps74
  go_wp2_with fail
  refine (HF.out _).mono ?_
  rintro e w1 ⟨rfl, rfl⟩
  go_wp2
  refine wp_region_noPanic ?_
  refine wp_region_held_drew (S := fun _ => True) (by kernel_rfl) trivial (fun _ => ?_)
  refine gv 0 (v := ?_) (fun _ _ => ?_) trivial ?_
  rotate_left
  · (go_simp; try (with_reducible rfl))
  try simp only [puts]
  refine gv 1 (v := ?_) (fun _ _ => ?_) trivial ?_
  rotate_left
  · (go_simp; try (with_reducible rfl))
  try simp only [puts]
  refine gv 2 (v := ?_) (fun _ _ => ?_) trivial ?_
  rotate_left
  · (go_simp; try (with_reducible rfl))
  try simp only [puts]
  refine gv 3 (v := ?_) (fun _ _ => ?_) trivial ?_
  rotate_left
  · (go_simp; try (with_reducible rfl))
  try simp only [puts]
  refine gv 4 (v := ?_) (fun _ _ => ?_) trivial ?_
  rotate_left
  · (go_simp; try (with_reducible rfl))
  try simp only [puts]
  refine gv 5 (v := ?_) (fun _ _ => ?_) trivial ?_
  rotate_left
  · (go_simp; try (with_reducible rfl))
  try simp only [puts]
  refine gv 6 (v := ?_) (fun _ _ => ?_) trivial ?_
  rotate_left
  · (go_simp; try (with_reducible rfl))
  try simp only [puts]
  refine gv 7 (v := ?_) (fun _ _ => ?_) trivial ?_
  rotate_left
  · (go_simp; try (with_reducible rfl))
  try simp only [puts]
  refine gv 8 (v := ?_) (fun _ _ => ?_) trivial ?_
  rotate_left
  · (go_simp; try (with_reducible rfl))
  try simp only [puts]
  refine gv 9 (v := ?_) (fun _ _ => ?_) trivial ?_
  rotate_left
  · (go_simp; try (with_reducible rfl))
  try simp only [puts]
  refine gv 10 (v := ?_) (fun _ _ => ?_) trivial ?_
  rotate_left
  · (go_simp; try (with_reducible rfl))
  try simp only [puts]
  refine gv 11 (v := ?_) (fun _ _ => ?_) trivial ?_
  rotate_left
  · (go_simp; try (with_reducible rfl))
  try simp only [puts]
  refine gv 12 (v := ?_) (fun _ _ => ?_) trivial ?_
  rotate_left
  · (go_simp; try (with_reducible rfl))
  try simp only [puts]
  refine gv 13 (v := ?_) (fun _ _ => ?_) trivial ?_
  rotate_left
  · (go_simp; try (with_reducible rfl))
  try simp only [puts]
  refine gv 14 (v := ?_) (fun _ _ => ?_) trivial ?_
  rotate_left
  · (go_simp; try (with_reducible rfl))
  try simp only [puts]
  refine gv 15 (v := ?_) (fun _ _ => ?_) trivial ?_
  rotate_left
  · (go_simp; try (with_reducible rfl))
  try simp only [puts]
  refine wpAnyH_done (by kernel_rfl) (NoPanic.normal ?_) _
  go_wp2
  go_ret3
  exact ⟨rfl, (Below.refl _ _).drew⟩

/-- What the document's Get answers at a place of a text. -/
theorem trefGet_any (p : Nat) (s : ByteArray) (w : World) (hs : s.size ≤ 1000000) (hp : p ≤ s.size) :
    Calls Tryd.prog 74 #[.string s, .int .i64 (p : Int)] w fun e w' => e = .returned (tgetV (tget s.data.toList p)) ∧ Below w.heap.size w w' := by
  have hl : s.data.toList.length = s.size := by simp
  by_cases h : p = s.size
  · subst h
    rw [tget_cut (by omega)]
    exact trefGet_cut s w
  have hp : p < s.size := by omega
  have ha := s[p].toNat_lt
  rw [tget_at _ (list_at s p hp)]
  rcases tfirst_cases s[p].toNat with ⟨e, _⟩ | ⟨e, _⟩ | ⟨e, _⟩
  · rw [tread_no _ e]
    exact trefGet_no p _ s w hp ha (at_str s p hp) e
  · rw [tread_one _ e]
    exact trefGet_one p _ s w hs hp ha (at_str s p hp) e
  · by_cases h1 : p + 1 = s.size
    · rw [List.getElem?_eq_none (by omega), Option.map_none, tread_cut e]
      exact trefGet_short p _ s w hs h1 ha (at_str s p hp) e
    · have hp1 : p + 1 < s.size := by omega
      have hb := s[p + 1].toNat_lt
      rw [list_at s (p + 1) hp1, Option.map_some]
      by_cases ht : tends s[p + 1].toNat
      · rw [tread_two e ht]
        exact trefGet_two p _ _ s w hs hp1 ha (at_str s p hp) (at_str s (p + 1) hp1) e hb ht
      · rw [tread_bad e ht]
        exact trefGet_bad p _ _ s w hs hp1 ha (at_str s p hp) (at_str s (p + 1) hp1) e hb ht

end Go.Proofs.YtnbllngljgmebaaDoor
