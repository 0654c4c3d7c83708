/-
  What begins, goesOn, ends and the document's First answer: for every byte, in every world.
-/
import Derived.Test.YtmobillfeldcjaaDoorTagMath
import Derived.IntWalk
import Derived.Laws.BitsLemmas
namespace Go.Proofs.YtmobillfeldcjaaDoor
open Go.RowKit

theorem and32_all : ∀ c : Fin 256, (bits .and .u8 ((c.val : Nat) : Int) 32 == 0) = (c.val / 32 % 2 == 0) := by decide +kernel
theorem and31_all : ∀ c : Fin 256, (bits .and .u8 ((c.val : Nat) : Int) 31 == 31) = (c.val % 32 == 31) := by decide +kernel
theorem and32 {c : Nat} (h : c < 256) : (bits .and .u8 (c : Int) 32 == 0) = (c / 32 % 2 == 0) := and32_all ⟨c, h⟩
theorem and31 {c : Nat} (h : c < 256) : (bits .and .u8 (c : Int) 31 == 31) = (c % 32 == 31) := and31_all ⟨c, h⟩

theorem begins_no (c : Nat) (hc : c < 256) (h : tfirst c = 0) (w : World) : Calls Tryd.prog 36 #[.int .u8 (c : Int)] w fun e w' => e = .returned (.bool false) ∧ w = w' := by
  by_cases h0 : c = 0
  · subst h0
    show Calls Tryd.prog 36 #[.int .u8 0] w _
    go_enter Tryd.func36, Tryd.ntmps36
    go_wp2
    go_ret
    exact ⟨rfl, rfl⟩
  · have h1 : (bits .and .u8 (c : Int) 32 == 0) = false := by
      rw [and32 hc]
      rcases tfirst_cases c with ⟨_, g⟩ | ⟨g, _⟩ | ⟨g, _⟩
      · simp; omega
      · omega
      · omega
    have h2 : ((c : Int) != 0) = true := by simp [h0]
    clear h hc h0
    go_enter Tryd.func36, Tryd.ntmps36
    go_wp2
    go_ret
    exact ⟨by rw [← h1]; rfl, rfl⟩

theorem begins_yes (c : Nat) (hc : c < 256) (h : tfirst c ≠ 0) (w : World) : Calls Tryd.prog 36 #[.int .u8 (c : Int)] w fun e w' => e = .returned (.bool true) ∧ w = w' := by
  have h1 : (bits .and .u8 (c : Int) 32 == 0) = true := by
    rw [and32 hc]
    rcases tfirst_cases c with ⟨g, _⟩ | ⟨_, _, g, _⟩ | ⟨_, _, g, _⟩
    · exact absurd g h
    · simp; omega
    · simp; omega
  have h2 : ((c : Int) != 0) = true := by
    rcases tfirst_cases c with ⟨g, _⟩ | ⟨_, g, _, _⟩ | ⟨_, g, _, _⟩
    · exact absurd g h
    · simp [g]
    · simp [g]
  clear h hc
  go_enter Tryd.func36, Tryd.ntmps36
  go_wp2
  go_ret
  exact ⟨by rw [← h1]; rfl, rfl⟩

theorem goesOn_any (c : Nat) (hc : c < 256) (w : World) : Calls Tryd.prog 37 #[.int .u8 (c : Int)] w fun e w' => e = .returned (.bool (c % 32 == 31)) ∧ w = w' := by
  have h1 := and31 hc
  generalize (c % 32 == 31) = b at *
  clear hc
  go_enter Tryd.func37, Tryd.ntmps37
  go_wp2
  go_ret
  exact ⟨by rw [← h1]; rfl, rfl⟩

theorem goesOn_no (c : Nat) (hc : c < 256) (h : tfirst c = 1) (w : World) : Calls Tryd.prog 37 #[.int .u8 (c : Int)] w fun e w' => e = .returned (.bool false) ∧ w = w' := by
  have e : (c % 32 == 31) = false := by
    rcases tfirst_cases c with ⟨g, _⟩ | ⟨_, _, _, g⟩ | ⟨g, _⟩
    · omega
    · simp; omega
    · omega
  have := goesOn_any c hc w
  rw [e] at this
  exact this
theorem goesOn_yes (c : Nat) (hc : c < 256) (h : tfirst c = 2) (w : World) : Calls Tryd.prog 37 #[.int .u8 (c : Int)] w fun e w' => e = .returned (.bool true) ∧ w = w' := by
  have e : (c % 32 == 31) = true := by
    rcases tfirst_cases c with ⟨g, _⟩ | ⟨g, _⟩ | ⟨_, _, _, g⟩
    · omega
    · omega
    · simp; omega
  have := goesOn_any c hc w
  rw [e] at this
  exact this

theorem ends_any (c : Nat) (w : World) : Calls Tryd.prog 38 #[.int .u8 (c : Int)] w fun e w' => e = .returned (.bool (decide (tends c))) ∧ w = w' := by
  by_cases h1 : 1 ≤ c
  · have g1 : (1 : Int) ≤ (c : Int) := by omega
    by_cases h2 : c ≤ 127
    · have g2 : decide ((c : Int) ≤ 127) = true := by simp; omega
      rw [show decide (tends c) = true by simp; exact ⟨h1, h2⟩]
      clear h1 h2
      go_enter Tryd.func38, Tryd.ntmps38
      go_wp2
      go_ret
      exact ⟨rfl, rfl⟩
    · have g2 : decide ((c : Int) ≤ 127) = false := by simp; omega
      rw [show decide (tends c) = false by simp; intro g; exact h2 g.2]
      clear h1 h2
      go_enter Tryd.func38, Tryd.ntmps38
      go_wp2
      go_ret
      exact ⟨rfl, rfl⟩
  · obtain rfl : c = 0 := by omega
    rw [show decide (tends 0) = false by decide]
    show Calls Tryd.prog 38 #[.int .u8 0] w _
    go_enter Tryd.func38, Tryd.ntmps38
    go_wp2
    go_ret
    exact ⟨rfl, rfl⟩

theorem tfirst_any (c : Nat) (hc : c < 256) (w : World) : Calls Tryd.prog 33 #[.int .u8 (c : Int)] w fun e w' => e = .returned (.int .i64 (tfirst c : Int)) ∧ w = w' := by
  by_cases h0 : c = 0
  · subst h0
    show Calls Tryd.prog 33 #[.int .u8 0] w _
    go_enter Tryd.func33, Tryd.ntmps33
    go_wp2
    go_ret
    exact ⟨rfl, rfl⟩
  have hz : ((c : Int) == 0) = false := by simp [h0]
  have hc' : (c : Int) < 256 := by omega
  have hm : (c : Int) % 32 = ((c % 32 : Nat) : Int) := by omega
  have hd : (c : Int) / 32 = ((c / 32 : Nat) : Int) := by omega
  have hdm : ((c / 32 : Nat) : Int) % 2 = ((c / 32 % 2 : Nat) : Int) := by omega
  rcases tfirst_cases c with ⟨e, g⟩ | ⟨e, _, g1, g2⟩ | ⟨e, _, g1, g2⟩
  · rw [e]
    have g : c / 32 % 2 = 1 := by omega
    have g' : (c : Int) / 32 % 2 = 1 := by omega
    clear e g hm hd hdm hc
    go_enter Tryd.func33, Tryd.ntmps33
    go_wp2
    go_ret
    exact ⟨rfl, rfl⟩
  · rw [e]
    have g1' : (c : Int) / 32 % 2 = 0 := by omega
    have g2' : ((c : Int) % 32 == 31) = false := by simp; omega
    clear e g1 g2 hm hd hdm hc
    go_enter Tryd.func33, Tryd.ntmps33
    go_wp2
    go_ret
    exact ⟨rfl, rfl⟩
  · rw [e]
    have g1' : (c : Int) / 32 % 2 = 0 := by omega
    have g2' : (c : Int) % 32 = 31 := by omega
    clear e g1 g2 hm hd hdm hc
    go_enter Tryd.func33, Tryd.ntmps33
    go_wp2
    go_ret
    exact ⟨rfl, rfl⟩

end Go.Proofs.YtmobillfeldcjaaDoor
