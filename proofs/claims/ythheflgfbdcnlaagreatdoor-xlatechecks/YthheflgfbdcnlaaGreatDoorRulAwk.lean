/-
  The law's awake answers true, in every world that holds the table of kinds, where the program's Check and Apply answer as they are to.
-/
import Derived.Test.YthheflgfbdcnlaaGreatDoorRulOf
import Derived.Test.YthheflgfbdcnlaaGreatDoorPackDia
import Derived.Test.YthheflgfbdcnlaaGreatDoorPackSpc
namespace Go.Proofs.YthheflgfbdcnlaaGreatDoor
open Go.RowKit

/-- What the program's Check and Apply are to answer. -/
def RChk : Prop := ∀ (k f t : Int) (s : ByteArray) (B : Option Addr) (cP : Nat) (P : List PairT) (st v : Int) (A : Option Addr) (ca : Nat) (a : List Sp) (st' v' : Int) (A' : Option Addr) (cb : Nat) (b : List Sp) (w : World), Kinds w → Prs w B P → Spl w A a → Spl w A' b → a.length ≤ 1000 → b.length ≤ 1000 → P.length ≤ 5000000 → Fit2 P → s.size ≤ maxLen →
  Calls Tryz.prog 48 #[.agg #[.int .i64 k, .int .i64 f, .int .i64 t, .string s, .slice B P.length cP], .agg #[.int .i64 st, .int .i64 v, .slice A a.length ca], .agg #[.int .i64 st', .int .i64 v', .slice A' b.length cb]] w fun e w' => e = .returned (.int .i64 (rulN k f t s P a b)) ∧ Below w.heap.size w w'
def RApp : Prop := ∀ (k f t : Int) (s : ByteArray) (B : Option Addr) (cP : Nat) (P : List PairT) (st v : Int) (A : Option Addr) (ca : Nat) (b : List Sp) (x : ByteArray) (w : World), Kinds w → Prs w B P → Spl w A b → b.length ≤ 1000 → P.length ≤ 5000000 → Fit2 P → s.size ≤ maxLen → x.size ≤ maxLen →
  Calls Tryz.prog 57 #[.agg #[.int .i64 k, .int .i64 f, .int .i64 t, .string s, .slice B P.length cP], .agg #[.int .i64 st, .int .i64 v, .slice A b.length ca], .string x] w fun e w' => e = .returned (.tuple #[.agg #[.int .i64 (rapN k t s P b x).1, .string (rapN k t s P b x).2.1], .int .i64 (rapN k t s P b x).2.2]) ∧ Below w.heap.size w w'

abbrev raX : ByteArray := ⟨#[49, 50, 51, 52, 53, 54]⟩
abbrev raY : ByteArray := ⟨#[48, 48, 48, 48, 48, 48, 49, 50, 51, 52, 53, 54]⟩
abbrev raP : List PairT := [(⟨#[48, 48]⟩, ⟨#[48, 48, 48]⟩)]
theorem raw_told : rapN 4 12 ⟨#[]⟩ [] (refL 1 diaT) raX = (12, raY, 0) ∧ rapN 5 39 ⟨#[]⟩ raP (refL 1 diaT) ⟨#[48, 53]⟩ = (0, ⟨#[]⟩, 15) := by decide +kernel
theorem raw_chk : rulN 4 12 12 ⟨#[]⟩ [] (refL 0 diaT) (refL 1 diaT) = 0 ∧ rulN 5 39 39 ⟨#[]⟩ raP (refL 0 diaT) (refL 1 diaT) = 0 ∧ rulN 1 22 22 ⟨#[]⟩ [] (refL 0 diaT) (refL 1 diaT) = 6 ∧ rulN 2 90 0 ⟨#[]⟩ [] (refL 0 diaT) (refL 1 diaT) = 0 := by decide +kernel
theorem raw_len : (refL 0 diaT).length ≤ 1000 ∧ (refL 1 diaT).length ≤ 1000 := by decide +kernel
theorem raw_fit : Fit2 raP := by
  intro x hx
  simp only [List.mem_singleton] at hx
  subst hx
  exact ⟨by show 2 ≤ _; decide, by show 3 ≤ _; decide⟩
theorem fit2_nil : Fit2 [] := fun x hx => by simp at hx

end Go.Proofs.YthheflgfbdcnlaaGreatDoor
