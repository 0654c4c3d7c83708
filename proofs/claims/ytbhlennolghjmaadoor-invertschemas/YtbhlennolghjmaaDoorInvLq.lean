/-
  What the laws of maps that can be undone share.
-/
import Derived.Test.YtbhlennolghjmaaDoorInvAwk
namespace Go.Proofs.YtbhlennolghjmaaDoor
open Go.RowKit

/-- Where a map's lists stand. -/
def MpAt (M : List PairT) (R : List Ru) (A : Option Addr × Option Addr) (c : Nat × Nat) (u : World) : Prop := Prs u A.1 M ∧ M.length ≤ c.1 ∧ Rls u A.2 R
theorem MpAt.below {M : List PairT} {R : List Ru} {A : Option Addr × Option Addr} {c : Nat × Nat} {u u' : World} (h : MpAt M R A c u) (hb : Below u.heap.size u u') : MpAt M R A c u' := ⟨h.1.below hb, h.2.1, h.2.2.below hb⟩
theorem turn_some {P : Program} {f : FuncId} {args : Array Value} {W : World} {M N : List PairT} {R S : List Ru} (hM : N.length = M.length) (h : Calls P f args W fun e w' => ∃ X' c Y' c', e = .returned (.agg #[.slice X' M.length c, .slice Y' R.length c']) ∧ Prs w' X' N ∧ M.length ≤ c ∧ Rls w' Y' S ∧ Below W.heap.size W w') :
    Calls P f args W fun e w' => ∃ v, e = .returned v ∧ ∃ (A : Option Addr × Option Addr) (c : Nat × Nat), v = .agg #[.slice A.1 M.length c.1, .slice A.2 R.length c.2] ∧ MpAt N S A c w' ∧ Below W.heap.size W w' :=
  h.mono fun _ _ ⟨X', c, Y', c', he, k1, k2, k3, k4⟩ => ⟨_, he, (X', Y'), (c, c'), rfl, ⟨k1, by rw [hM]; exact k2, k3⟩, k4⟩
theorem schema_some {P : Program} {f : FuncId} {args : Array Value} {W : World} {st v : Int} {a : List Sp} (h : Calls P f args W fun e w' => ∃ A' c', e = .returned (.agg #[.int .i64 st, .int .i64 v, .slice A' a.length c']) ∧ Spl w' A' a ∧ Below W.heap.size W w') :
    Calls P f args W fun e w' => ∃ x, e = .returned x ∧ ∃ A' c', x = .agg #[.int .i64 st, .int .i64 v, .slice A' a.length c'] ∧ Spl w' A' a ∧ Below W.heap.size W w' :=
  h.mono fun _ _ ⟨A', c', he, k1, k2⟩ => ⟨_, he, A', c', rfl, k1, k2⟩
theorem rgreat_few {s : ByteArray} {P : List PairT} (h : rgreatB s P = false) : P.length ≤ 300 := by
  unfold rgreatB at h
  simp only [Bool.or_eq_false_iff, decide_eq_false_iff_not] at h
  omega
/-- A turned map's texts are as long. -/
theorem turn_four {R : List Ru} (h : Fit4 R) : Fit4 (turnRs R) := fun r hr => by
  simp only [turnRs, List.mem_map] at hr
  obtain ⟨q, hq, rfl⟩ := hr
  obtain ⟨h1, h2, h3⟩ := h q hq
  exact ⟨h1, by show (turnL _).length ≤ _; rw [turn_len]; exact h2, h3.turn⟩
theorem turn_few {R : List Ru} {z : Nat} (h : ∀ r ∈ R, r.2.2.2.2.length ≤ z) : ∀ r ∈ turnRs R, r.2.2.2.2.length ≤ z := fun r hr => by
  simp only [turnRs, List.mem_map] at hr
  obtain ⟨q, hq, rfl⟩ := hr
  show (turnL _).length ≤ _
  rw [turn_len]; exact h q hq

end Go.Proofs.YtbhlennolghjmaaDoor
