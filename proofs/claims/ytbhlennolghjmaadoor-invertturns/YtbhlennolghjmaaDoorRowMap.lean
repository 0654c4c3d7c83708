/-
  Arguments opened: a map (pairs of texts, and rules) by value.
-/
import Derived.OpenShut
import Derived.ChangeArms
import Derived.ChangeSlices
import Derived.ChangeSame
import Derived.WideShapes
import Derived.Test.YtbhlennolghjmaaDoorRowRule
import Derived.Test.YtbhlennolghjmaaDoorXltOf
namespace Go.Proofs.YtbhlennolghjmaaDoor
open Go.ChangeShapes Go.WideShapes Go.RowKit

theorem rules_of {Q : Nat → Ru → Prop} : ∀ (n : Nat), (∀ i, i < n → ∃ r, Q i r) → ∃ R : List Ru, R.length = n ∧ ∀ i, i < n → Q i (ruAt R i)
  | 0, _ => ⟨[], rfl, fun i hi => by omega⟩
  | n + 1, h => by
    obtain ⟨R, hl, hR⟩ := rules_of n (fun i hi => h i (by omega))
    obtain ⟨r, hr⟩ := h n (by omega)
    refine ⟨R ++ [r], by simp [hl], fun i hi => ?_⟩
    by_cases e : i < n
    · have := hR i e
      have hx : ruAt (R ++ [r]) i = ruAt R i := by rw [ruAt_get (by simp; omega), ruAt_get (by omega), List.getElem_append_left (by omega)]
      rw [hx]; exact this
    · obtain rfl : i = n := by omega
      have hx : ruAt (R ++ [r]) i = r := by rw [ruAt_get (by simp; omega), List.getElem_append_right (by omega)]; simp [hl]
      rw [hx]; exact hr
section
variable {H : Type} {enc : TypeId × Value → H} {w : World} {base : Nat} {spare : Nat → Bool} {held : Bool}

set_option maxRecDepth 100000 in
theorem open_rule_cells {n : Nat} {cs : List Value} {d : DataW H × List MemPlace} (hl5 : cs.length = 5) (h : DataW.trod enc Tryd.prog w base spare held n 53 cs = some d) :
    ∃ (k f t : Int) (s : ByteArray) (A : Option Addr) (cap : Nat) (l : List PairT), cs = [.int .i64 k, .int .i64 f, .int .i64 t, .string s, .slice A l.length cap] ∧ s.size ≤ maxLen ∧ Prs w A l ∧ l.length ≤ maxLen ∧ Fit2 l := by
  have c1 : Tryd.prog.cellsOf 3 = 1 := by kernel_rfl
  have c2 : Tryd.prog.cellsOf 9 = 1 := by kernel_rfl
  have c3 : Tryd.prog.cellsOf 22 = 1 := by kernel_rfl
  obtain ⟨xs, m, _, _, _, hlen, hg⟩ := DataW.trod_struct Tryd.underlying53 h
  have hl : xs.length = 5 := hlen
  have one : ∀ i, i < 5 → ∃ x, xs[i]? = some x := fun i hi => ⟨xs[i]'(by omega), List.getElem?_eq_getElem (by omega)⟩
  match cs, hl5 with
  | [v0, v1, v2, v3, v4], _ =>
    have g0 : DataW.trod enc Tryd.prog w base spare held m 3 (([v0, v1, v2, v3, v4].drop 0).take (Tryd.prog.cellsOf 3)) = xs[0]? := hg 0 _ rfl
    have g1 : DataW.trod enc Tryd.prog w base spare held m 3 (([v0, v1, v2, v3, v4].drop 1).take (Tryd.prog.cellsOf 3)) = xs[1]? := hg 1 _ rfl
    have g2 : DataW.trod enc Tryd.prog w base spare held m 3 (([v0, v1, v2, v3, v4].drop 2).take (Tryd.prog.cellsOf 3)) = xs[2]? := hg 2 _ rfl
    have g3 : DataW.trod enc Tryd.prog w base spare held m 9 (([v0, v1, v2, v3, v4].drop 3).take (Tryd.prog.cellsOf 9)) = xs[3]? := hg 3 _ rfl
    have g4 : DataW.trod enc Tryd.prog w base spare held m 22 (([v0, v1, v2, v3, v4].drop 4).take (Tryd.prog.cellsOf 22)) = xs[4]? := hg 4 _ rfl
    rw [c1] at g0 g1 g2
    rw [c2] at g3
    rw [c3] at g4
    obtain ⟨x0, e0⟩ := one 0 (by omega)
    obtain ⟨x1, e1⟩ := one 1 (by omega)
    obtain ⟨x2, e2⟩ := one 2 (by omega)
    obtain ⟨x3, e3⟩ := one 3 (by omega)
    obtain ⟨x4, e4⟩ := one 4 (by omega)
    obtain ⟨a, ha, _⟩ := DataW.trod_int Tryd.underlying3 (g0.trans e0)
    obtain ⟨b, hb, _⟩ := DataW.trod_int Tryd.underlying3 (g1.trans e1)
    obtain ⟨c, hc, _⟩ := DataW.trod_int Tryd.underlying3 (g2.trans e2)
    obtain ⟨s, hs, _, hm⟩ := DataW.trod_string Tryd.underlying9 (g3.trans e3)
    obtain ⟨A, cap, k, hk, ht, hm2, hf2, _⟩ := open_pairs_cell (g4.trans e4)
    simp at ha hb hc hs
    exact ⟨a, b, c, s, A, cap, k, by rw [ha, hb, hc, hs, hk], hm, ht, hm2, hf2⟩
set_option maxRecDepth 100000 in
theorem open_rules_cell {n : Nat} {v : Value} {d : DataW H × List MemPlace} (h : DataW.trod enc Tryd.prog w base spare held n 23 [v] = some d) : ∃ (A : Option Addr) (cap : Nat) (R : List Ru), v = .slice A R.length cap ∧ Rls w A R ∧ R.length ≤ maxLen ∧ Fit3 R := by
  have hC : Tryd.prog.cellsOf 53 = 5 := by kernel_rfl
  rcases DataW.trod_slice Tryd.underlying23 h with ⟨hcs, _⟩ | ⟨a, len, cap, elems, rest, n, _, hcs, _, hb, hl, hm, hlen, hel, _, _⟩
  · simp at hcs
    subst hcs
    exact ⟨none, 0, [], rfl, rls_nil _ _, by simp, fun x hx => by simp at hx⟩
  · simp at hcs
    subst hcs
    have hat : ∀ i, i < len → ∃ r, RuAt w (a.add (i * 5)) r ∧ r.2.2.2.1.size ≤ maxLen ∧ r.2.2.2.2.length ≤ maxLen ∧ Fit2 r.2.2.2.2 := by
      intro i hi
      have h1 := hel i hi
      rw [List.getElem?_eq_getElem (by omega), hC, Option.bind_eq_some_iff] at h1
      obtain ⟨cs, hc, ht⟩ := h1
      obtain ⟨_, hl2, hcell⟩ := World.cells?_some hc
      obtain ⟨k, f, t, s, B, c, P, rfl, hs, hP, hP2, hP3⟩ := open_rule_cells hl2 ht
      have e0 := hcell 0 (by omega)
      exact ⟨(k, f, t, s, P), ⟨B, c, by simpa [Addr.add] using e0, hcell 1 (by omega), hcell 2 (by omega), hcell 3 (by omega), hcell 4 (by omega), hP⟩, hs, hP2, hP3⟩
    obtain ⟨R, hRl, hR⟩ := rules_of len hat
    refine ⟨some a, cap, R, by rw [hRl], fun i hi => ⟨a, rfl, (hR i (by omega)).1⟩, by omega, fun r hr => ?_⟩
    obtain ⟨i, hi, rfl⟩ := List.getElem_of_mem hr
    have := (hR i (by omega)).2
    rw [ruAt_get hi] at this
    exact this
set_option maxRecDepth 100000 in
theorem open_map {r : Reach} {b0 : Nat} {v : Value} {d : DataW H} {p : List MemPlace} (hv : Value.okWide Tryd.prog w r b0 25 v) (h : DataW.Trod enc Tryd.prog w base spare held 25 v d p) :
    ∃ (X : Option Addr) (cM : Nat) (M : List PairT) (Y : Option Addr) (cR : Nat) (R : List Ru), v = .agg #[.slice X M.length cM, .slice Y R.length cR] ∧ Prs w X M ∧ M.length ≤ maxLen ∧ Fit2 M ∧ M.length ≤ cM ∧ Rls w Y R ∧ R.length ≤ maxLen ∧ Fit3 R := by
  obtain ⟨cs, rfl, hsz⟩ := okWide_struct Tryd.underlying25 hv
  have hC : Tryd.prog.cellsOf 25 = 2 := by kernel_rfl
  have c1 : Tryd.prog.cellsOf 22 = 1 := by kernel_rfl
  have c2 : Tryd.prog.cellsOf 23 = 1 := by kernel_rfl
  obtain ⟨l⟩ := cs
  obtain ⟨fuel, hf⟩ := h
  obtain ⟨xs, m, _, _, _, hlen, hg⟩ := DataW.trod_struct Tryd.underlying25 hf
  have hl : xs.length = 2 := hlen
  have one : ∀ i, i < 2 → ∃ x, xs[i]? = some x := fun i hi => ⟨xs[i]'(by omega), List.getElem?_eq_getElem (by omega)⟩
  match l, hsz.trans hC with
  | [v0, v1], _ =>
    have g0 : DataW.trod enc Tryd.prog w base spare held m 22 (([v0, v1].drop 0).take (Tryd.prog.cellsOf 22)) = xs[0]? := hg 0 _ rfl
    have g1 : DataW.trod enc Tryd.prog w base spare held m 23 (([v0, v1].drop 1).take (Tryd.prog.cellsOf 23)) = xs[1]? := hg 1 _ rfl
    rw [c1] at g0
    rw [c2] at g1
    obtain ⟨x0, e0⟩ := one 0 (by omega)
    obtain ⟨x1, e1⟩ := one 1 (by omega)
    obtain ⟨X, cM, M, hx, hM1, hM2, hM3, hM4⟩ := open_pairs_cell (g0.trans e0)
    obtain ⟨Y, cR, R, hy, hR1, hR2, hR3⟩ := open_rules_cell (g1.trans e1)
    exact ⟨X, cM, M, Y, cR, R, by rw [hx, hy], hM1, hM2, hM3, hM4, hR1, hR2, hR3⟩
end
end Go.Proofs.YtbhlennolghjmaaDoor
