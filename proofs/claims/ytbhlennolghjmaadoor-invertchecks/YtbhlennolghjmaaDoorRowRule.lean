/-
  Arguments opened: a rule by value, two schemas by value in an array.
-/
import Derived.OpenShut
import Derived.ChangeArms
import Derived.ChangeSlices
import Derived.ChangeSame
import Derived.WideShapes
import Derived.Test.YtbhlennolghjmaaDoorRowPair
import Derived.Test.YtbhlennolghjmaaDoorRowSchema
namespace Go.Proofs.YtbhlennolghjmaaDoor
open Go.ChangeShapes Go.WideShapes Go.RowKit

section
variable {H : Type} {enc : TypeId × Value → H} {w : World} {base : Nat} {spare : Nat → Bool} {held : Bool}

set_option maxRecDepth 100000 in
theorem open_pair_cells {n : Nat} {cs : List Value} {d : DataW H × List MemPlace} (hl : cs.length = 2) (h : DataW.trod enc Tryd.prog w base spare held n 62 cs = some d) : ∃ (z s : ByteArray), cs = [.string z, .string s] ∧ z.size ≤ maxLen ∧ s.size ≤ maxLen := by
  have c2 : Tryd.prog.cellsOf 9 = 1 := by kernel_rfl
  obtain ⟨xs, m, _, _, _, hlen, hg⟩ := DataW.trod_struct Tryd.underlying62 h
  have hl2 : xs.length = 2 := hlen
  have one : ∀ i, i < 2 → ∃ x, xs[i]? = some x := fun i hi => ⟨xs[i]'(by omega), List.getElem?_eq_getElem (by omega)⟩
  match cs, hl with
  | [v0, v1], _ =>
    have g0 : DataW.trod enc Tryd.prog w base spare held m 9 (([v0, v1].drop 0).take (Tryd.prog.cellsOf 9)) = xs[0]? := hg 0 _ rfl
    have g1 : DataW.trod enc Tryd.prog w base spare held m 9 (([v0, v1].drop 1).take (Tryd.prog.cellsOf 9)) = xs[1]? := hg 1 _ rfl
    rw [c2] at g0 g1
    obtain ⟨x0, e0⟩ := one 0 (by omega)
    obtain ⟨x1, e1⟩ := one 1 (by omega)
    obtain ⟨z, hz, _, hm0⟩ := DataW.trod_string Tryd.underlying9 (g0.trans e0)
    obtain ⟨s, hs, _, hm1⟩ := DataW.trod_string Tryd.underlying9 (g1.trans e1)
    simp at hz hs
    exact ⟨z, s, by rw [hz, hs], hm0, hm1⟩
set_option maxRecDepth 100000 in
theorem open_pairs_cell {n : Nat} {v : Value} {d : DataW H × List MemPlace} (h : DataW.trod enc Tryd.prog w base spare held n 22 [v] = some d) : ∃ (A : Option Addr) (cap : Nat) (l : List PairT), v = .slice A l.length cap ∧ Prs w A l ∧ l.length ≤ maxLen ∧ Fit2 l ∧ l.length ≤ cap := by
  have hC : Tryd.prog.cellsOf 62 = 2 := by kernel_rfl
  rcases DataW.trod_slice Tryd.underlying22 h with ⟨hcs, _⟩ | ⟨a, len, cap, elems, rest, n, _, hcs, _, hb, hl, hm, hlen, hel, _, _⟩
  · simp at hcs
    subst hcs
    exact ⟨none, 0, [], rfl, prs_nil _ _, by simp, fun x hx => by simp at hx, Nat.zero_le _⟩
  · simp at hcs
    subst hcs
    have hat : ∀ i, i < len → ∃ (z s : ByteArray), w.cell? (a.add (i * 2)) = some (.string z) ∧ w.cell? ⟨(a.add (i * 2)).block, (a.add (i * 2)).off + 1, none⟩ = some (.string s) ∧ z.size ≤ maxLen ∧ s.size ≤ maxLen := by
      intro i hi
      have h1 := hel i hi
      rw [List.getElem?_eq_getElem (by omega), hC, Option.bind_eq_some_iff] at h1
      obtain ⟨cs, hc, ht⟩ := h1
      obtain ⟨_, hl2, hcell⟩ := World.cells?_some hc
      obtain ⟨z, s, rfl, hz, hs⟩ := open_pair_cells hl2 ht
      have e0 := hcell 0 (by omega)
      exact ⟨z, s, by simpa [Addr.add] using e0, hcell 1 (by omega), hz, hs⟩
    have hit : ∀ i, i < len → duoAt ((List.range len).map (duoOf w a)) i = duoOf w a i := fun i hi => by simp [duoAt, List.getD, hi]
    refine ⟨some a, cap, (List.range len).map (duoOf w a), by simp, fun i hi => ⟨a, rfl, ?_⟩, by simp; omega, fun x hx => ?_, by simp; omega⟩
    · have hi' : i < len := by simpa using hi
      obtain ⟨z, s, h1, h2, _, _⟩ := hat i hi'
      rw [hit i hi']
      unfold duoOf
      rw [h1, h2]
      exact ⟨rfl, rfl⟩
    · simp only [List.mem_map, List.mem_range] at hx
      obtain ⟨i, hi, rfl⟩ := hx
      obtain ⟨z, s, h1, h2, h3, h4⟩ := hat i hi
      unfold duoOf
      rw [h1, h2]
      exact ⟨h3, h4⟩
set_option maxRecDepth 100000 in
theorem open_rule {r : Reach} {b0 : Nat} {v : Value} {d : DataW H} {p : List MemPlace} (hv : Value.okWide Tryd.prog w r b0 53 v) (h : DataW.Trod enc Tryd.prog w base spare held 53 v d p) :
    ∃ (k f t : Int) (s : ByteArray) (A : Option Addr) (cap : Nat) (l : List PairT), v = .agg #[.int .i64 k, .int .i64 f, .int .i64 t, .string s, .slice A l.length cap] ∧ s.size ≤ maxLen ∧ Prs w A l ∧ l.length ≤ maxLen ∧ Fit2 l := by
  obtain ⟨cs, rfl, hsz⟩ := okWide_struct Tryd.underlying53 hv
  have hC : Tryd.prog.cellsOf 53 = 5 := by kernel_rfl
  have c1 : Tryd.prog.cellsOf 3 = 1 := by kernel_rfl
  have c2 : Tryd.prog.cellsOf 9 = 1 := by kernel_rfl
  have c3 : Tryd.prog.cellsOf 22 = 1 := by kernel_rfl
  obtain ⟨l⟩ := cs
  obtain ⟨fuel, hf⟩ := h
  obtain ⟨xs, m, _, _, _, hlen, hg⟩ := DataW.trod_struct Tryd.underlying53 hf
  have hl : xs.length = 5 := hlen
  have one : ∀ i, i < 5 → ∃ x, xs[i]? = some x := fun i hi => ⟨xs[i]'(by omega), List.getElem?_eq_getElem (by omega)⟩
  match l, hsz.trans hC with
  | [v0, v1, v2, v3, v4], _ =>
    have g0 : DataW.trod enc Tryd.prog w base spare held m 3 (([v0, v1, v2, v3, v4].drop 0).take (Tryd.prog.cellsOf 3)) = xs[0]? := hg 0 _ rfl
    have g1 : DataW.trod enc Tryd.prog w base spare held m 3 (([v0, v1, v2, v3, v4].drop 1).take (Tryd.prog.cellsOf 3)) = xs[1]? := hg 1 _ rfl
    have g2 : DataW.trod enc Tryd.prog w base spare held m 3 (([v0, v1, v2, v3, v4].drop 2).take (Tryd.prog.cellsOf 3)) = xs[2]? := hg 2 _ rfl
    have g3 : DataW.trod enc Tryd.prog w base spare held m 9 (([v0, v1, v2, v3, v4].drop 3).take (Tryd.prog.cellsOf 9)) = xs[3]? := hg 3 _ rfl
    have g4 : DataW.trod enc Tryd.prog w base spare held m 22 (([v0, v1, v2, v3, v4].drop 4).take (Tryd.prog.cellsOf 22)) = xs[4]? := hg 4 _ rfl
    rw [c1] at g0 g1 g2
    rw [c2] at g3
    rw [c3] at g4
    obtain ⟨x0, e0⟩ := one 0 (by omega)
    obtain ⟨x1, e1⟩ := one 1 (by omega)
    obtain ⟨x2, e2⟩ := one 2 (by omega)
    obtain ⟨x3, e3⟩ := one 3 (by omega)
    obtain ⟨x4, e4⟩ := one 4 (by omega)
    obtain ⟨a, ha, _⟩ := DataW.trod_int Tryd.underlying3 (g0.trans e0)
    obtain ⟨b, hb, _⟩ := DataW.trod_int Tryd.underlying3 (g1.trans e1)
    obtain ⟨c, hc, _⟩ := DataW.trod_int Tryd.underlying3 (g2.trans e2)
    obtain ⟨s, hs, _, hm⟩ := DataW.trod_string Tryd.underlying9 (g3.trans e3)
    obtain ⟨A, cap, k, hk, ht, hm2, hf2, _⟩ := open_pairs_cell (g4.trans e4)
    simp at ha hb hc hs
    exact ⟨a, b, c, s, A, cap, k, by rw [ha, hb, hc, hs, hk], hm, ht, hm2, hf2⟩

set_option maxRecDepth 100000 in
theorem open_schema_cells {n : Nat} {cs : List Value} {d : DataW H × List MemPlace} (hl : cs.length = 3) (h : DataW.trod enc Tryd.prog w base spare held n 28 cs = some d) :
    ∃ (st ve : Int) (A : Option Addr) (cap : Nat) (l : List Sp), cs = [.int .i64 st, .int .i64 ve, .slice A l.length cap] ∧ Spl w A l ∧ l.length ≤ maxLen := by
  have c1 : Tryd.prog.cellsOf 3 = 1 := by kernel_rfl
  have c2 : Tryd.prog.cellsOf 26 = 1 := by kernel_rfl
  obtain ⟨xs, m, _, _, _, hlen, hg⟩ := DataW.trod_struct Tryd.underlying28 h
  have hl3 : xs.length = 3 := hlen
  have one : ∀ i, i < 3 → ∃ x, xs[i]? = some x := fun i hi => ⟨xs[i]'(by omega), List.getElem?_eq_getElem (by omega)⟩
  match cs, hl with
  | [v0, v1, v2], _ =>
    have g0 : DataW.trod enc Tryd.prog w base spare held m 3 (([v0, v1, v2].drop 0).take (Tryd.prog.cellsOf 3)) = xs[0]? := hg 0 _ rfl
    have g1 : DataW.trod enc Tryd.prog w base spare held m 3 (([v0, v1, v2].drop 1).take (Tryd.prog.cellsOf 3)) = xs[1]? := hg 1 _ rfl
    have g2 : DataW.trod enc Tryd.prog w base spare held m 26 (([v0, v1, v2].drop 2).take (Tryd.prog.cellsOf 26)) = xs[2]? := hg 2 _ rfl
    rw [c1] at g0 g1
    rw [c2] at g2
    obtain ⟨x0, e0⟩ := one 0 (by omega)
    obtain ⟨x1, e1⟩ := one 1 (by omega)
    obtain ⟨x2, e2⟩ := one 2 (by omega)
    obtain ⟨a, ha, _⟩ := DataW.trod_int Tryd.underlying3 (g0.trans e0)
    obtain ⟨b, hb, _⟩ := DataW.trod_int Tryd.underlying3 (g1.trans e1)
    obtain ⟨A, cap, k, hk, ht, hm⟩ := open_specs_cell (g2.trans e2)
    simp at ha hb
    exact ⟨a, b, A, cap, k, by rw [ha, hb, hk], ht, hm⟩
theorem okWide_arr {P : Program} {r : Reach} {b0 n : Nat} {t e : TypeId} {v : Value} (ht : P.underlying t = some (.array n e)) (h : Value.okWide P w r b0 t v) : ∃ cs, v = .agg cs ∧ cs.size = P.cellsOf t := by
  simp only [Value.okWide, ht] at h
  obtain ⟨cs, h1, h2, _⟩ := h
  exact ⟨cs, h1, h2⟩
set_option maxRecDepth 100000 in
theorem open_two_schemas {r : Reach} {b0 : Nat} {v : Value} {d : DataW H} {p : List MemPlace} (hv : Value.okWide Tryd.prog w r b0 29 v) (h : DataW.Trod enc Tryd.prog w base spare held 29 v d p) :
    ∃ (st ve : Int) (A : Option Addr) (cap : Nat) (l : List Sp) (st' ve' : Int) (A' : Option Addr) (cap' : Nat) (l' : List Sp), v = .agg #[.int .i64 st, .int .i64 ve, .slice A l.length cap, .int .i64 st', .int .i64 ve', .slice A' l'.length cap'] ∧ Spl w A l ∧ l.length ≤ maxLen ∧ Spl w A' l' ∧ l'.length ≤ maxLen := by
  obtain ⟨cs, rfl, hsz⟩ := okWide_arr Tryd.underlying29 hv
  have hC : Tryd.prog.cellsOf 29 = 6 := by kernel_rfl
  have hc : Tryd.prog.cellsOf 28 = 3 := by kernel_rfl
  obtain ⟨v0, v1, v2, v3, v4, v5, rfl⟩ : ∃ v0 v1 v2 v3 v4 v5, cs = #[v0, v1, v2, v3, v4, v5] := by
    obtain ⟨l⟩ := cs
    match l, hsz.trans hC with
    | [v0, v1, v2, v3, v4, v5], _ => exact ⟨v0, v1, v2, v3, v4, v5, rfl⟩
  obtain ⟨fuel, hf⟩ := h
  obtain ⟨xs, m, _, hx, hl, hxl, hi⟩ := DataW.trod_array Tryd.underlying29 hf
  have h0 := hi 0 (by omega)
  have h1 := hi 1 (by omega)
  rw [hc] at h0 h1
  have e0 : xs[0]? = some (xs[0]'(by omega)) := List.getElem?_eq_getElem (by omega)
  have e1 : xs[1]? = some (xs[1]'(by omega)) := List.getElem?_eq_getElem (by omega)
  rw [e0] at h0
  rw [e1] at h1
  have h0' : DataW.trod enc Tryd.prog w base spare held m 28 [v0, v1, v2] = some (xs[0]'(by omega)) := h0
  have h1' : DataW.trod enc Tryd.prog w base spare held m 28 [v3, v4, v5] = some (xs[1]'(by omega)) := h1
  obtain ⟨a, b, A, cap, k, g0, g1, g2⟩ := open_schema_cells rfl h0'
  obtain ⟨a', b', A', cap', k', g0', g1', g2'⟩ := open_schema_cells rfl h1'
  simp at g0 g0'
  obtain ⟨rfl, rfl, rfl⟩ := g0
  obtain ⟨rfl, rfl, rfl⟩ := g0'
  exact ⟨a, b, A, cap, k, a', b', A', cap', k', rfl, g1, g2, g1', g2'⟩
end
end Go.Proofs.YtbhlennolghjmaaDoor
