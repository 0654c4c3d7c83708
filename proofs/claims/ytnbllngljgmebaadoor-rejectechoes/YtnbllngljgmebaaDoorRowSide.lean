/-
  Arguments opened: a side (a schema, a map, a slice of numbers, a slice of codes) by value; a fault by value.
-/
import Derived.OpenShut
import Derived.ChangeArms
import Derived.ChangeSlices
import Derived.ChangeSame
import Derived.WideShapes
import Derived.SizedLaws
import Derived.Test.YtnbllngljgmebaaDoorRowSchema
import Derived.Test.YtnbllngljgmebaaDoorRowMsg
import Derived.Test.YtnbllngljgmebaaDoorRowOpen
namespace Go.Proofs.YtnbllngljgmebaaDoor
open Go.ChangeShapes Go.WideShapes Go.RowKit

section
variable {H : Type} {enc : TypeId × Value → H} {w : World} {base : Nat} {spare : Nat → Bool} {held : Bool}

set_option maxRecDepth 100000 in
theorem open_code_cells {n : Nat} {cs : List Value} {d : DataW H × List MemPlace} (hl : cs.length = 2) (h : DataW.trod enc Tryd.prog w base spare held n 61 cs = some d) : ∃ (z : Int) (s : ByteArray), cs = [.int .i64 z, .string s] ∧ s.size ≤ maxLen := by
  have c1 : Tryd.prog.cellsOf 35 = 1 := by kernel_rfl
  have c2 : Tryd.prog.cellsOf 9 = 1 := by kernel_rfl
  obtain ⟨xs, m, _, _, _, hlen, hg⟩ := DataW.trod_struct Tryd.underlying61 h
  have hl2 : xs.length = 2 := hlen
  have one : ∀ i, i < 2 → ∃ x, xs[i]? = some x := fun i hi => ⟨xs[i]'(by omega), List.getElem?_eq_getElem (by omega)⟩
  match cs, hl with
  | [v0, v1], _ =>
    have g0 : DataW.trod enc Tryd.prog w base spare held m 35 (([v0, v1].drop 0).take (Tryd.prog.cellsOf 35)) = xs[0]? := hg 0 _ rfl
    have g1 : DataW.trod enc Tryd.prog w base spare held m 9 (([v0, v1].drop 1).take (Tryd.prog.cellsOf 9)) = xs[1]? := hg 1 _ rfl
    rw [c1] at g0
    rw [c2] at g1
    obtain ⟨x0, e0⟩ := one 0 (by omega)
    obtain ⟨x1, e1⟩ := one 1 (by omega)
    obtain ⟨a, ha, _⟩ := DataW.trod_int Tryd.underlying35 (g0.trans e0)
    obtain ⟨s, hs, _, hm⟩ := DataW.trod_string Tryd.underlying9 (g1.trans e1)
    simp at ha hs
    exact ⟨a, s, by rw [ha, hs], hm⟩
set_option maxRecDepth 100000 in
theorem open_codes_cell {n : Nat} {v : Value} {d : DataW H × List MemPlace} (h : DataW.trod enc Tryd.prog w base spare held n 30 [v] = some d) : ∃ (A : Option Addr) (cap : Nat) (l : List Item), v = .slice A l.length cap ∧ Tlvs w A l ∧ l.length ≤ maxLen ∧ (∀ x ∈ l, x.2.size ≤ maxLen) ∧ l.length ≤ cap := by
  have hC : Tryd.prog.cellsOf 61 = 2 := by kernel_rfl
  rcases DataW.trod_slice Tryd.underlying30 h with ⟨hcs, _⟩ | ⟨a, len, cap, elems, rest, n, _, hcs, _, hb, hl, hm, hlen, hel, _, _⟩
  · simp at hcs
    subst hcs
    exact ⟨none, 0, [], rfl, tlvs_nil _ _, by simp, by simp, by simp⟩
  · simp at hcs
    subst hcs
    have hat : ∀ i, i < len → ∃ (z : Int) (s : ByteArray), w.cell? (a.add (i * 2)) = some (.int .i64 z) ∧ w.cell? ⟨(a.add (i * 2)).block, (a.add (i * 2)).off + 1, none⟩ = some (.string s) ∧ s.size ≤ maxLen := by
      intro i hi
      have h1 := hel i hi
      rw [List.getElem?_eq_getElem (by omega), hC, Option.bind_eq_some_iff] at h1
      obtain ⟨cs, hc, ht⟩ := h1
      obtain ⟨_, hl2, hcell⟩ := World.cells?_some hc
      obtain ⟨z, s, rfl, hs⟩ := open_code_cells hl2 ht
      have e0 := hcell 0 (by omega)
      exact ⟨z, s, by simpa [Addr.add] using e0, hcell 1 (by omega), hs⟩
    have hof : ∀ i, i < len → ∃ (z : Int) (s : ByteArray), valOf w a i = (z, s) ∧ w.cell? (a.add (i * 2)) = some (.int .i64 z) ∧ w.cell? ⟨(a.add (i * 2)).block, (a.add (i * 2)).off + 1, none⟩ = some (.string s) ∧ s.size ≤ maxLen := by
      intro i hi
      obtain ⟨z, s, h1, h2, h3⟩ := hat i hi
      exact ⟨z, s, by unfold valOf; rw [h1, h2], h1, h2, h3⟩
    refine ⟨some a, cap, (List.range len).map (valOf w a), by simp, fun i hi => ⟨a, rfl, ?_⟩, by simp; omega, fun x hx => ?_, by simp; omega⟩
    · have hi' : i < len := by simpa using hi
      obtain ⟨z, s, h1, h2, h3, _⟩ := hof i hi'
      rw [show itemAt ((List.range len).map (valOf w a)) i = valOf w a i by simp [itemAt, List.getD, hi'], h1]
      exact ⟨h2, h3⟩
    · obtain ⟨i, hi, rfl⟩ := List.mem_map.1 hx
      obtain ⟨z, s, h1, _, _, h4⟩ := hof i (by simpa using hi)
      rw [h1]
      exact h4
set_option maxRecDepth 100000 in
theorem open_ints_cell {n : Nat} {v : Value} {d : DataW H × List MemPlace} (h : DataW.trod enc Tryd.prog w base spare held n 29 [v] = some d) : ∃ (A : Option Addr) (cap : Nat) (zs : List Int), v = .slice A zs.length cap ∧ Ints w A zs ∧ zs.length ≤ maxLen ∧ zs.length ≤ cap ∧ ∀ z ∈ zs, (Lit.int .i64 z).wf = true := by
  rcases open_ints Tryd.underlying29 Tryd.underlying3 (by kernel_rfl) h with ⟨hcs, _⟩ | ⟨a, len, cap, zs, hcs, _, hl, hm, hz, _, hcell, hwz⟩
  · simp at hcs
    subst hcs
    exact ⟨none, 0, [], rfl, fun i hi => by simp at hi, by simp, by simp, fun z hz => by cases hz⟩
  · simp at hcs
    subst hcs
    have hle : len ≤ zs.length := by rw [hz]; split <;> omega
    have htl : (zs.take len).length = len := by simp; omega
    refine ⟨some a, cap, zs.take len, by rw [htl], fun i hi => ⟨a, rfl, ?_⟩, by rw [htl]; omega, by rw [htl]; omega, fun z h => hwz z (List.mem_of_mem_take h)⟩
    rw [htl] at hi
    rw [hcell i (by omega)]
    simp [List.getD, hi]
set_option maxRecDepth 100000 in
theorem side_schema_cells {n : Nat} {cs : List Value} {d : DataW H × List MemPlace} (hl : cs.length = 3) (h : DataW.trod enc Tryd.prog w base spare held n 24 cs = some d) :
    ∃ (st ve : Int) (A : Option Addr) (cap : Nat) (l : List Sp), cs = [.int .i64 st, .int .i64 ve, .slice A l.length cap] ∧ Spl w A l ∧ l.length ≤ maxLen := by
  have c1 : Tryd.prog.cellsOf 3 = 1 := by kernel_rfl
  have c2 : Tryd.prog.cellsOf 22 = 1 := by kernel_rfl
  obtain ⟨xs, m, _, _, _, hlen, hg⟩ := DataW.trod_struct Tryd.underlying24 h
  have hl3 : xs.length = 3 := hlen
  have one : ∀ i, i < 3 → ∃ x, xs[i]? = some x := fun i hi => ⟨xs[i]'(by omega), List.getElem?_eq_getElem (by omega)⟩
  match cs, hl with
  | [v0, v1, v2], _ =>
    have g0 : DataW.trod enc Tryd.prog w base spare held m 3 (([v0, v1, v2].drop 0).take (Tryd.prog.cellsOf 3)) = xs[0]? := hg 0 _ rfl
    have g1 : DataW.trod enc Tryd.prog w base spare held m 3 (([v0, v1, v2].drop 1).take (Tryd.prog.cellsOf 3)) = xs[1]? := hg 1 _ rfl
    have g2 : DataW.trod enc Tryd.prog w base spare held m 22 (([v0, v1, v2].drop 2).take (Tryd.prog.cellsOf 22)) = xs[2]? := hg 2 _ rfl
    rw [c1] at g0 g1
    rw [c2] at g2
    obtain ⟨x0, e0⟩ := one 0 (by omega)
    obtain ⟨x1, e1⟩ := one 1 (by omega)
    obtain ⟨x2, e2⟩ := one 2 (by omega)
    obtain ⟨a, ha, _⟩ := DataW.trod_int Tryd.underlying3 (g0.trans e0)
    obtain ⟨b, hb, _⟩ := DataW.trod_int Tryd.underlying3 (g1.trans e1)
    obtain ⟨A, cap, k, hk, ht, hm⟩ := open_specs_cell (g2.trans e2)
    simp at ha hb
    exact ⟨a, b, A, cap, k, by rw [ha, hb, hk], ht, hm⟩
set_option maxRecDepth 100000 in
theorem side_map_cells {n : Nat} {cs : List Value} {d : DataW H × List MemPlace} (hl : cs.length = 2) (h : DataW.trod enc Tryd.prog w base spare held n 28 cs = some d) :
    ∃ (X : Option Addr) (nM cM : Nat) (Y : Option Addr) (nR cR : Nat), cs = [.slice X nM cM, .slice Y nR cR] := by
  have c1 : Tryd.prog.cellsOf 25 = 1 := by kernel_rfl
  have c2 : Tryd.prog.cellsOf 26 = 1 := by kernel_rfl
  obtain ⟨xs, m, _, _, _, hlen, hg⟩ := DataW.trod_struct Tryd.underlying28 h
  have hl2 : xs.length = 2 := hlen
  have one : ∀ i, i < 2 → ∃ x, xs[i]? = some x := fun i hi => ⟨xs[i]'(by omega), List.getElem?_eq_getElem (by omega)⟩
  match cs, hl with
  | [v0, v1], _ =>
    have g0 : DataW.trod enc Tryd.prog w base spare held m 25 (([v0, v1].drop 0).take (Tryd.prog.cellsOf 25)) = xs[0]? := hg 0 _ rfl
    have g1 : DataW.trod enc Tryd.prog w base spare held m 26 (([v0, v1].drop 1).take (Tryd.prog.cellsOf 26)) = xs[1]? := hg 1 _ rfl
    rw [c1] at g0
    rw [c2] at g1
    obtain ⟨x0, e0⟩ := one 0 (by omega)
    obtain ⟨x1, e1⟩ := one 1 (by omega)
    have slc : ∀ {t e : TypeId} {fu : Nat} {x : Value} {y : DataW H × List MemPlace}, Tryd.prog.underlying t = some (.slice e) → DataW.trod enc Tryd.prog w base spare held fu t [x] = some y → ∃ X n c, x = .slice X n c := by
      intro t e fu x y ht hx
      rcases DataW.trod_slice ht hx with ⟨hcs, _⟩ | ⟨a, len, cap, _, _, _, _, hcs, _⟩
      · simp at hcs; exact ⟨_, _, _, hcs⟩
      · simp at hcs; exact ⟨_, _, _, hcs⟩
    obtain ⟨X, nM, cM, hx⟩ := slc Tryd.underlying25 (g0.trans e0)
    obtain ⟨Y, nR, cR, hy⟩ := slc Tryd.underlying26 (g1.trans e1)
    exact ⟨X, nM, cM, Y, nR, cR, by rw [hx, hy]⟩
set_option maxRecDepth 100000 in
theorem open_side {r : Reach} {b0 : Nat} {v : Value} {d : DataW H} {p : List MemPlace} (hv : Value.okWide Tryd.prog w r b0 32 v) (h : DataW.Trod enc Tryd.prog w base spare held 32 v d p) :
    ∃ (st ve : Int) (A : Option Addr) (cA : Nat) (l : List Sp) (X : Option Addr) (nM cM : Nat) (Y : Option Addr) (nR cR : Nat) (B : Option Addr) (cB : Nat) (E : List Int) (D : Option Addr) (cD : Nat) (C : List Item),
      v = .agg #[.int .i64 st, .int .i64 ve, .slice A l.length cA, .slice X nM cM, .slice Y nR cR, .slice B E.length cB, .slice D C.length cD] ∧ Spl w A l ∧ l.length ≤ maxLen ∧ Ints w B E ∧ E.length ≤ maxLen ∧ E.length ≤ cB ∧ (∀ z ∈ E, (Lit.int .i64 z).wf = true) ∧ Tlvs w D C ∧ C.length ≤ maxLen ∧ C.length ≤ cD ∧ (∀ x ∈ C, x.2.size ≤ maxLen) := by
  obtain ⟨cs, rfl, hsz⟩ := okWide_struct Tryd.underlying32 hv
  have hC : Tryd.prog.cellsOf 32 = 7 := by kernel_rfl
  have c1 : Tryd.prog.cellsOf 24 = 3 := by kernel_rfl
  have c2 : Tryd.prog.cellsOf 28 = 2 := by kernel_rfl
  have c3 : Tryd.prog.cellsOf 29 = 1 := by kernel_rfl
  have c4 : Tryd.prog.cellsOf 30 = 1 := by kernel_rfl
  obtain ⟨l⟩ := cs
  obtain ⟨fuel, hf⟩ := h
  obtain ⟨xs, m, _, _, _, hlen, hg⟩ := DataW.trod_struct Tryd.underlying32 hf
  have hl : xs.length = 4 := hlen
  have one : ∀ i, i < 4 → ∃ x, xs[i]? = some x := fun i hi => ⟨xs[i]'(by omega), List.getElem?_eq_getElem (by omega)⟩
  match l, hsz.trans hC with
  | [v0, v1, v2, v3, v4, v5, v6], _ =>
    have g0 : DataW.trod enc Tryd.prog w base spare held m 24 (([v0, v1, v2, v3, v4, v5, v6].drop 0).take (Tryd.prog.cellsOf 24)) = xs[0]? := hg 0 _ rfl
    have g1 : DataW.trod enc Tryd.prog w base spare held m 28 (([v0, v1, v2, v3, v4, v5, v6].drop 3).take (Tryd.prog.cellsOf 28)) = xs[1]? := hg 1 _ rfl
    have g2 : DataW.trod enc Tryd.prog w base spare held m 29 (([v0, v1, v2, v3, v4, v5, v6].drop 5).take (Tryd.prog.cellsOf 29)) = xs[2]? := hg 2 _ rfl
    have g3 : DataW.trod enc Tryd.prog w base spare held m 30 (([v0, v1, v2, v3, v4, v5, v6].drop 6).take (Tryd.prog.cellsOf 30)) = xs[3]? := hg 3 _ rfl
    rw [c1] at g0
    rw [c2] at g1
    rw [c3] at g2
    rw [c4] at g3
    obtain ⟨x0, e0⟩ := one 0 (by omega)
    obtain ⟨x1, e1⟩ := one 1 (by omega)
    obtain ⟨x2, e2⟩ := one 2 (by omega)
    obtain ⟨x3, e3⟩ := one 3 (by omega)
    obtain ⟨st, ve, A, cA, l, h0, hA, hl0⟩ := side_schema_cells rfl (g0.trans e0)
    obtain ⟨X, nM, cM, Y, nR, cR, h1⟩ := side_map_cells rfl (g1.trans e1)
    obtain ⟨B, cB, E, h2, hB, hE, hEc, hz⟩ := open_ints_cell (g2.trans e2)
    obtain ⟨D, cD, C, h3, hD, hC1, hC2, hC3⟩ := open_codes_cell (g3.trans e3)
    simp at h0 h1
    obtain ⟨rfl, rfl, rfl⟩ := h0
    obtain ⟨rfl, rfl⟩ := h1
    exact ⟨st, ve, A, cA, l, X, nM, cM, Y, nR, cR, B, cB, E, D, cD, C, by rw [h2, h3], hA, hl0, hB, hE, hEc, hz, hD, hC1, hC3, hC2⟩
set_option maxRecDepth 100000 in
theorem open_fault {r : Reach} {b0 : Nat} {v : Value} {d : DataW H} {p : List MemPlace} (hv : Value.okWide Tryd.prog w r b0 47 v) (h : DataW.Trod enc Tryd.prog w base spare held 47 v d p) :
    ∃ a b : Int, v = .agg #[.int .i64 a, .int .i64 b] ∧ (Lit.int .i64 a).wf = true ∧ (Lit.int .i64 b).wf = true := by
  obtain ⟨cs, rfl, hsz⟩ := okWide_struct Tryd.underlying47 hv
  have hC : Tryd.prog.cellsOf 47 = 2 := by kernel_rfl
  have c1 : Tryd.prog.cellsOf 35 = 1 := by kernel_rfl
  have c2 : Tryd.prog.cellsOf 3 = 1 := by kernel_rfl
  obtain ⟨l⟩ := cs
  obtain ⟨fuel, hf⟩ := h
  obtain ⟨xs, m, _, _, _, hlen, hg⟩ := DataW.trod_struct Tryd.underlying47 hf
  have hl : xs.length = 2 := hlen
  have one : ∀ i, i < 2 → ∃ x, xs[i]? = some x := fun i hi => ⟨xs[i]'(by omega), List.getElem?_eq_getElem (by omega)⟩
  match l, hsz.trans hC with
  | [v0, v1], _ =>
    have g0 : DataW.trod enc Tryd.prog w base spare held m 35 (([v0, v1].drop 0).take (Tryd.prog.cellsOf 35)) = xs[0]? := hg 0 _ rfl
    have g1 : DataW.trod enc Tryd.prog w base spare held m 3 (([v0, v1].drop 1).take (Tryd.prog.cellsOf 3)) = xs[1]? := hg 1 _ rfl
    rw [c1] at g0
    rw [c2] at g1
    obtain ⟨x0, e0⟩ := one 0 (by omega)
    obtain ⟨x1, e1⟩ := one 1 (by omega)
    obtain ⟨a, ha, _, wa⟩ := DataW.trod_int Tryd.underlying35 (g0.trans e0)
    obtain ⟨b, hb, _, wb⟩ := DataW.trod_int Tryd.underlying3 (g1.trans e1)
    simp at ha hb
    exact ⟨a, b, by rw [ha, hb], wa, wb⟩

/-- How long what is handed over can be, by what it weighs; and its numbers are in range. -/
theorem slice_weight {t e : TypeId} {fu : Nat} {X : Option Addr} {n c : Nat} {y : DataW H × List MemPlace} {N : Nat} (ht : Tryd.prog.underlying t = some (.slice e)) (h : DataW.trod enc Tryd.prog w base spare held fu t [.slice X n c] = some y) (hz : ∀ x ∈ y.1.weights Tryd.prog t, x ≤ N) : n * Tryd.prog.bytesOf e ≤ N := by
  rcases DataW.trod_slice ht h with ⟨hcs, _⟩ | ⟨a, len, cap, elems, rest, _, _, hcs, hx, _, _, _, hlen, _⟩
  · simp at hcs
    obtain ⟨_, rfl, _⟩ := hcs
    simp
  · simp at hcs
    obtain ⟨_, rfl, _⟩ := hcs
    subst hx
    have := hz ((elems.length + rest.length) * Tryd.prog.bytesOf e) (by simp [DataW.weights, ht])
    rw [hlen] at this
    exact Nat.le_trans (Nat.mul_le_mul_right _ (Nat.le_add_right _ _)) this
set_option maxRecDepth 100000 in
theorem message_more {m : ByteArray} {A : Option Addr} {cap : Nat} {l : List Item} {d : DataW H} {p : List MemPlace} (h : DataW.Trod enc Tryd.prog w base spare held 45 (.agg #[.string m, .slice A l.length cap]) d p) (hT : Tlvs w A l) (hz : ∀ x ∈ d.weights Tryd.prog 45, x ≤ reachBytes) :
    l.length ≤ 5864062014700 ∧ ∀ x ∈ l, (Lit.int .i64 x.1).wf = true := by
  have c1 : Tryd.prog.cellsOf 9 = 1 := by kernel_rfl
  have c2 : Tryd.prog.cellsOf 43 = 1 := by kernel_rfl
  have c3 : Tryd.prog.cellsOf 63 = 2 := by kernel_rfl
  have c4 : Tryd.prog.cellsOf 3 = 1 := by kernel_rfl
  have hby : Tryd.prog.bytesOf 63 = 24 := by kernel_rfl
  obtain ⟨fuel, hf⟩ := h
  obtain ⟨xs, q, _, hd, _, hlen, hg⟩ := DataW.trod_struct Tryd.underlying45 hf
  have hl : xs.length = 2 := hlen
  match xs, hl with
  | [x0, x1], _ =>
    have g1 : DataW.trod enc Tryd.prog w base spare held q 43 (([.string m, .slice A l.length cap].drop 1).take (Tryd.prog.cellsOf 43)) = some x1 := hg 1 _ rfl
    rw [c2] at g1
    simp only [Prod.mk.injEq] at hd
    obtain ⟨rfl, _⟩ := hd
    have hw : ∀ x ∈ x1.1.weights Tryd.prog 43, x ≤ reachBytes := fun x hx => hz x (by
      simp only [DataW.weights, Tryd.underlying45]
      exact DataW.weights_mem_each (j := 1) rfl rfl x hx)
    have h1 := slice_weight Tryd.underlying43 g1 hw
    rw [hby] at h1
    refine ⟨by unfold reachBytes at h1; omega, fun x hx => ?_⟩
    obtain ⟨i, hi, rfl⟩ := List.getElem_of_mem hx
    rcases DataW.trod_slice Tryd.underlying43 g1 with ⟨hcs, _⟩ | ⟨a, len, cp, elems, rest, n', _, hcs, _, _, _, _, hle, hel, _, _⟩
    · simp at hcs
      rw [hcs.2.1] at hi
      cases hi
    · simp at hcs
      obtain ⟨rfl, rfl, rfl⟩ := hcs
      have h2 := hel i hi
      rw [List.getElem?_eq_getElem (by omega), c3, Option.bind_eq_some_iff] at h2
      obtain ⟨cs, hc, ht⟩ := h2
      obtain ⟨_, hl2, hcell⟩ := World.cells?_some hc
      obtain ⟨ys, k', _, _, _, hyl, hy⟩ := DataW.trod_struct Tryd.underlying63 ht
      have hyl2 : ys.length = 2 := hyl
      match cs, hl2 with
      | [v0, v1], _ =>
        have k0 : DataW.trod enc Tryd.prog w base spare held k' 3 (([v0, v1].drop 0).take (Tryd.prog.cellsOf 3)) = ys[0]? := hy 0 _ rfl
        rw [c4, List.getElem?_eq_getElem (by omega)] at k0
        obtain ⟨z, hz1, _, hwf⟩ := DataW.trod_int Tryd.underlying3 k0
        simp at hz1
        have e0 := hcell 0 (by omega)
        obtain ⟨a', ha', t0, _⟩ := hT i hi
        injection ha' with ha'
        subst ha'
        rw [show (a.add (i * 2)).add 0 = a.add (i * 2) by simp [Addr.add], t0, itemAt_get hi] at e0
        simp [hz1] at e0
        rw [e0]
        exact hwf
set_option maxRecDepth 100000 in
theorem side_more {st ve : Int} {A : Option Addr} {nA cA : Nat} {X : Option Addr} {nM cM : Nat} {Y : Option Addr} {nR cR : Nat} {B : Option Addr} {nE cB : Nat} {D : Option Addr} {nC cD : Nat} {d : DataW H} {p : List MemPlace} (h : DataW.Trod enc Tryd.prog w base spare held 32 (.agg #[.int .i64 st, .int .i64 ve, .slice A nA cA, .slice X nM cM, .slice Y nR cR, .slice B nE cB, .slice D nC cD]) d p) (hz : ∀ x ∈ d.weights Tryd.prog 32, x ≤ reachBytes) :
    nE ≤ 20000000000000 := by
  have c1 : Tryd.prog.cellsOf 29 = 1 := by kernel_rfl
  have hby : Tryd.prog.bytesOf 3 = 8 := by kernel_rfl
  obtain ⟨fuel, hf⟩ := h
  obtain ⟨xs, q, _, hd, _, hlen, hg⟩ := DataW.trod_struct Tryd.underlying32 hf
  have hl : xs.length = 4 := hlen
  match xs, hl with
  | [x0, x1, x2, x3], _ =>
    have g2 : DataW.trod enc Tryd.prog w base spare held q 29 (([.int .i64 st, .int .i64 ve, .slice A nA cA, .slice X nM cM, .slice Y nR cR, .slice B nE cB, .slice D nC cD].drop 5).take (Tryd.prog.cellsOf 29)) = some x2 := hg 2 _ rfl
    rw [c1] at g2
    simp only [Prod.mk.injEq] at hd
    obtain ⟨rfl, _⟩ := hd
    have hw : ∀ x ∈ x2.1.weights Tryd.prog 29, x ≤ reachBytes := fun x hx => hz x (by
      simp only [DataW.weights, Tryd.underlying32]
      exact DataW.weights_mem_each (j := 2) rfl rfl x hx)
    have h1 := slice_weight Tryd.underlying29 g2 hw
    rw [hby] at h1
    unfold reachBytes at h1
    omega
end
end Go.Proofs.YtnbllngljgmebaaDoor
