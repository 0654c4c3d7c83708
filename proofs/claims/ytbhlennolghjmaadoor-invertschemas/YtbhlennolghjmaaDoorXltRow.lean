/-
  Slices of rules; rows of rules whose pairs lie in other blocks.
-/
import Derived.Test.YtbhlennolghjmaaDoorXltMath
import Derived.Test.YtbhlennolghjmaaDoorPackRul
import Derived.Deep.AppendLies
import Derived.Laws.OwnMore
namespace Go.Proofs.YtbhlennolghjmaaDoor
open Go.RowKit

/-- A rule's five cells, and its pairs. -/
def RuAt (w : World) (p : Addr) (r : Ru) : Prop := ∃ (B : Option Addr) (c : Nat), w.cell? p = some (.int .i64 r.1) ∧ w.cell? ⟨p.block, p.off + 1, none⟩ = some (.int .i64 r.2.1) ∧ w.cell? ⟨p.block, p.off + 2, none⟩ = some (.int .i64 r.2.2.1) ∧
  w.cell? ⟨p.block, p.off + 3, none⟩ = some (.string r.2.2.2.1) ∧ w.cell? ⟨p.block, p.off + 4, none⟩ = some (.slice B r.2.2.2.2.length c) ∧ Prs w B r.2.2.2.2
theorem RuAt.below {w w' : World} {p : Addr} {r : Ru} (h : RuAt w p r) (hb : Below w.heap.size w w') : RuAt w' p r := by
  obtain ⟨B, c, h0, h1, h2, h3, h4, h5⟩ := h
  exact ⟨B, c, (hb.cell (block_lt_of_cell h0)).trans h0, (hb.cell (block_lt_of_cell h1)).trans h1, (hb.cell (block_lt_of_cell h2)).trans h2, (hb.cell (block_lt_of_cell h3)).trans h3, (hb.cell (block_lt_of_cell h4)).trans h4, h5.below hb⟩
/-- A slice that holds these rules. -/
def Rls (w : World) (A : Option Addr) (l : List Ru) : Prop := ∀ i, i < l.length → ∃ a, A = some a ∧ RuAt w (a.add (i * 5)) (ruAt l i)
theorem Rls.below {w w' : World} {A : Option Addr} {l : List Ru} (h : Rls w A l) (hb : Below w.heap.size w w') : Rls w' A l := fun i hi => by
  obtain ⟨a, ha, h1⟩ := h i hi
  exact ⟨a, ha, h1.below hb⟩
theorem rls_nil (w : World) (A : Option Addr) : Rls w A [] := fun i hi => by simp at hi
/-- A rule's cells, in every world behind. -/
theorem rls_all {w : World} {A : Option Addr} {l : List Ru} (h : Rls w A l) {p : Nat} (hp : p < l.length) : ∃ a k f t s P B c, A = some a ∧ ruAt l p = (k, f, t, s, P) ∧ ∀ u, Below w.heap.size w u →
    (u.cell? (a.add (p * 5)) = some (.int .i64 k) ∧ u.cell? ⟨(a.add (p * 5)).block, (a.add (p * 5)).off + 1, none⟩ = some (.int .i64 f) ∧ u.cell? ⟨(a.add (p * 5)).block, (a.add (p * 5)).off + 2, none⟩ = some (.int .i64 t) ∧
    u.cell? ⟨(a.add (p * 5)).block, (a.add (p * 5)).off + 3, none⟩ = some (.string s) ∧ u.cell? ⟨(a.add (p * 5)).block, (a.add (p * 5)).off + 4, none⟩ = some (.slice B P.length c)) ∧ Prs u B P := by
  obtain ⟨a, ha, h1⟩ := h p hp
  generalize hx : ruAt l p = x at *
  obtain ⟨k, f, t, s, P⟩ := x
  obtain ⟨B, c, _⟩ := id h1
  refine ⟨a, k, f, t, s, P, B, c, ha, rfl, fun u hu => ?_⟩
  rename_i hh
  obtain ⟨h0, h1, h2, h3, h4, h5⟩ := hh
  exact ⟨⟨(hu.cell (block_lt_of_cell h0)).trans h0, (hu.cell (block_lt_of_cell h1)).trans h1, (hu.cell (block_lt_of_cell h2)).trans h2, (hu.cell (block_lt_of_cell h3)).trans h3, (hu.cell (block_lt_of_cell h4)).trans h4⟩, h5.below hu⟩
/-- What the sizes of rules' texts may be. -/
def Fit3 (l : List Ru) : Prop := ∀ r ∈ l, r.2.2.2.1.size ≤ maxLen ∧ r.2.2.2.2.length ≤ maxLen ∧ Fit2 r.2.2.2.2
theorem Fit3.at_ {l : List Ru} (h : Fit3 l) {k : Nat} (hk : k < l.length) : (ruAt l k).2.2.2.1.size ≤ maxLen ∧ (ruAt l k).2.2.2.2.length ≤ maxLen ∧ Fit2 (ruAt l k).2.2.2.2 := by rw [ruAt_get hk]; exact h _ (List.getElem_mem hk)

/-- A rule, and where its pairs stand. -/
abbrev RuB := Ru × Option Addr × Nat
def rubAt (l : List RuB) (i : Nat) : RuB := l.getD i (noRu, none, 0)
theorem rubAt_get {l : List RuB} {i : Nat} (h : i < l.length) : rubAt l i = l[i] := by simp [rubAt, List.getD, h]
def rubC (x : RuB) : List Value := [.int .i64 x.1.1, .int .i64 x.1.2.1, .int .i64 x.1.2.2.1, .string x.1.2.2.2.1, .slice x.2.1 x.1.2.2.2.2.length x.2.2]
def rubsC (l : List RuB) : List Value := l.flatMap rubC
theorem rubsC_length (l : List RuB) : (rubsC l).length = l.length * 5 := by
  induction l with
  | nil => rfl
  | cons x r ih => simp only [rubsC, List.flatMap_cons, List.length_append, List.length_cons, rubC, List.length_nil] at *; omega
theorem rubsC_snoc (l : List RuB) (x : RuB) : rubsC (l ++ [x]) = rubsC l ++ rubC x := by simp [rubsC]
theorem rubsC_at : ∀ (l : List RuB) (i : Nat), i < l.length → (rubsC l)[i * 5]? = some (.int .i64 (rubAt l i).1.1) ∧ (rubsC l)[i * 5 + 1]? = some (.int .i64 (rubAt l i).1.2.1) ∧ (rubsC l)[i * 5 + 2]? = some (.int .i64 (rubAt l i).1.2.2.1) ∧
    (rubsC l)[i * 5 + 3]? = some (.string (rubAt l i).1.2.2.2.1) ∧ (rubsC l)[i * 5 + 4]? = some (.slice (rubAt l i).2.1 (rubAt l i).1.2.2.2.2.length (rubAt l i).2.2)
  | [], i, h => by simp at h
  | x :: r, 0, _ => ⟨rfl, rfl, rfl, rfl, rfl⟩
  | x :: r, i + 1, h => by
    have ih := rubsC_at r i (by simpa using h)
    have e : rubsC (x :: r) = .int .i64 x.1.1 :: .int .i64 x.1.2.1 :: .int .i64 x.1.2.2.1 :: .string x.1.2.2.2.1 :: .slice x.2.1 x.1.2.2.2.2.length x.2.2 :: rubsC r := rfl
    have e2 : rubAt (x :: r) (i + 1) = rubAt r i := by simp [rubAt, List.getD]
    rw [e, e2, show (i + 1) * 5 = i * 5 + 1 + 1 + 1 + 1 + 1 by omega]
    simpa using ih
theorem Tryd.infoRule : (Tryd.prog.info? 53).map (fun i => (i.zero, i.size, i.bytes)) = some (some (.agg #[.int .i64 0, .int .i64 0, .int .i64 0, .string ⟨#[]⟩, .slice none 0 0]), 5, 64) := by kernel_rfl

/-- Pairs that stand behind lo, and not in the block g. -/
def PrsX (u : World) (lo : Nat) (g : Option Nat) (A : Option Addr) (l : List PairT) : Prop := Prs u A l ∧ ∀ a, A = some a → l ≠ [] → lo ≤ a.block ∧ some a.block ≠ g ∧ a.block < u.heap.size
theorem add_block (a : Addr) (i : Nat) : (a.add i).block = a.block := by unfold Addr.add; split <;> rfl
theorem prs_same {u u' : World} {A : Option Addr} {l : List PairT} (h : Prs u A l) (hs : ∀ a, A = some a → l ≠ [] → u'.heap[a.block]? = u.heap[a.block]?) : Prs u' A l := fun i hi => by
  obtain ⟨a, ha, h0, h1⟩ := h i hi
  have hb := hs a ha (by intro e; subst e; simp at hi)
  exact ⟨a, ha, (World.cell?_of_block (by rw [add_block]; exact hb)).trans h0, (World.cell?_of_block (a := ⟨(a.add (i * 2)).block, (a.add (i * 2)).off + 1, none⟩) (by show _ = _; rw [add_block]; exact hb)).trans h1⟩
theorem PrsX.below {u u' : World} {lo : Nat} {g : Option Nat} {A : Option Addr} {l : List PairT} (h : PrsX u lo g A l) (hb : Below u.heap.size u u') : PrsX u' lo g A l :=
  ⟨h.1.below hb, fun a ha hl => ⟨(h.2 a ha hl).1, (h.2 a ha hl).2.1, Nat.lt_of_lt_of_le (h.2 a ha hl).2.2 hb.size⟩⟩
theorem PrsX.grown {u u' : World} {lo : Nat} {g g' : Option Nat} {A : Option Addr} {l : List PairT} (h : PrsX u lo g A l) (hg : u.grownBy u' g) (hat : ∀ k, g' = some k → g = some k ∨ u.heap.size ≤ k) : PrsX u' lo g' A l :=
  ⟨prs_same h.1 fun a ha hl => hg.block _ (h.2 a ha hl).2.2 (h.2 a ha hl).2.1, fun a ha hl => by
    obtain ⟨h1, h2, h3⟩ := h.2 a ha hl
    refine ⟨h1, fun e => ?_, Nat.lt_of_lt_of_le h3 hg.size⟩
    rcases hat _ e.symm with h | h
    · exact h2 h.symm
    · omega⟩
theorem PrsX.set {u : World} {lo : Nat} {g : Option Nat} {A : Option Addr} {l : List PairT} (h : PrsX u lo g A l) {p : Nat} (hp : p < lo) (i : Nat) (x : Value) : PrsX (u.setCell ⟨p, i, none⟩ x) lo g A l :=
  ⟨prs_same h.1 fun a ha hl => heap_setCell_other _ _ _ _ (by have := (h.2 a ha hl).1; show a.block ≠ p; omega), fun a ha hl => ⟨(h.2 a ha hl).1, (h.2 a ha hl).2.1, by have := (h.2 a ha hl).2.2; simpa using this⟩⟩
/-- What a row of the call's own holds, as a slice that is read. -/
theorem rls_own {w : World} {base n cap : Nat} {A : Option Addr} {L : List RuB} (h : w.ownsRow base 53 5 (.slice A n cap) n (rubsC L)) (hn : n = L.length) (hP : ∀ x ∈ L, Prs w x.2.1 x.1.2.2.2.2) : Rls w A (L.map Prod.fst) := by
  subst hn
  intro i hi
  rw [List.length_map] at hi
  rcases h.2 with ⟨hv, h0⟩ | ⟨g, cap', cur, hv, _⟩
  · omega
  · injection hv with h1 h2 h3
    subst h1
    subst h3
    refine ⟨_, rfl, ?_⟩
    have e1 : (⟨g, 0, none⟩ : Addr).add (i * 5) = ⟨g, i * 5, none⟩ := by rw [Addr.add_lit, Nat.zero_add]
    rw [e1]
    obtain ⟨c0, c1, c2, c3, c4⟩ := rubsC_at L i hi
    have hx : ruAt (L.map Prod.fst) i = (rubAt L i).1 := by rw [ruAt_get (by simpa using hi), rubAt_get hi]; simp
    rw [hx]
    have hm := hP _ (by rw [rubAt_get hi]; exact List.getElem_mem hi : rubAt L i ∈ L)
    exact ⟨_, _, (h.cellAt (i * 5) (by omega)).trans c0, (h.cellAt (i * 5 + 1) (by omega)).trans c1, (h.cellAt (i * 5 + 2) (by omega)).trans c2, (h.cellAt (i * 5 + 3) (by omega)).trans c3, (h.cellAt (i * 5 + 4) (by omega)).trans c4, hm⟩

end Go.Proofs.YtbhlennolghjmaaDoor
