/-
  Slices of specs: one that is read, a row of the call's own, a copy; a schema's block.
-/
import Derived.Test.YtbclaiaadeecfaaDoorObjs
import Derived.Test.YtbclaiaadeecfaaDoorSpcOne
import Derived.Test.YtbclaiaadeecfaaDoorSchMath
import Derived.Deep.AppendLies
import Derived.Laws.OwnMore
namespace Go.Proofs.YtbclaiaadeecfaaDoor
open Go.RowKit

def spC (x : Sp) : List Value := [.int .i64 x.1, .int .i64 x.2.1, .int .i64 x.2.2.1, .int .i64 x.2.2.2.1, .int .i64 x.2.2.2.2]
def spsC (l : List Sp) : List Value := l.flatMap spC
abbrev spV (x : Sp) : Value := .agg #[.int .i64 x.1, .int .i64 x.2.1, .int .i64 x.2.2.1, .int .i64 x.2.2.2.1, .int .i64 x.2.2.2.2]
/-- The five cells of a spec at an address. -/
def SpAt (w : World) (p : Addr) (x : Sp) : Prop :=
  w.cell? p = some (.int .i64 x.1) ∧ w.cell? ⟨p.block, p.off + 1, none⟩ = some (.int .i64 x.2.1) ∧ w.cell? ⟨p.block, p.off + 2, none⟩ = some (.int .i64 x.2.2.1) ∧
  w.cell? ⟨p.block, p.off + 3, none⟩ = some (.int .i64 x.2.2.2.1) ∧ w.cell? ⟨p.block, p.off + 4, none⟩ = some (.int .i64 x.2.2.2.2)
/-- A slice that holds these specs. -/
def Spl (w : World) (A : Option Addr) (l : List Sp) : Prop := ∀ i, i < l.length → ∃ a, A = some a ∧ SpAt w (a.add (i * 5)) (spAt l i)
theorem Spl.below {w w' : World} {A : Option Addr} {l : List Sp} (h : Spl w A l) (hb : Below w.heap.size w w') : Spl w' A l := fun i hi => by
  obtain ⟨a, ha, h0, h1, h2, h3, h4⟩ := h i hi
  refine ⟨a, ha, ?_, ?_, ?_, ?_, ?_⟩
  · rw [hb.cell (block_lt_of_cell h0)]; exact h0
  · rw [hb.cell (block_lt_of_cell h1)]; exact h1
  · rw [hb.cell (block_lt_of_cell h2)]; exact h2
  · rw [hb.cell (block_lt_of_cell h3)]; exact h3
  · rw [hb.cell (block_lt_of_cell h4)]; exact h4
theorem Spl.at_ {w : World} {A : Option Addr} {l : List Sp} (h : Spl w A l) {i : Nat} (hi : i < l.length) : ∃ a n c f lo hi', A = some a ∧ spAt l i = (n, c, f, lo, hi') ∧
    w.cell? (a.add (i * 5)) = some (.int .i64 n) ∧ w.cell? ⟨(a.add (i * 5)).block, (a.add (i * 5)).off + 1, none⟩ = some (.int .i64 c) ∧ w.cell? ⟨(a.add (i * 5)).block, (a.add (i * 5)).off + 2, none⟩ = some (.int .i64 f) ∧
    w.cell? ⟨(a.add (i * 5)).block, (a.add (i * 5)).off + 3, none⟩ = some (.int .i64 lo) ∧ w.cell? ⟨(a.add (i * 5)).block, (a.add (i * 5)).off + 4, none⟩ = some (.int .i64 hi') := by
  obtain ⟨a, ha, h0, h1, h2, h3, h4⟩ := h i hi
  exact ⟨a, _, _, _, _, _, ha, rfl, h0, h1, h2, h3, h4⟩
theorem spl_nil (w : World) (A : Option Addr) : Spl w A [] := fun i hi => by simp at hi

theorem Tryd.infoSpec : (Tryd.prog.info? 28).map (fun i => (i.zero, i.size, i.bytes)) = some (some (.agg #[.int .i64 0, .int .i64 0, .int .i64 0, .int .i64 0, .int .i64 0]), 5, 40) := by kernel_rfl
theorem spsC_length (l : List Sp) : (spsC l).length = l.length * 5 := by
  induction l with
  | nil => rfl
  | cons x r ih => simp only [spsC, List.flatMap_cons, List.length_append, List.length_cons, spC, List.length_nil] at *; omega
theorem spsC_snoc (l : List Sp) (x : Sp) : spsC (l ++ [x]) = spsC l ++ spC x := by simp [spsC]
theorem spsC_at : ∀ (l : List Sp) (i : Nat), i < l.length → ∀ r, r < 5 → (spsC l)[i * 5 + r]? = (spC (spAt l i))[r]?
  | [], i, h => by simp at h
  | x :: r, 0, _ => fun j hj => by
    have e : spsC (x :: r) = spC x ++ spsC r := by simp [spsC]
    rw [e, spAt_zero, Nat.zero_mul, Nat.zero_add, List.getElem?_append_left (by simpa [spC] using hj)]
  | x :: r, i + 1, h => fun j hj => by
    have ih := spsC_at r i (by simpa using h) j hj
    have e : spsC (x :: r) = spC x ++ spsC r := by simp [spsC]
    rw [e, spAt_succ, List.getElem?_append_right (by simp [spC]; omega), show (i + 1) * 5 + j - (spC x).length = i * 5 + j by simp [spC]; omega]
    exact ih
/-- What a row of the call's own holds, as a slice that is read. -/
theorem spl_own {w : World} {base n : Nat} {v : Value} {l : List Sp} (h : w.ownsRow base 28 5 v n (spsC l)) (hn : n = l.length) : ∃ A cap, v = .slice A l.length cap ∧ Spl w A l := by
  subst hn
  rcases h.2 with ⟨hv, h0⟩ | ⟨g, cap, cur, hv, _⟩
  · have : l = [] := List.eq_nil_of_length_eq_zero h0
    subst this
    exact ⟨none, 0, hv, spl_nil _ _⟩
  · refine ⟨some ⟨g, 0, none⟩, cap, hv, fun i hi => ⟨_, rfl, ?_⟩⟩
    subst hv
    have e1 : (⟨g, 0, none⟩ : Addr).add (i * 5) = ⟨g, i * 5, none⟩ := by rw [Addr.add_lit, Nat.zero_add]
    rw [e1]
    have hc := spsC_at l i hi
    exact ⟨(h.cellAt (i * 5) (by omega)).trans (hc 0 (by omega)), (h.cellAt (i * 5 + 1) (by omega)).trans (hc 1 (by omega)), (h.cellAt (i * 5 + 2) (by omega)).trans (hc 2 (by omega)), (h.cellAt (i * 5 + 3) (by omega)).trans (hc 3 (by omega)), (h.cellAt (i * 5 + 4) (by omega)).trans (hc 4 (by omega))⟩
theorem sowns_below {w w' : World} {base e size n : Nat} {v : Value} {xs : List Value} (h : w.ownsRow base e size v n xs) (hb : Below w.heap.size w w') : w'.ownsRow base e size v n xs := by
  refine ⟨h.1, ?_⟩
  rcases h.2 with h1 | ⟨g', cap, cur, h1, h2, h3, h4⟩
  · exact .inl h1
  · exact .inr ⟨g', cap, cur, h1, h2, obj_below h3 hb, h4⟩
theorem add_off (a : Addr) (q r : Nat) (hr : 0 < r) : a.add (q + r) = ⟨(a.add q).block, (a.add q).off + r, none⟩ := by
  unfold Addr.add
  have hr0 : r ≠ 0 := by omega
  by_cases hq : q = 0
  · subst hq; simp [hr0]
  · simp [hq]; omega
/-- A slice's cells, one behind the other. -/
theorem spl_news {w : World} {a : Addr} {l : List Sp} (h : Spl w (some a) l) : ∀ j u, (spsC l)[j]? = some u → w.cell? (a.add j) = some u := by
  intro j u hu
  have hj := (List.getElem?_eq_some_iff.1 hu).1
  rw [spsC_length] at hj
  obtain ⟨a', ha, h0, h1, h2, h3, h4⟩ := h (j / 5) (by omega)
  injection ha with ha
  subst ha
  have hat := spsC_at l (j / 5) (by omega) (j % 5) (by omega)
  have ej : j = j / 5 * 5 + j % 5 := by omega
  rw [← ej, hu] at hat
  generalize j / 5 = q at *
  have hr : j % 5 < 5 := by omega
  generalize j % 5 = r at *
  subst ej
  match r, hr with
  | 0, _ => rw [Nat.add_zero, h0]; exact hat.symm
  | 1, _ => rw [add_off _ _ _ (by omega), h1]; exact hat.symm
  | 2, _ => rw [add_off _ _ _ (by omega), h2]; exact hat.symm
  | 3, _ => rw [add_off _ _ _ (by omega), h3]; exact hat.symm
  | 4, _ => rw [add_off _ _ _ (by omega), h4]; exact hat.symm
theorem sps_one (l : List Sp) : ∀ u ∈ spsC l, u.oneCell' = true := by
  intro u hu
  simp only [spsC, List.mem_flatMap, spC] at hu
  obtain ⟨x, _, hx⟩ := hu
  simp at hx
  rcases hx with rfl | rfl | rfl | rfl | rfl <;> rfl
theorem spl_copy {w : World} {base g c n : Nat} {l : List Sp} (h : w.ownsRow base 28 5 (.slice (some ⟨g, 0, none⟩) n c) n (spsC l)) (hn : n = l.length) : Spl w (some ⟨g, 0, none⟩) l := by
  obtain ⟨A, cap, hv, ht⟩ := spl_own h hn
  injection hv with h1 h2 h3
  subst h1
  exact ht

/-- 'append([]api.Spec{}, l...)', at a step of a region that draws its order: a slice of the call's own that holds the same, also where l is of none. -/
theorem wp_copy_spl {o : Oper} {a : Act} {K : Act → World → Prop} {Q : Exit → Act → World → Prop} (s x : Operand)
    (ho : o.op = .call { callee := .builtin .append, args := #[s, x], argTypes := #[22, 22] }) (U : World) (B g : Nat) (hs : a.eval s = .slice (some ⟨g, 0, none⟩) 0 0)
    (hown : U.ownsRow B 28 5 (.slice (some ⟨g, 0, none⟩) 0 0) 0 []) (hB : B ≤ U.heap.size)
    (A : Option Addr) (c len : Nat) (hx : a.eval x = .slice A len c) (l : List Sp) (hlen : l.length = len) (hT : Spl U A l) (hl : len ≤ 5000000)
    (h : ∀ A' c' w', Spl w' A' l → (∀ a, A' = some a → a.block = g ∨ a.block = U.heap.size) → (∀ W : World, Below W.heap.size W U → W.heap.size ≤ g → Below W.heap.size W w') → K (a.put o.dst (.slice A' len c')) w') : o.wp Tryd.prog a U K Q := by
  obtain ⟨i0, hi, hz0, hz1, hz2⟩ := info_parts Tryd.infoSpec
  by_cases h0 : len = 0
  · subst h0
    have hnil : l = [] := List.eq_nil_of_length_eq_zero hlen
    subst hnil
    have hr : (Builtin.append_ #[22, 22] o.type #[.slice (some ⟨g, 0, none⟩) 0 0, .slice A 0 c]).run Tryd.prog U = .ok (.slice (some ⟨g, 0, none⟩) 0 0) U := by
      cases A <;> simp [Builtin.append_, run_underlying Tryd.underlying22, sizeOf, typeInfo, hi, Builtin.lenOf, Builtin.firstCells, storeCells, loadCells, loadCellsFrom]
    unfold Oper.wp execOp
    simp only [ho, resolve, invoke, builtin, Sem.run_bind, Sem.run_pure, Result.andThen_ok, List.map_toArray, List.map_cons, List.map_nil, hs, hx, hr]
    exact h _ _ _ (spl_nil _ _) (fun a ha => by injection ha with ha; subst ha; exact .inl rfl) (fun W hW _ => hW)
  · obtain ⟨a', rfl, _⟩ := hT 0 (by omega)
    refine wp_append_lies _ s x _ ho B 28 i0 _ 5 40 Tryd.underlying22 hi hz0 hz1 hz2 rfl (by omega) (.slice (some ⟨g, 0, none⟩) 0 0) 0 [] hs hown a' len c (spsC l) hx (by rw [spsC_length, hlen]) (spl_news hT) (sps_one l) (by omega) (by unfold maxLen; omega) (by omega) hB U.heap.size rfl ?_
    intro g' cap' w2 hown2 hgrow hat hlt2
    rw [Nat.zero_add] at hown2 ⊢
    have hblk : ∀ q : Addr, (some ⟨g', 0, none⟩ : Option Addr) = some q → q.block = g ∨ q.block = U.heap.size := by
      intro q hq
      injection hq with hq
      subst hq
      rcases hat with he | he
      · left; simp [Value.ownBlock] at he; exact he.symm
      · exact .inr he
    exact h _ _ _ (spl_copy (by simpa using hown2) hlen.symm) hblk (fun W hW hg => hW.grown hgrow hW.size (by intro q hq; simp [Value.ownBlock] at hq; omega))

theorem obj_cells3 {u : World} {g : Nat} {a b c : Value} {t : TypeId} (h : u.heap[g]? = some (.cells #[a, b, c] t)) :
    u.cell? ⟨g, 0, none⟩ = some a ∧ u.cell? ⟨g, 1, none⟩ = some b ∧ u.cell? ⟨g, 2, none⟩ = some c :=
  ⟨cell_of_row u g 0 _ t _ h, cell_of_row u g 1 _ t _ h, cell_of_row u g 2 _ t _ h⟩
theorem obj_warm3 {u : World} {g : Nat} {a b c : Value} {t : TypeId} (h : u.heap[g]? = some (.cells #[a, b, c] t)) :
    u.frozen? ⟨g, 0, none⟩ = false ∧ u.frozen? ⟨g, 1, none⟩ = false ∧ u.frozen? ⟨g, 2, none⟩ = false :=
  ⟨frozen_of_row u g 0 _ t h, frozen_of_row u g 1 _ t h, frozen_of_row u g 2 _ t h⟩
theorem obj_warm5 {u : World} {g : Nat} {a b c d e : Value} {t : TypeId} (h : u.heap[g]? = some (.cells #[a, b, c, d, e] t)) :
    u.frozen? ⟨g, 0, none⟩ = false ∧ u.frozen? ⟨g, 1, none⟩ = false ∧ u.frozen? ⟨g, 2, none⟩ = false ∧ u.frozen? ⟨g, 3, none⟩ = false ∧ u.frozen? ⟨g, 4, none⟩ = false :=
  ⟨frozen_of_row u g 0 _ t h, frozen_of_row u g 1 _ t h, frozen_of_row u g 2 _ t h, frozen_of_row u g 3 _ t h, frozen_of_row u g 4 _ t h⟩
theorem obj_set3 {u : World} {g : Nat} {a b c : Value} {t : TypeId} (h : u.heap[g]? = some (.cells #[a, b, c] t)) (x y z : Value) : (((u.setCell ⟨g, 0, none⟩ x).setCell ⟨g, 1, none⟩ y).setCell ⟨g, 2, none⟩ z).heap[g]? = some (.cells #[x, y, z] t) :=
  heap_setCell_same _ g 2 _ t z (heap_setCell_same _ g 1 _ t y (heap_setCell_same u g 0 _ t x h))
theorem obj_set5 {u : World} {g : Nat} {a b c d e : Value} {t : TypeId} (h : u.heap[g]? = some (.cells #[a, b, c, d, e] t)) (x y z p q : Value) :
    (((((u.setCell ⟨g, 0, none⟩ x).setCell ⟨g, 1, none⟩ y).setCell ⟨g, 2, none⟩ z).setCell ⟨g, 3, none⟩ p).setCell ⟨g, 4, none⟩ q).heap[g]? = some (.cells #[x, y, z, p, q] t) :=
  heap_setCell_same _ g 4 _ t q (heap_setCell_same _ g 3 _ t p (heap_setCell_same _ g 2 _ t z (heap_setCell_same _ g 1 _ t y (heap_setCell_same u g 0 _ t x h))))
theorem below_set3 {w u : World} {p : Nat} (h : Below w.heap.size w u) (hp : w.heap.size ≤ p) (x y z : Value) : Below w.heap.size w (((u.setCell ⟨p, 0, none⟩ x).setCell ⟨p, 1, none⟩ y).setCell ⟨p, 2, none⟩ z) :=
  ((h.setCell (p := ⟨p, 0, none⟩) hp x).setCell (p := ⟨p, 1, none⟩) hp y).setCell (p := ⟨p, 2, none⟩) hp z
theorem below_set5 {w u : World} {g : Nat} (h : Below w.heap.size w u) (hp : w.heap.size ≤ g) (x y z p q : Value) : Below w.heap.size w (((((u.setCell ⟨g, 0, none⟩ x).setCell ⟨g, 1, none⟩ y).setCell ⟨g, 2, none⟩ z).setCell ⟨g, 3, none⟩ p).setCell ⟨g, 4, none⟩ q) :=
  ((((h.setCell (p := ⟨g, 0, none⟩) hp x).setCell (p := ⟨g, 1, none⟩) hp y).setCell (p := ⟨g, 2, none⟩) hp z).setCell (p := ⟨g, 3, none⟩) hp p).setCell (p := ⟨g, 4, none⟩) hp q

theorem obj_set5_other {u : World} {g q : Nat} {O : Obj} (h : u.heap[q]? = some O) (hq : q ≠ g) (x y z p r : Value) : (((((u.setCell ⟨g, 0, none⟩ x).setCell ⟨g, 1, none⟩ y).setCell ⟨g, 2, none⟩ z).setCell ⟨g, 3, none⟩ p).setCell ⟨g, 4, none⟩ r).heap[q]? = some O := by
  rw [heap_setCell_other _ _ _ _ hq, heap_setCell_other _ _ _ _ hq, heap_setCell_other _ _ _ _ hq, heap_setCell_other _ _ _ _ hq, heap_setCell_other _ _ _ _ hq]
  exact h
/-- A row's cells, as a slice of specs. -/
theorem spl_row {u : World} {g : Nat} {cs : Array Value} {t : TypeId} {l : List Sp} (h : u.heap[g]? = some (.cells cs t)) (hc : cs.toList = spsC l) : Spl u (some ⟨g, 0, none⟩) l := by
  intro i hi
  refine ⟨_, rfl, ?_⟩
  rw [show (⟨g, 0, none⟩ : Addr).add (i * 5) = ⟨g, i * 5, none⟩ from by rw [Addr.add_lit, Nat.zero_add]]
  have hat := spsC_at l i hi
  have hcell : ∀ j, u.cell? ⟨g, j, none⟩ = (spsC l)[j]? := fun j => by rw [cell_of_row u g j _ t _ h, ← hc]; simp
  exact ⟨(hcell (i * 5)).trans (hat 0 (by omega)), (hcell (i * 5 + 1)).trans (hat 1 (by omega)), (hcell (i * 5 + 2)).trans (hat 2 (by omega)), (hcell (i * 5 + 3)).trans (hat 3 (by omega)), (hcell (i * 5 + 4)).trans (hat 4 (by omega))⟩

/-- Results: a struct's block, then a slot. -/
theorem results_cell_row1 {P : Program} {fn : Func} {p u : Tmp} {ty : TypeId} (h : fn.results = #[.cell p ty, .tmp u]) (tmps : Array Value) (w : World) (g : Nat) (t : TypeId) (cs : Array Value) (fr : Nat × Nat) (d : TypeDesc)
    (hp : tmps.getD p undef = .pointer (some ⟨g, 0, none⟩)) (hg : w.heap[g]? = some (.cells cs t fr))
    (hu : P.underlying ty = some d) (hd : (match d with | .struct _ | .array _ _ => true | _ => false) = true) (hi : (P.info? ty).map (·.size) = some cs.size) :
    (results fn tmps).run P w = .ok (.tuple #[.agg cs, tmps.getD u undef]) w := by
  have hp' : tmps[p]?.getD undef = .pointer (some ⟨g, 0, none⟩) := by simpa using hp
  simp [results, h, hp', asAddr, run_loadVar_row w g t ty cs fr d hg hu hd hi]

/-- A schema in a block. -/
def Box (u : World) (g : Nat) (st v : Int) (A : Option Addr) (len cap : Nat) : Prop := u.heap[g]? = some (.cells #[.int .i64 st, .int .i64 v, .slice A len cap] 24)
theorem Box.below {u u' : World} {g : Nat} {st v : Int} {A : Option Addr} {len cap : Nat} (h : Box u g st v A len cap) (hb : Below u.heap.size u u') : Box u' g st v A len cap := obj_below h hb
theorem box_new (w : World) (st v : Int) (A : Option Addr) (len cap : Nat) : Box (w.alloc (.cells #[.int .i64 st, .int .i64 v, .slice A len cap] 24)) w.heap.size st v A len cap := heap_alloc_new _ _

end Go.Proofs.YtbclaiaadeecfaaDoor
