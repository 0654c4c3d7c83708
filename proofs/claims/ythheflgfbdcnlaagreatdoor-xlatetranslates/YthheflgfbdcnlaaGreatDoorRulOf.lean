/-
  A rule and two schemas in the first blocks that a call makes; a value in a block.
-/
import Derived.Test.YthheflgfbdcnlaaGreatDoorRulMath
import Derived.Test.YthheflgfbdcnlaaGreatDoorPackSch
import Derived.Test.YthheflgfbdcnlaaGreatDoorPackCod
namespace Go.Proofs.YthheflgfbdcnlaaGreatDoor
open Go.RowKit

def RBox (u : World) (g : Nat) (k f t : Int) (s : ByteArray) (B : Option Addr) (n c : Nat) : Prop := u.heap[g]? = some (.cells #[.int .i64 k, .int .i64 f, .int .i64 t, .string s, .slice B n c] 58)
theorem RBox.below {u u' : World} {g : Nat} {k f t : Int} {s : ByteArray} {B : Option Addr} {n c : Nat} (h : RBox u g k f t s B n c) (hb : Below u.heap.size u u') : RBox u' g k f t s B n c := obj_below h hb
/-- A rule and two schemas. -/
def RQ (w : World) (k f t : Int) (s : ByteArray) (B : Option Addr) (n c : Nat) (st v : Int) (A : Option Addr) (la ca : Nat) (st' v' : Int) (A' : Option Addr) (lb cb : Nat) (u : World) : Prop :=
  Below w.heap.size w u ∧ RBox u w.heap.size k f t s B n c ∧ Box u (w.heap.size + 1) st v A la ca ∧ Box u (w.heap.size + 2) st' v' A' lb cb
theorem RQ.below {w : World} {k f t : Int} {s : ByteArray} {B : Option Addr} {n c : Nat} {st v : Int} {A : Option Addr} {la ca : Nat} {st' v' : Int} {A' : Option Addr} {lb cb : Nat} {u u' : World} (h : RQ w k f t s B n c st v A la ca st' v' A' lb cb u) (hb : Below u.heap.size u u') : RQ w k f t s B n c st v A la ca st' v' A' lb cb u' :=
  ⟨hbt h.1 hb, h.2.1.below hb, h.2.2.1.below hb, h.2.2.2.below hb⟩
theorem RQ.drew {w : World} {k f t : Int} {s : ByteArray} {B : Option Addr} {n c : Nat} {st v : Int} {A : Option Addr} {la ca : Nat} {st' v' : Int} {A' : Option Addr} {lb cb : Nat} {u : World} (h : RQ w k f t s B n c st v A la ca st' v' A' lb cb u) : RQ w k f t s B n c st v A la ca st' v' A' lb cb u.drew :=
  ⟨h.1.drew, h.2.1, h.2.2.1, h.2.2.2⟩
theorem rq_new (w : World) (k f t : Int) (s : ByteArray) (B : Option Addr) (n c : Nat) (st v : Int) (A : Option Addr) (la ca : Nat) (st' v' : Int) (A' : Option Addr) (lb cb : Nat) :
    RQ w k f t s B n c st v A la ca st' v' A' lb cb (((w.alloc (.cells #[.int .i64 k, .int .i64 f, .int .i64 t, .string s, .slice B n c] 58)).alloc (.cells #[.int .i64 st, .int .i64 v, .slice A la ca] 28)).alloc (.cells #[.int .i64 st', .int .i64 v', .slice A' lb cb] 28)) :=
  ⟨hbt (hbt (below_al _ _) (below_al _ _)) (below_al _ _), obj_below (obj_below (heap_alloc_new _ _) (below_al _ _)) (below_al _ _), obj_below (heap_al _ _ _ (by simp)) (below_al _ _), heap_al _ _ _ (by simp)⟩
/-- The cells of the three. -/
theorem RQ.cells {w : World} {k f t : Int} {s : ByteArray} {B : Option Addr} {n c : Nat} {st v : Int} {A : Option Addr} {la ca : Nat} {st' v' : Int} {A' : Option Addr} {lb cb : Nat} {u : World} (h : RQ w k f t s B n c st v A la ca st' v' A' lb cb u) :
    (u.cell? ⟨w.heap.size, 0, none⟩ = some (.int .i64 k) ∧ u.cell? ⟨w.heap.size, 1, none⟩ = some (.int .i64 f) ∧ u.cell? ⟨w.heap.size, 2, none⟩ = some (.int .i64 t) ∧ u.cell? ⟨w.heap.size, 3, none⟩ = some (.string s) ∧ u.cell? ⟨w.heap.size, 4, none⟩ = some (.slice B n c)) ∧
    (u.cell? ⟨w.heap.size + 1, 0, none⟩ = some (.int .i64 st) ∧ u.cell? ⟨w.heap.size + 1, 1, none⟩ = some (.int .i64 v) ∧ u.cell? ⟨w.heap.size + 1, 2, none⟩ = some (.slice A la ca)) ∧
    u.cell? ⟨w.heap.size + 2, 0, none⟩ = some (.int .i64 st') ∧ u.cell? ⟨w.heap.size + 2, 1, none⟩ = some (.int .i64 v') ∧ u.cell? ⟨w.heap.size + 2, 2, none⟩ = some (.slice A' lb cb) := by
  obtain ⟨_, h1, h2, h3⟩ := h
  exact ⟨obj_cells5 h1, obj_cells3 h2, obj_cells3 h3⟩
/-- A spec's cells, in every world behind. -/
theorem spl_all {w : World} {A : Option Addr} {l : List Sp} (h : Spl w A l) {p : Nat} (hp : p < l.length) : ∃ a n c f lo hi', A = some a ∧ spAt l p = (n, c, f, lo, hi') ∧ ∀ u, Below w.heap.size w u →
    u.cell? (a.add (p * 5)) = some (.int .i64 n) ∧ u.cell? ⟨(a.add (p * 5)).block, (a.add (p * 5)).off + 1, none⟩ = some (.int .i64 c) ∧ u.cell? ⟨(a.add (p * 5)).block, (a.add (p * 5)).off + 2, none⟩ = some (.int .i64 f) ∧
    u.cell? ⟨(a.add (p * 5)).block, (a.add (p * 5)).off + 3, none⟩ = some (.int .i64 lo) ∧ u.cell? ⟨(a.add (p * 5)).block, (a.add (p * 5)).off + 4, none⟩ = some (.int .i64 hi') := by
  obtain ⟨a, n, c, f, lo, hi', ha, hx, c0, c1, c2, c3, c4⟩ := h.at_ hp
  exact ⟨a, n, c, f, lo, hi', ha, hx, fun u hu => ⟨(hu.cell (block_lt_of_cell c0)).trans c0, (hu.cell (block_lt_of_cell c1)).trans c1, (hu.cell (block_lt_of_cell c2)).trans c2, (hu.cell (block_lt_of_cell c3)).trans c3, (hu.cell (block_lt_of_cell c4)).trans c4⟩⟩
/-- A pair's cells, in every world behind. -/
theorem prs_all {w : World} {A : Option Addr} {l : List PairT} (h : Prs w A l) {p : Nat} (hp : p < l.length) : ∃ a s t, A = some a ∧ duoAt l p = (s, t) ∧ ∀ u, Below w.heap.size w u →
    u.cell? (a.add (p * 2)) = some (.string s) ∧ u.cell? ⟨(a.add (p * 2)).block, (a.add (p * 2)).off + 1, none⟩ = some (.string t) := by
  obtain ⟨a, s, t, ha, hx, c0, c1⟩ := h.at_ hp
  exact ⟨a, s, t, ha, hx, fun u hu => ⟨(hu.cell (block_lt_of_cell c0)).trans c0, (hu.cell (block_lt_of_cell c1)).trans c1⟩⟩
/-- Where a field's spec stands. -/
theorem fnd_cases (no : Int) (l : List Sp) : (fndI no 0 l = -1 ∧ (fndP no l).2 = false) ∨ ∃ k : Nat, k < l.length ∧ fndI no 0 l = (k : Int) ∧ fndP no l = (spAt l k, true) := by
  rcases fnd_rel no l 0 with ⟨h1, h2⟩ | ⟨k, hk, h1, h2⟩
  · exact Or.inl ⟨h2, by rw [h1]⟩
  · exact Or.inr ⟨k, hk, by rw [h1]; simp, h2⟩

end Go.Proofs.YthheflgfbdcnlaaGreatDoor
