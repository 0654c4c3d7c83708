/-
  What is answered as a message and a fault: two cells; what a loop that puts fields into a message leaves as it was.
-/
import Derived.Test.YthheflgfbdcnlaaDoorMsgRefCut
import Derived.Test.YthheflgfbdcnlaaDoorPackSch
namespace Go.Proofs.YthheflgfbdcnlaaDoor
open Go.RowKit

/-- The answer is this message, its fields in a list somewhere, and this fault. -/
def DecTo (R : ByteArray × List Item × (Int × Int)) (w w' : World) (e : Ending) : Prop :=
  ∃ A' c', e = .returned (.tuple #[.agg #[.string R.1, .slice A' R.2.1.length c'], .agg #[.int .i64 R.2.2.1, .int .i64 R.2.2.2]]) ∧ Tlvs w' A' R.2.1 ∧ Below w.heap.size w w'
theorem results_two {P : Program} {fn : Func} {p q : Tmp} {ty ty' : TypeId} (h : fn.results = #[.cell p ty, .cell q ty']) (tmps : Array Value) (w : World) (g g' : Nat) (t t' : TypeId) (cs cs' : Array Value) (fr fr' : Nat × Nat) (d d' : TypeDesc)
    (hp : tmps.getD p undef = .pointer (some ⟨g, 0, none⟩)) (hg : w.heap[g]? = some (.cells cs t fr)) (hq : tmps.getD q undef = .pointer (some ⟨g', 0, none⟩)) (hg' : w.heap[g']? = some (.cells cs' t' fr'))
    (hu : P.underlying ty = some d) (hd : (match d with | .struct _ | .array _ _ => true | _ => false) = true) (hi : (P.info? ty).map (·.size) = some cs.size)
    (hu' : P.underlying ty' = some d') (hd' : (match d' with | .struct _ | .array _ _ => true | _ => false) = true) (hi' : (P.info? ty').map (·.size) = some cs'.size) :
    (results fn tmps).run P w = .ok (.tuple #[.agg cs, .agg cs']) w := by
  have hp' : tmps[p]?.getD undef = .pointer (some ⟨g, 0, none⟩) := by simpa using hp
  have hq' : tmps[q]?.getD undef = .pointer (some ⟨g', 0, none⟩) := by simpa using hq
  simp [results, h, hp', hq', asAddr, run_loadVar_row w g t ty cs fr d hg hu hd hi, run_loadVar_row w g' t' ty' cs' fr' d' hg' hu' hd' hi']
/-- Two blocks of two cells, both stored whole. -/
theorem two_set {w u : World} {p q : Nat} {a b c d : Value} {t t' : TypeId} (hp : u.heap[p]? = some (.cells #[a, b] t)) (hq : u.heap[q]? = some (.cells #[c, d] t')) (hne : p ≠ q) (h1 : w.heap.size ≤ p) (h2 : w.heap.size ≤ q) (hb : Below w.heap.size w u) (a' b' c' d' : Value) :
    ((((u.setCell ⟨p, 0, none⟩ a').setCell ⟨p, 1, none⟩ b').setCell ⟨q, 0, none⟩ c').setCell ⟨q, 1, none⟩ d').heap[p]? = some (.cells #[a', b'] t) ∧
    ((((u.setCell ⟨p, 0, none⟩ a').setCell ⟨p, 1, none⟩ b').setCell ⟨q, 0, none⟩ c').setCell ⟨q, 1, none⟩ d').heap[q]? = some (.cells #[c', d'] t') ∧
    Below w.heap.size w ((((u.setCell ⟨p, 0, none⟩ a').setCell ⟨p, 1, none⟩ b').setCell ⟨q, 0, none⟩ c').setCell ⟨q, 1, none⟩ d') :=
  ⟨obj_set_other (obj_set2 hp _ _) hne _ _, obj_set2 (obj_set_other hq (Ne.symm hne) _ _) _ _, below_set2 (below_set2 hb h1 _ _) h2 _ _⟩

/-- A number's cell lies in no block of a text and a slice. -/
theorem num_apart {w : World} {q : Addr} {z : Int} {p : Nat} {m : ByteArray} {X : Option Addr} {n c : Nat} {t : TypeId} (h0 : w.cell? q = some (.int .i64 z)) (hg : w.heap[p]? = some (.cells #[.string m, .slice X n c] t)) : q.block ≠ p := by
  intro e
  obtain ⟨b, o, f⟩ := q
  dsimp only at e
  subst e
  cases f with
  | none =>
    rw [cell_of_row _ _ _ _ _ _ hg] at h0
    match o with
    | 0 => simp at h0
    | 1 => simp at h0
    | o + 2 => simp at h0
  | some f => simp [World.cell?, hg] at h0
theorem KeepX.num {U u : World} {g : Nat} {q : Addr} {z : Int} {m : ByteArray} {X : Option Addr} {n c : Nat} {t : TypeId} (h : KeepX U g u) (hc : U.cell? q = some (.int .i64 z)) (hg : U.heap[g]? = some (.cells #[.string m, .slice X n c] t)) : u.cell? q = some (.int .i64 z) :=
  (World.cell?_of_block (h.2 _ (block_lt_of_cell hc) (num_apart hc hg))).trans hc
theorem KeepX.spl {U u : World} {g : Nat} {A : Option Addr} {sl : List Sp} {m : ByteArray} {X : Option Addr} {n c : Nat} {t : TypeId} (h : KeepX U g u) (hI : Spl U A sl) (hg : U.heap[g]? = some (.cells #[.string m, .slice X n c] t)) : Spl u A sl := by
  intro i hi
  obtain ⟨a, ha, h0, h1, h2, h3, h4⟩ := hI i hi
  exact ⟨a, ha, h.num h0 hg, h.num h1 hg, h.num h2 hg, h.num h3 hg, h.num h4 hg⟩
/-- The row of a message's fields is the call's own, so above the blocks that are stored into last. -/
theorem own_two {w : World} {base e p q n cap : Nat} {A : Option Addr} {l : List Item} (h : w.ownsRow base e 2 (.slice A n cap) n (itemsC l)) (hn : n = l.length) (hp : p < base) (hq : q < base) (a b c d : Value) :
    Tlvs ((((w.setCell ⟨p, 0, none⟩ a).setCell ⟨p, 1, none⟩ b).setCell ⟨q, 0, none⟩ c).setCell ⟨q, 1, none⟩ d) A l :=
  vals_own_at (owns_set1 (owns_set1 (owns_set1 (owns_set1 h hp _ _) hp _ _) hq _ _) hq _ _) hn


theorem vals_by_msg {w : World} {A : Option Addr} {l : List Item} {p : Nat} {m : ByteArray} {X : Option Addr} {n c0 : Nat} {t : TypeId} (h : Tlvs w A l) (hg : w.heap[p]? = some (.cells #[.string m, .slice X n c0] t)) (c d : Value) : Tlvs ((w.setCell ⟨p, 0, none⟩ c).setCell ⟨p, 1, none⟩ d) A l := by
  intro i hi
  obtain ⟨a, ha, h0, h1⟩ := h i hi
  have hne : (a.add (i * 2)).block ≠ p := num_apart h0 hg
  exact ⟨a, ha, (World.cell?_of_block ((heap_setCell_other _ _ _ _ hne).trans (heap_setCell_other _ _ _ _ hne))).trans h0, (World.cell?_of_block ((heap_setCell_other _ _ _ _ hne).trans (heap_setCell_other _ _ _ _ hne))).trans h1⟩
theorem vals_by_fault {w : World} {A : Option Addr} {l : List Item} {p : Nat} {x y : Int} {t : TypeId} (h : Tlvs w A l) (hg : w.heap[p]? = some (.cells #[.int .i64 x, .int .i64 y] t)) (c d : Value) : Tlvs ((w.setCell ⟨p, 0, none⟩ c).setCell ⟨p, 1, none⟩ d) A l := by
  intro i hi
  obtain ⟨a, ha, h0, h1⟩ := h i hi
  have hne : (a.add (i * 2)).block ≠ p := by
    intro e
    generalize (a.add (i * 2)) = q at *
    obtain ⟨b, o, f⟩ := q
    dsimp only at e h1
    subst e
    rw [cell_of_row _ _ _ _ _ _ hg] at h1
    match o with
    | 0 => simp at h1
    | o + 1 => simp at h1
  exact ⟨a, ha, (World.cell?_of_block ((heap_setCell_other _ _ _ _ hne).trans (heap_setCell_other _ _ _ _ hne))).trans h0, (World.cell?_of_block ((heap_setCell_other _ _ _ _ hne).trans (heap_setCell_other _ _ _ _ hne))).trans h1⟩

end Go.Proofs.YthheflgfbdcnlaaDoor
