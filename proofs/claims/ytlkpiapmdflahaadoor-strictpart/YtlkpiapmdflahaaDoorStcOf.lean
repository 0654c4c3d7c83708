/-
  What decoding answers: a message and a fault; the blocks that it makes; what a loop that puts fields into a message leaves as it was.
-/
import Derived.Test.YtlkpiapmdflahaaDoorStcMath
import Derived.Test.YtlkpiapmdflahaaDoorMsgRefCut
import Derived.Test.YtlkpiapmdflahaaDoorWirEnc
import Derived.Test.YtlkpiapmdflahaaDoorWirCut
namespace Go.Proofs.YtlkpiapmdflahaaDoor
open Go.RowKit

/-- The answer is this message, its fields in a list somewhere, and this fault. -/
def DecTo (R : ByteArray × List Item × (Int × Int)) (w w' : World) (e : Ending) : Prop :=
  ∃ A' c', e = .returned (.tuple #[.agg #[.string R.1, .slice A' R.2.1.length c'], .agg #[.int .i64 R.2.2.1, .int .i64 R.2.2.2]]) ∧ Tlvs w' A' R.2.1 ∧ Below w.heap.size w w'
theorem results_two {P : Program} {fn : Func} {p q : Tmp} {ty ty' : TypeId} (h : fn.results = #[.cell p ty, .cell q ty']) (tmps : Array Value) (w : World) (g g' : Nat) (t t' : TypeId) (cs cs' : Array Value) (fr fr' : Nat × Nat) (d d' : TypeDesc)
    (hp : tmps.getD p undef = .pointer (some ⟨g, 0, none⟩)) (hg : w.heap[g]? = some (.cells cs t fr)) (hq : tmps.getD q undef = .pointer (some ⟨g', 0, none⟩)) (hg' : w.heap[g']? = some (.cells cs' t' fr'))
    (hu : P.underlying ty = some d) (hd : (match d with | .struct _ | .array _ _ => true | _ => false) = true) (hi : (P.info? ty).map (·.size) = some cs.size)
    (hu' : P.underlying ty' = some d') (hd' : (match d' with | .struct _ | .array _ _ => true | _ => false) = true) (hi' : (P.info? ty').map (·.size) = some cs'.size) :
    (results fn tmps).run P w = .ok (.tuple #[.agg cs, .agg cs']) w := by
  have hp' : tmps[p]?.getD undef = .pointer (some ⟨g, 0, none⟩) := by simpa using hp
  have hq' : tmps[q]?.getD undef = .pointer (some ⟨g', 0, none⟩) := by simpa using hq
  simp [results, h, hp', hq', asAddr, run_loadVar_row w g t ty cs fr d hg hu hd hi, run_loadVar_row w g' t' ty' cs' fr' d' hg' hu' hd' hi']
/-- Two blocks of two cells, both stored whole. -/
theorem two_set {w u : World} {p q : Nat} {a b c d : Value} {t t' : TypeId} (hp : u.heap[p]? = some (.cells #[a, b] t)) (hq : u.heap[q]? = some (.cells #[c, d] t')) (hne : p ≠ q) (h1 : w.heap.size ≤ p) (h2 : w.heap.size ≤ q) (hb : Below w.heap.size w u) (a' b' c' d' : Value) :
    ((((u.setCell ⟨p, 0, none⟩ a').setCell ⟨p, 1, none⟩ b').setCell ⟨q, 0, none⟩ c').setCell ⟨q, 1, none⟩ d').heap[p]? = some (.cells #[a', b'] t) ∧
    ((((u.setCell ⟨p, 0, none⟩ a').setCell ⟨p, 1, none⟩ b').setCell ⟨q, 0, none⟩ c').setCell ⟨q, 1, none⟩ d').heap[q]? = some (.cells #[c', d'] t') ∧
    Below w.heap.size w ((((u.setCell ⟨p, 0, none⟩ a').setCell ⟨p, 1, none⟩ b').setCell ⟨q, 0, none⟩ c').setCell ⟨q, 1, none⟩ d') :=
  ⟨obj_set_other (obj_set2 hp _ _) hne _ _, obj_set2 (obj_set_other hq (Ne.symm hne) _ _) _ _, below_set2 (below_set2 hb h1 _ _) h2 _ _⟩

/-- A number's cell lies in no block of a text and a slice. -/
theorem num_apart {w : World} {q : Addr} {z : Int} {p : Nat} {m : ByteArray} {X : Option Addr} {n c : Nat} {t : TypeId} (h0 : w.cell? q = some (.int .i64 z)) (hg : w.heap[p]? = some (.cells #[.string m, .slice X n c] t)) : q.block ≠ p := by
  intro e
  obtain ⟨b, o, f⟩ := q
  dsimp only at e
  subst e
  cases f with
  | none =>
    rw [cell_of_row _ _ _ _ _ _ hg] at h0
    match o with
    | 0 => simp at h0
    | 1 => simp at h0
    | o + 2 => simp at h0
  | some f => simp [World.cell?, hg] at h0
theorem KeepX.num {U u : World} {g : Nat} {q : Addr} {z : Int} {m : ByteArray} {X : Option Addr} {n c : Nat} {t : TypeId} (h : KeepX U g u) (hc : U.cell? q = some (.int .i64 z)) (hg : U.heap[g]? = some (.cells #[.string m, .slice X n c] t)) : u.cell? q = some (.int .i64 z) :=
  (World.cell?_of_block (h.2 _ (block_lt_of_cell hc) (num_apart hc hg))).trans hc
theorem KeepX.spl {U u : World} {g : Nat} {A : Option Addr} {sl : List Sp} {m : ByteArray} {X : Option Addr} {n c : Nat} {t : TypeId} (h : KeepX U g u) (hI : Spl U A sl) (hg : U.heap[g]? = some (.cells #[.string m, .slice X n c] t)) : Spl u A sl := by
  intro i hi
  obtain ⟨a, ha, h0, h1, h2, h3, h4⟩ := hI i hi
  exact ⟨a, ha, h.num h0 hg, h.num h1 hg, h.num h2 hg, h.num h3 hg, h.num h4 hg⟩
theorem KeepX.ints {U u : World} {g : Nat} {A : Option Addr} {zs : List Int} {m : ByteArray} {X : Option Addr} {n c : Nat} {t : TypeId} (h : KeepX U g u) (hI : Ints U A zs) (hg : U.heap[g]? = some (.cells #[.string m, .slice X n c] t)) : Ints u A zs := by
  intro i hi
  obtain ⟨a, ha, h0⟩ := hI i hi
  exact ⟨a, ha, h.num h0 hg⟩

/-- A schema, room for a message, room for a fault, and a message, in the first four blocks that the call makes. -/
def RQuad (w : World) (st v : Int) (A : Option Addr) (len cap : Nat) (m : ByteArray) (u : World) : Prop :=
  Below w.heap.size w u ∧ Box u w.heap.size st v A len cap ∧ MBox u (w.heap.size + 1) ⟨#[]⟩ none 0 0 ∧ u.heap[w.heap.size + 2]? = some (.cells #[.int .i64 0, .int .i64 0] 31) ∧ MBox u (w.heap.size + 3) m none 0 0
theorem RQuad.below {w : World} {st v : Int} {A : Option Addr} {len cap : Nat} {m : ByteArray} {u u' : World} (h : RQuad w st v A len cap m u) (hb : Below u.heap.size u u') : RQuad w st v A len cap m u' :=
  ⟨hbt h.1 hb, h.2.1.below hb, h.2.2.1.below hb, obj_below h.2.2.2.1 hb, h.2.2.2.2.below hb⟩
theorem RQuad.store {w : World} {st v : Int} {A : Option Addr} {len cap : Nat} {m : ByteArray} {u : World} (h : RQuad w st v A len cap m u) (t : ByteArray) : RQuad w st v A len cap t (u.setCell ⟨w.heap.size + 3, 0, none⟩ (.string t)) := by
  obtain ⟨h1, h2, h3, h4, h5⟩ := h
  exact ⟨h1.setCell (p := ⟨w.heap.size + 3, 0, none⟩) (by show w.heap.size ≤ w.heap.size + 3; omega) _, (heap_setCell_other _ _ _ _ (by show w.heap.size ≠ w.heap.size + 3; omega)).trans h2, (heap_setCell_other _ _ _ _ (by show w.heap.size + 1 ≠ w.heap.size + 3; omega)).trans h3, (heap_setCell_other _ _ _ _ (by show w.heap.size + 2 ≠ w.heap.size + 3; omega)).trans h4, heap_setCell_same _ _ 0 _ _ _ h5⟩
theorem rquad_new (w : World) (st v : Int) (A : Option Addr) (len cap : Nat) : RQuad w st v A len cap ⟨#[]⟩ ((((w.alloc (.cells #[.int .i64 st, .int .i64 v, .slice A len cap] 24)).alloc (.cells #[.string ⟨#[]⟩, .slice none 0 0] 28)).alloc (.cells #[.int .i64 0, .int .i64 0] 31)).alloc (.cells #[.string ⟨#[]⟩, .slice none 0 0] 28)) :=
  ⟨hbt (hbt (hbt (below_al _ _) (below_al _ _)) (below_al _ _)) (below_al _ _), (((box_new _ _ _ _ _ _).below (below_al _ _)).below (below_al _ _)).below (below_al _ _), obj_below (obj_below (heap_al _ _ _ (by simp)) (below_al _ _)) (below_al _ _), obj_below (heap_al _ _ _ (by simp)) (below_al _ _), heap_al _ _ _ (by simp)⟩
/-- The row of a message's fields is the call's own, so above the blocks that are stored into last. -/
theorem own_two {w : World} {base e p q n cap : Nat} {A : Option Addr} {l : List Item} (h : w.ownsRow base e 2 (.slice A n cap) n (itemsC l)) (hn : n = l.length) (hp : p < base) (hq : q < base) (a b c d : Value) :
    Tlvs ((((w.setCell ⟨p, 0, none⟩ a).setCell ⟨p, 1, none⟩ b).setCell ⟨q, 0, none⟩ c).setCell ⟨q, 1, none⟩ d) A l :=
  vals_own_at (owns_set1 (owns_set1 (owns_set1 (owns_set1 h hp _ _) hp _ _) hq _ _) hq _ _) hn

/-- A number that is none lies in no block of two zeros. -/
theorem num_apart0 {w : World} {q : Addr} {z : Int} {p : Nat} {t : TypeId} (h0 : w.cell? q = some (.int .i64 z)) (hg : w.heap[p]? = some (.cells #[.int .i64 0, .int .i64 0] t)) (hz : z ≠ 0) : q.block ≠ p := by
  intro e
  obtain ⟨b, o, f⟩ := q
  dsimp only at e
  subst e
  cases f with
  | none =>
    rw [cell_of_row _ _ _ _ _ _ hg] at h0
    match o with
    | 0 => simp at h0; exact hz h0.symm
    | 1 => simp at h0; exact hz h0.symm
    | o + 2 => simp at h0
  | some f => simp [World.cell?, hg] at h0
theorem int_pos {zs : List Int} (h : ∀ n ∈ zs, n ≠ 0) {j : Nat} (hj : j < zs.length) : zs.getD j 0 ≠ 0 := by
  have e : zs.getD j 0 = zs[j] := by simp [hj]
  rw [e]
  exact h _ (List.getElem_mem hj)
/-- What a region keeps that stores a message and a fault, the message from one block, the fault's number from a list. -/
def StoreS (w : World) (t : ByteArray) (Y : Option Addr) (M cp : Nat) (q : Addr) (no : Int) (u : World) : Prop :=
  Below w.heap.size w u ∧ MBox u (w.heap.size + 3) t Y M cp ∧ u.cell? q = some (.int .i64 no) ∧ (∃ a b, u.heap[w.heap.size + 1]? = some (.cells #[a, b] 28)) ∧ ∃ a b, u.heap[w.heap.size + 2]? = some (.cells #[a, b] 31)
theorem StoreS.first {w : World} {t : ByteArray} {Y : Option Addr} {M cp : Nat} {q : Addr} {no : Int} {u : World} (h : StoreS w t Y M cp q no u) (hq : q.block ≠ w.heap.size + 1) (c d : Value) : StoreS w t Y M cp q no (((u.setCell ⟨w.heap.size + 1, 0, none⟩ c).setCell ⟨w.heap.size + 1, 1, none⟩ d).drew) := by
  obtain ⟨h1, h2, h3, ⟨a, b, h4⟩, a', b', h5⟩ := h
  exact ⟨(below_set2 h1 (by omega) _ _).drew, obj_set_other h2 (by omega) _ _, (World.cell?_of_block ((heap_setCell_other _ _ _ _ hq).trans (heap_setCell_other _ _ _ _ hq))).trans h3, ⟨_, _, obj_set2 h4 _ _⟩, _, _, obj_set_other h5 (by omega) _ _⟩
theorem StoreS.second {w : World} {t : ByteArray} {Y : Option Addr} {M cp : Nat} {q : Addr} {no : Int} {u : World} (h : StoreS w t Y M cp q no u) (hq : q.block ≠ w.heap.size + 2) (c d : Value) : StoreS w t Y M cp q no (((u.setCell ⟨w.heap.size + 2, 0, none⟩ c).setCell ⟨w.heap.size + 2, 1, none⟩ d).drew) := by
  obtain ⟨h1, h2, h3, ⟨a, b, h4⟩, a', b', h5⟩ := h
  exact ⟨(below_set2 h1 (by omega) _ _).drew, obj_set_other h2 (by omega) _ _, (World.cell?_of_block ((heap_setCell_other _ _ _ _ hq).trans (heap_setCell_other _ _ _ _ hq))).trans h3, ⟨_, _, obj_set_other h4 (by omega) _ _⟩, _, _, obj_set2 h5 _ _⟩

end Go.Proofs.YtlkpiapmdflahaaDoor
