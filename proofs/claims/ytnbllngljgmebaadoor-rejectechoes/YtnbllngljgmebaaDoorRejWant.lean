/-
  Which numbers are wanted, kept in a map that the call has made: a look-up, a number wanted, a number no more wanted.
-/
import Derived.Test.YtnbllngljgmebaaDoorPackTlv
namespace Go.Proofs.YtnbllngljgmebaaDoor
open Go.RowKit Go.Maps

/-- The map in block m, of up to n entries, tells p of each number. -/
def Wanted (w : World) (m n : Nat) (p : Int → Bool) : Prop :=
  ∃ D : DataW Unit, w.ownsMap Tryd.prog 3 (plainElem Tryd.prog 4) m n D ∧ ∀ z, D.atKey (.int .i64 z) (.lit (.bool false)) = .lit (.bool (p z))
theorem Wanted.below {w w' : World} {m n : Nat} {p : Int → Bool} (h : Wanted w m n p) (hb : Below w.heap.size w w') : Wanted w' m n p := by
  obtain ⟨D, ⟨es, clock, ho, hr⟩, h2⟩ := h
  exact ⟨D, ⟨es, clock, obj_below ho hb, hr⟩, h2⟩
theorem Wanted.lt {w : World} {m n : Nat} {p : Int → Bool} (h : Wanted w m n p) : m < w.heap.size := by
  obtain ⟨D, ⟨es, clock, ho, hr⟩, h2⟩ := h
  exact obj_lt ho
theorem wanted_new (w : World) : Wanted (w.alloc (.map #[] 0)) w.heap.size 0 (fun _ => false) :=
  ⟨.map [], World.ownsMap_made w _ _ _, fun z => by simp [DataW.atKey]⟩
set_option maxRecDepth 100000 in
theorem wanted_look {w : World} {m n : Nat} {p : Int → Bool} (h : Wanted w m n p) {z : Int} (hz : (Lit.int .i64 z).wf = true) :
    (Instr.lookup 98 (.map (some m)) (.int .i64 z) false).run Tryd.prog w = .ok (.bool (p z)) w := by
  obtain ⟨D, hown, hat⟩ := h
  obtain ⟨v, ps, hrun, hv⟩ := hown.lookup int_law Tryd.underlying98 (zero_bool w) (plainElem_bool Tryd.underlying4 false) (keyOf_int_mk Tryd.underlying3 hz)
  obtain ⟨x, rfl, hx⟩ := plain_bool_inv hv
  rw [hat z] at hx
  injection hx with hx
  injection hx with hx
  injection hx with hx
  rw [hrun, ← hx]
theorem wanted_put {w : World} {m n : Nat} {p : Int → Bool} (h : Wanted w m n p) {z : Int} (hz : (Lit.int .i64 z).wf = true) (b : Bool) (hl : n ≤ 100000000000000) :
    ∃ w', (Instr.mapUpdate 98 (.map (some m)) (.int .i64 z) (.bool b)).run Tryd.prog w = .ok () w' ∧ Wanted w' m (n + 1) (fun y => if y = z then b else p y) ∧ w.grownBy w' (some m) := by
  obtain ⟨D, hown, hat⟩ := h
  obtain ⟨w', hrun, hown', hg⟩ := hown.update int_law Tryd.underlying98 (by unfold maxLen; omega) (keyOf_int_mk Tryd.underlying3 hz) (plainElem_bool Tryd.underlying4 b)
  refine ⟨w', hrun, ⟨_, hown', fun y => ?_⟩, hg⟩
  show _ = DataW.lit (Lit.bool (if y = z then b else p y))
  by_cases hy : y = z
  · subst hy
    rw [atKey_put_same hown.isMap (int_law.key (keyOf_int_mk Tryd.underlying3 hz)), if_pos rfl]
  · rw [atKey_put_other (fun e => hy (by injection e)), hat y, if_neg hy]
theorem Wanted.kept {w w' : World} {m n : Nat} {p : Int → Bool} {row : Option Nat} (h : Wanted w m n p) (hg : w.grownBy w' row) (hne : some m ≠ row) : Wanted w' m n p := by
  obtain ⟨D, hown, hat⟩ := h
  exact ⟨D, hown.kept hg hne, hat⟩
theorem Wanted.same {w : World} {m n : Nat} {p q : Int → Bool} (h : Wanted w m n p) (he : ∀ z, p z = q z) : Wanted w m n q := by
  obtain ⟨D, hown, hat⟩ := h
  exact ⟨D, hown, fun z => by rw [hat z, he z]⟩
/-- A row of the call's own is no map. -/
theorem own_wanted {w : World} {base e size n m k : Nat} {v : Value} {xs : List Value} {p : Int → Bool} (h : w.ownsRow base e size v n xs) (hS : Wanted w m k p) : v.ownBlock ≠ some m := by
  obtain ⟨D, ⟨es, clock, ho, _⟩, _⟩ := hS
  intro he
  rcases h.2 with ⟨hv, _⟩ | ⟨g, cap, cur, hv, _, hg, _⟩
  · subst hv; simp [Value.ownBlock] at he
  · subst hv
    simp [Value.ownBlock] at he
    subst he
    rw [hg] at ho
    cases ho
/-- What the first loop has: the numbers so far. -/
theorem want_step {E : List Int} {k : Nat} (hk : k < E.length) (y : Int) : (if y = E.getD k 0 then true else decide (y ∈ E.take k)) = decide (y ∈ E.take (k + 1)) := by
  rw [List.take_succ_eq_append_getElem hk, show E.getD k 0 = E[k] by simp [hk]]
  have hm : y ∈ E.take k ++ [E[k]] ↔ y ∈ E.take k ∨ y = E[k] := by rw [List.mem_append, List.mem_singleton]
  by_cases h : y = E[k]
  · rw [if_pos h, decide_eq_true (hm.2 (Or.inr h))]
  · rw [if_neg h]
    exact decide_eq_decide.2 ⟨fun h1 => hm.2 (Or.inl h1), fun h1 => (hm.1 h1).elim id fun h2 => absurd h2 h⟩

end Go.Proofs.YtnbllngljgmebaaDoor
