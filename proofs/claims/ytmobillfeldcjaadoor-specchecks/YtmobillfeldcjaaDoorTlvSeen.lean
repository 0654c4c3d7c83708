/-
  Which tags stand ahead, kept in a map that the call has made: a look-up, a new key.
-/
import Derived.Test.YtmobillfeldcjaaDoorTlvOf
import Derived.Maps.Own
import Derived.Maps.OwnSet
import Derived.Maps.Views
namespace Go.Proofs.YtmobillfeldcjaaDoor
open Go.RowKit Go.Maps

theorem int_law : Keyed Tryd.prog 3 := int_keyed Tryd.underlying3
theorem zero_bool (w : World) : (zeroValue 4).run Tryd.prog w = .ok (.bool false) w := by kernel_rfl
theorem wf_i64 {z : Int} (h1 : -9223372036854775808 ≤ z) (h2 : z ≤ 9223372036854775807) : (Lit.int .i64 z).wf = true := by
  have e1 : IntKind.i64.min = -9223372036854775808 := rfl
  have e2 : IntKind.i64.max = 9223372036854775807 := rfl
  simp only [Lit.wf, Bool.and_eq_true, decide_eq_true_eq]
  omega
theorem plain_bool_inv {v : Value} {z : DataW Unit × List MemPlace} (h : plainElem Tryd.prog 4 v = some z) : ∃ x, v = .bool x ∧ z = (.lit (.bool x), []) := by
  unfold plainElem at h
  rw [Tryd.underlying4] at h
  cases v <;> simp at h
  rename_i x
  exact ⟨x, rfl, h.symm⟩

/-- The map in block m has just these keys, each with true. -/
def Seen (w : World) (m : Nat) (ts : List Int) : Prop :=
  ∃ D : DataW Unit, w.ownsMap Tryd.prog 3 (plainElem Tryd.prog 4) m ts.length D ∧ ∀ z, D.atKey (.int .i64 z) (.lit (.bool false)) = .lit (.bool (decide (z ∈ ts)))

theorem Seen.below {w w' : World} {m : Nat} {ts : List Int} (h : Seen w m ts) (hb : Below w.heap.size w w') : Seen w' m ts := by
  obtain ⟨D, ⟨es, clock, ho, hr⟩, h2⟩ := h
  exact ⟨D, ⟨es, clock, obj_below ho hb, hr⟩, h2⟩
theorem Seen.lt {w : World} {m : Nat} {ts : List Int} (h : Seen w m ts) : m < w.heap.size := by
  obtain ⟨D, ⟨es, clock, ho, hr⟩, h2⟩ := h
  exact obj_lt ho
theorem seen_new (w : World) : Seen (w.alloc (.map #[] 0)) w.heap.size [] :=
  ⟨.map [], World.ownsMap_made w _ _ _, fun z => by simp [DataW.atKey]⟩
theorem seen_look {w : World} {m : Nat} {ts : List Int} (h : Seen w m ts) {z : Int} (hz : (Lit.int .i64 z).wf = true) :
    (Instr.lookup 53 (.map (some m)) (.int .i64 z) false).run Tryd.prog w = .ok (.bool (decide (z ∈ ts))) w := by
  obtain ⟨D, hown, hat⟩ := h
  obtain ⟨v, ps, hrun, hv⟩ := hown.lookup int_law Tryd.underlying53 (zero_bool w) (plainElem_bool Tryd.underlying4 false) (keyOf_int_mk Tryd.underlying3 hz)
  obtain ⟨x, rfl, hx⟩ := plain_bool_inv hv
  rw [hat z] at hx
  injection hx with hx
  injection hx with hx
  injection hx with hx
  rw [hrun, ← hx]
theorem seen_put {w : World} {m : Nat} {ts : List Int} (h : Seen w m ts) {z : Int} (hz : (Lit.int .i64 z).wf = true) (hl : ts.length ≤ 5000000) :
    ∃ w', (Instr.mapUpdate 53 (.map (some m)) (.int .i64 z) (.bool true)).run Tryd.prog w = .ok () w' ∧ Seen w' m (ts ++ [z]) ∧ w.grownBy w' (some m) := by
  obtain ⟨D, hown, hat⟩ := h
  obtain ⟨w', hrun, hown', hg⟩ := hown.update int_law Tryd.underlying53 (by unfold maxLen; omega) (keyOf_int_mk Tryd.underlying3 hz) (plainElem_bool Tryd.underlying4 true)
  refine ⟨w', hrun, ⟨_, by rw [List.length_append]; exact hown', fun y => ?_⟩, hg⟩
  by_cases hy : y = z
  · subst hy
    rw [atKey_put_same hown.isMap (int_law.key (keyOf_int_mk Tryd.underlying3 hz))]
    simp
  · rw [atKey_put_other (fun e => hy (by injection e)), hat y]
    simp [hy]

theorem Seen.kept {w w' : World} {m : Nat} {ts : List Int} {row : Option Nat} (h : Seen w m ts) (hg : w.grownBy w' row) (hne : some m ≠ row) : Seen w' m ts := by
  obtain ⟨D, hown, hat⟩ := h
  exact ⟨D, hown.kept hg hne, hat⟩
/-- A row of the call's own is no map. -/
theorem own_seen {w : World} {base e size n m : Nat} {v : Value} {xs : List Value} {ts : List Int} (h : w.ownsRow base e size v n xs) (hS : Seen w m ts) : v.ownBlock ≠ some m := by
  obtain ⟨D, ⟨es, clock, ho, _⟩, _⟩ := hS
  intro he
  rcases h.2 with ⟨hv, _⟩ | ⟨g, cap, cur, hv, _, hg, _⟩
  · subst hv; simp [Value.ownBlock] at he
  · subst hv
    simp [Value.ownBlock] at he
    subst he
    rw [hg] at ho
    cases ho

end Go.Proofs.YtmobillfeldcjaaDoor
