/-
  Which texts stand ahead, kept in a map that the call has made: a look-up, a new key.
-/
import Derived.Test.YtelbndhdgnmfjaaCodOf
import Derived.Maps.Own
import Derived.Maps.OwnSet
import Derived.Maps.Views
namespace Go.Proofs.Ytelbndhdgnmfjaa
open Go.RowKit Go.Maps
open Go.WideMaps (keyOf_string_mk)

theorem text_law : Keyed Try.prog 9 := string_keyed Try.underlying9
theorem czero_bool (w : World) : (zeroValue 4).run Try.prog w = .ok (.bool false) w := by kernel_rfl
set_option maxRecDepth 100000 in
theorem cplain_bool_inv {v : Value} {z : DataW Unit × List MemPlace} (h : plainElem Try.prog 4 v = some z) : ∃ x, v = .bool x ∧ z = (.lit (.bool x), []) := by
  unfold plainElem at h
  rw [Try.underlying4] at h
  cases v <;> simp at h
  rename_i x
  exact ⟨x, rfl, h.symm⟩
theorem data_inj {x y : ByteArray} (h : x.data.toList = y.data.toList) : x = y := by
  rw [ByteArray.ext_iff]
  exact Array.toList_inj.1 h

/-- The map in block m has just these texts as keys, each with true. -/
def Ahead (w : World) (m : Nat) (ts : List ByteArray) : Prop :=
  ∃ D : DataW Unit, w.ownsMap Try.prog 9 (plainElem Try.prog 4) m ts.length D ∧ ∀ s : ByteArray, D.atKey (.string s.data.toList) (.lit (.bool false)) = .lit (.bool (memB s ts))

theorem Ahead.below {w w' : World} {m : Nat} {ts : List ByteArray} (h : Ahead w m ts) (hb : Below w.heap.size w w') : Ahead w' m ts := by
  obtain ⟨D, ⟨es, clock, ho, hr⟩, h2⟩ := h
  exact ⟨D, ⟨es, clock, obj_below ho hb, hr⟩, h2⟩
theorem ahead_new (w : World) : Ahead (w.alloc (.map #[] 0)) w.heap.size [] :=
  ⟨.map [], World.ownsMap_made w _ _ _, fun z => by simp [DataW.atKey, memB]⟩
set_option maxRecDepth 100000 in
theorem ahead_look {w : World} {m : Nat} {ts : List ByteArray} (h : Ahead w m ts) {s : ByteArray} (hs : s.size ≤ maxLen) :
    (Instr.lookup 41 (.map (some m)) (.string s) false).run Try.prog w = .ok (.bool (memB s ts)) w := by
  obtain ⟨D, hown, hat⟩ := h
  obtain ⟨v, ps, hrun, hv⟩ := hown.lookup text_law Try.underlying41 (czero_bool w) (plainElem_bool Try.underlying4 false) (keyOf_string_mk Try.underlying9 hs)
  obtain ⟨x, rfl, hx⟩ := cplain_bool_inv hv
  rw [hat s] at hx
  injection hx with hx
  injection hx with hx
  injection hx with hx
  rw [hrun, ← hx]
theorem ahead_put {w : World} {m : Nat} {ts : List ByteArray} (h : Ahead w m ts) {s : ByteArray} (hs : s.size ≤ maxLen) (hl : ts.length ≤ 5000000) :
    ∃ w', (Instr.mapUpdate 41 (.map (some m)) (.string s) (.bool true)).run Try.prog w = .ok () w' ∧ Ahead w' m (ts ++ [s]) ∧ w.grownBy w' (some m) := by
  obtain ⟨D, hown, hat⟩ := h
  obtain ⟨w', hrun, hown', hg⟩ := hown.update text_law Try.underlying41 (by unfold maxLen; omega) (keyOf_string_mk Try.underlying9 hs) (plainElem_bool Try.underlying4 true)
  refine ⟨w', hrun, ⟨_, by rw [List.length_append]; exact hown', fun y => ?_⟩, hg⟩
  by_cases hy : y = s
  · subst hy
    rw [atKey_put_same hown.isMap (text_law.key (keyOf_string_mk Try.underlying9 hs)), memB_yes (by simp)]
  · rw [atKey_put_other (fun e => hy (by injection e with e; exact data_inj e)), hat y]
    have e : memB y (ts ++ [s]) = memB y ts := by simp [memB, Ne.symm hy]
    rw [e]

end Go.Proofs.Ytelbndhdgnmfjaa
