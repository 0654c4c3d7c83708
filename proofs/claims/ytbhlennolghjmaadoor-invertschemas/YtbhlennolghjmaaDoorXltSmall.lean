/-
  What the document's version, twice and rule answer: in every world.
-/
import Derived.Test.YtbhlennolghjmaaDoorXltOf
import Derived.Test.YtbhlennolghjmaaDoorPackMti
namespace Go.Proofs.YtbhlennolghjmaaDoor
open Go.RowKit

set_option maxRecDepth 100000 in
set_option maxHeartbeats 1600000 in
theorem xversion_T4 (a b c d : UInt8) (v : Int) (w : World) (h : mtiB (T4 a b c d).data.toList = true) : Calls Tryd.prog 74 #[.string (T4 a b c d), .int .i64 v] w fun e w' => e = .returned (.bool (decide ((a.toNat : Int) - 48 = v))) ∧ w = w' := by
  have HR := Lib.hid (mrefRight_any (T4 a b c d) w (by show 4 ≤ _; unfold maxLen; omega))
  rw [h] at HR
  have hix := ix_T4_0 a b c d
  have hlt : a.toNat < 256 := a.toNat_lt
  clear h
  generalize T4 a b c d = s at *
  generalize a.toNat = q at *
  have hw1 : IntKind.i64.wrap (q : Int) = (q : Int) := IntWalk.i64_in _ (by omega)
  obtain ⟨y, hy⟩ : ∃ y : Int, (q : Int) - 48 = y := ⟨_, rfl⟩
  have hw2 : IntKind.i64.wrap ((q : Int) - 48) = y := by rw [IntWalk.i64_in _ (by omega)]; exact hy
  rw [hy]
  clear hy
  by_cases hv : y = v
  · subst hv
    go_enter Tryd.func74, Tryd.ntmps74
    go_wp2_with fail
    refine HR.out.mono ?_
    rintro e w1 ⟨rfl, rfl⟩
    go_wp2
    go_ret
    exact ⟨by simp, rfl⟩
  · have tv : (y == v) = false := by simpa using hv
    have HV : Hid (decide (y = v) = false) := by show _ = _; simpa using hv
    rw [HV.out]
    clear hv
    go_enter Tryd.func74, Tryd.ntmps74
    go_wp2_with fail
    refine HR.out.mono ?_
    rintro e w1 ⟨rfl, rfl⟩
    go_wp2
    go_ret
    exact ⟨rfl, rfl⟩
set_option maxRecDepth 100000 in
set_option maxHeartbeats 1600000 in
theorem xversion_no (s : ByteArray) (v : Int) (w : World) (hs : s.size ≤ maxLen) (h : mtiB s.data.toList = false) : Calls Tryd.prog 74 #[.string s, .int .i64 v] w fun e w' => e = .returned (.bool false) ∧ w = w' := by
  have HR := Lib.hid (mrefRight_any s w hs)
  rw [h] at HR
  clear h hs
  go_enter Tryd.func74, Tryd.ntmps74
  go_wp2_with fail
  refine HR.out.mono ?_
  rintro e w1 ⟨rfl, rfl⟩
  go_wp2
  go_ret
  exact ⟨rfl, rfl⟩
theorem xversion_any (s : ByteArray) (v : Int) (w : World) (hs : s.size ≤ maxLen) : Calls Tryd.prog 74 #[.string s, .int .i64 v] w fun e w' => e = .returned (.bool (mtiV s v)) ∧ w = w' := by
  cases h : mtiB s.data.toList
  · rw [mtiV_none h]; exact xversion_no s v w hs h
  · obtain ⟨a, b, c, d, rfl, _⟩ := mti_of h
    rw [mtiV_T4 h]
    exact xversion_T4 a b c d v w h
theorem two_told {t t' : Int} (h : t ≠ 0) : (decide (t ≠ 0) && decide (t = t')) = (t == t') := by
  by_cases e : t = t'
  · subst e; simp [h]
  · simp [e]
set_option maxRecDepth 100000 in
set_option maxHeartbeats 1600000 in
theorem xtwice_any (k f t : Int) (s : ByteArray) (B : Option Addr) (n c : Nat) (k' f' t' : Int) (s' : ByteArray) (B' : Option Addr) (n' c' : Nat) (w : World) :
    Calls Tryd.prog 78 #[.agg #[.int .i64 k, .int .i64 f, .int .i64 t, .string s, .slice B n c], .agg #[.int .i64 k', .int .i64 f', .int .i64 t', .string s', .slice B' n' c']] w fun e w' =>
      e = .returned (.bool ((decide (f ≠ 0) && decide (f = f')) || (decide (t ≠ 0) && decide (t = t')))) ∧ Below w.heap.size w w' := by
  by_cases h1 : f ≠ 0 ∧ f = f'
  · obtain ⟨h1, rfl⟩ := h1
    have HE : Hid (((decide (f ≠ 0) && decide (f = f)) || (decide (t ≠ 0) && decide (t = t'))) = true) := by show _ = _; simp [h1]
    have t1 : (f != 0) = true := by simpa using h1
    rw [HE.out]
    clear h1
    go_enter Tryd.func78, Tryd.ntmps78
    go_wp2
    go_ret
    exact ⟨rfl, hbt (below_al _ _) (below_al _ _)⟩
  · have HF : Hid ((decide (f ≠ 0) && decide (f = f')) = false) := by show _ = _; simpa using h1
    rw [HF.out, Bool.false_or]
    by_cases h0 : f = 0
    · subst h0
      clear h1 HF
      by_cases h2 : t = 0
      · subst h2
        go_enter Tryd.func78, Tryd.ntmps78
        go_wp2
        go_ret
        exact ⟨by simp, hbt (below_al _ _) (below_al _ _)⟩
      · have t2 : (t != 0) = true := by simpa using h2
        have HT : Hid ((decide (t ≠ 0) && decide (t = t')) = (t == t')) := two_told h2
        rw [HT.out]
        clear h2 HT
        generalize hq : (t == t') = q
        go_enter Tryd.func78, Tryd.ntmps78
        go_wp2
        go_ret
        exact ⟨rfl, hbt (below_al _ _) (below_al _ _)⟩
    · have t0 : (f != 0) = true := by simpa using h0
      have t1 : (f == f') = false := by
        have : ¬ f = f' := fun e => h1 ⟨h0, e⟩
        simpa using this
      clear h1 h0 HF
      by_cases h2 : t = 0
      · subst h2
        go_enter Tryd.func78, Tryd.ntmps78
        go_wp2
        go_ret
        exact ⟨by simp, hbt (below_al _ _) (below_al _ _)⟩
      · have t2 : (t != 0) = true := by simpa using h2
        have HT : Hid ((decide (t ≠ 0) && decide (t = t')) = (t == t')) := two_told h2
        rw [HT.out]
        clear h2 HT
        generalize hq : (t == t') = q
        go_enter Tryd.func78, Tryd.ntmps78
        go_wp2
        go_ret
        exact ⟨rfl, hbt (below_al _ _) (below_al _ _)⟩
def ruJ (no : Int) (R : List Ru) : Int := match ruI no R with | some i => (i : Int) | none => -1
theorem ruJ_hit {no : Int} {R : List Ru} {k : Nat} (hk : k < R.length) (hno : ∀ j, j < k → (ruAt R j).2.1 ≠ no) (he : (ruAt R k).2.1 = no) : ruJ no R = (k : Int) := by unfold ruJ; rw [ruI_hit hk hno he]
theorem ruJ_none {no : Int} {R : List Ru} (h : ∀ j, j < R.length → (ruAt R j).2.1 ≠ no) : ruJ no R = -1 := by unfold ruJ; rw [ruI_none h]

end Go.Proofs.YtbhlennolghjmaaDoor
