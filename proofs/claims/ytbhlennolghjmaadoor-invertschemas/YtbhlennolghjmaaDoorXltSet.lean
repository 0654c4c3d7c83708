/-
  Which fields stand ahead, told by sets. (Plain functions.)
-/
import Derived.Test.YtbhlennolghjmaaDoorXltList
import Derived.Test.YtbhlennolghjmaaDoorFldMath
namespace Go.Proofs.YtbhlennolghjmaaDoor

def takesL (R : List Ru) : List Int := R.map fun r => r.2.1
def makesL (R : List Ru) : List Int := R.map fun r => r.2.2.1
theorem takes_step {R : List Ru} {i : Nat} (h : i < R.length) : takesL (R.take (i + 1)) = takesL (R.take i) ++ [(ruAt R i).2.1] := by rw [take_ru h]; simp [takesL]
theorem makes_step {R : List Ru} {i : Nat} (h : i < R.length) : makesL (R.take (i + 1)) = makesL (R.take i) ++ [(ruAt R i).2.2.1] := by rw [take_ru h]; simp [makesL]
/-- A set with one more is as it was just if that one stands in it (or is none that may stand in one). -/
theorem with_same (l : List Int) (n : Int) : (ofH l ||| aH n = ofH l ∧ ofL l ||| aL n = ofL l) ↔ (1 ≤ n ∧ n ≤ 128 → n ∈ l) := by
  constructor
  · rintro ⟨h1, h2⟩ hn
    have h := has_with (ofH l) (ofL l) n n
    rw [h1, h2, has_of] at h
    have : decide (n ∈ l ∧ 1 ≤ n ∧ n ≤ 128) = true := by rw [h]; simp [hn]
    exact (of_decide_eq_true this).1
  · intro h
    obtain ⟨s1, s2⟩ := of_snoc l n
    rw [← s1, ← s2]
    by_cases hn : 1 ≤ n ∧ n ≤ 128
    · obtain ⟨r1, r2⟩ := of_rev (l ++ [n]) l (fun m => by
        simp only [List.mem_append, List.mem_singleton]
        constructor
        · rintro (g | rfl)
          · exact g
          · exact h hn
        · exact Or.inl)
      exact ⟨r1, r2⟩
    · have e1 : aH n = 0 := by unfold aH; rw [if_neg (by omega)]
      have e2 : aL n = 0 := by unfold aL; rw [if_neg (by omega)]
      rw [s1, s2, e1, e2]
      simp
theorem with_told {l : List Int} {n : Int} (h1 : 1 ≤ n) (h2 : n ≤ 128) : (decide (ofH l ||| aH n = ofH l) && decide (ofL l ||| aL n = ofL l)) = decide (n ∈ l) := by
  rw [Bool.eq_iff_iff]
  simp only [Bool.and_eq_true, decide_eq_true_eq]
  rw [with_same]
  exact ⟨fun h => h ⟨h1, h2⟩, fun h _ => h⟩
/-- Does a rule ahead take, or make, what this one does? -/
theorem any_told (R : List Ru) (r : Ru) : (R.any fun x => twiceB x r) = ((decide (r.2.1 ≠ 0) && decide (r.2.1 ∈ takesL R)) || (decide (r.2.2.1 ≠ 0) && decide (r.2.2.1 ∈ makesL R))) := by
  rw [Bool.eq_iff_iff]
  simp only [List.any_eq_true, Bool.or_eq_true, Bool.and_eq_true, decide_eq_true_eq, takesL, makesL, List.mem_map]
  unfold twiceB
  simp only [Bool.or_eq_true, Bool.and_eq_true, decide_eq_true_eq]
  constructor
  · rintro ⟨x, hx, ⟨h1, h2⟩ | ⟨h1, h2⟩⟩
    · exact Or.inl ⟨by rw [← h2]; exact h1, x, hx, h2⟩
    · exact Or.inr ⟨by rw [← h2]; exact h1, x, hx, h2⟩
  · rintro (⟨h1, x, hx, h2⟩ | ⟨h1, x, hx, h2⟩)
    · exact ⟨x, hx, Or.inl ⟨by rw [h2]; exact h1, h2⟩⟩
    · exact ⟨x, hx, Or.inr ⟨by rw [h2]; exact h1, h2⟩⟩
/-- The fields of a rule that may be: 0, or from 2 to 128. -/
theorem ru_range {st v : Int} {a : List Sp} {st' v' : Int} {b : List Sp} {r : Ru} (ha : (schN st v a).1 = 0) (hb : (schN st' v' b).1 = 0) (h : ruN a b r = 0) : (r.2.1 = 0 ∨ (2 ≤ r.2.1 ∧ r.2.1 ≤ 128)) ∧ (r.2.2.1 = 0 ∨ (2 ≤ r.2.2.1 ∧ r.2.2.1 ≤ 128)) := by
  obtain ⟨k, f, t, s, P⟩ := r
  obtain ⟨_, h1, h2, _, _⟩ := rulN_zero (show rulN k f t s P a b = 0 from h)
  constructor
  · show f = 0 ∨ (2 ≤ f ∧ f ≤ 128)
    unfold rlA at h1
    by_cases e : k = 3
    · rw [if_pos e] at h1; exact Or.inl (by simpa using h1)
    · rw [if_neg e] at h1
      obtain ⟨g1, g2⟩ := fnd_no f a h1
      have := (right_rise ha).most _ g2
      exact Or.inr (by omega)
  · show t = 0 ∨ (2 ≤ t ∧ t ≤ 128)
    unfold rlB at h2
    by_cases e : k = 2
    · rw [if_pos e] at h2; exact Or.inl (by simpa using h2)
    · rw [if_neg e] at h2
      obtain ⟨g1, g2⟩ := fnd_no t b h2
      have := (right_rise hb).most _ g2
      exact Or.inr (by omega)
/-- By With, one by one: sorted by rising numbers. -/
def xwith (V : List Item) : List Item := V.foldl (fun out x => if x.1 = 0 then out else withL x.1 x.2 out) []
theorem xwith_step {V : List Item} {i : Nat} (h : i < V.length) : xwith (V.take (i + 1)) = if (itemAt V i).1 = 0 then xwith (V.take i) else withL (itemAt V i).1 (itemAt V i).2 (xwith (V.take i)) := by
  rw [take_succ_item h]; unfold xwith; rw [List.foldl_append]; rfl
theorem ins_up {x : Item} : ∀ {l : List Item}, l.Pairwise (fun x y => x.1 < y.1) → (∀ y ∈ l, y.1 ≠ x.1) → (refW x false l).Pairwise (fun x y => x.1 < y.1) ∧ ∀ z, z ∈ refW x false l ↔ z = x ∨ z ∈ l
  | [], _, _ => ⟨by rw [refW_nil]; simp, by intro z; rw [refW_nil]; simp⟩
  | y :: r, h, hn => by
    obtain ⟨h1, h2⟩ := List.pairwise_cons.1 h
    by_cases hlt : x.1 < y.1
    · rw [refW_hit hlt]
      refine ⟨List.pairwise_cons.2 ⟨fun z hz => ?_, h⟩, fun z => by simp⟩
      rcases List.mem_cons.1 hz with rfl | hz
      · exact hlt
      · have := h1 z hz; omega
    · rw [refW_miss hlt]
      obtain ⟨i1, i2⟩ := ins_up h2 fun z hz => hn z (by simp [hz])
      refine ⟨List.pairwise_cons.2 ⟨fun z hz => ?_, i1⟩, fun z => ?_⟩
      · rcases (i2 z).1 hz with rfl | hz
        · have := hn y (by simp); omega
        · exact h1 z hz
      · rw [List.mem_cons, i2]
        constructor
        · rintro (g | g | g)
          · exact Or.inr (by simp [g])
          · exact Or.inl g
          · exact Or.inr (by simp [g])
        · rintro (g | g)
          · exact Or.inr (Or.inl g)
          · rcases List.mem_cons.1 g with g | g
            · exact Or.inl g
            · exact Or.inr (Or.inr g)
/-- Of values of numbers that are apart: those whose number isn't 0, by rising numbers. -/
theorem xwith_told : ∀ (V : List Item), Apart V → (xwith V).Pairwise (fun x y => x.1 < y.1) ∧ ∀ z, z ∈ xwith V ↔ z ∈ V ∧ z.1 ≠ 0 := by
  intro V hV
  have key : ∀ k, k ≤ V.length → (xwith (V.take k)).Pairwise (fun x y => x.1 < y.1) ∧ ∀ z, z ∈ xwith (V.take k) ↔ z ∈ V.take k ∧ z.1 ≠ 0 := by
    intro k
    induction k with
    | zero => intro _; exact ⟨by simp [xwith], by simp [xwith]⟩
    | succ k ih =>
      intro hk
      obtain ⟨i1, i2⟩ := ih (by omega)
      have hkl : k < V.length := by omega
      rw [xwith_step hkl, take_succ_item hkl]
      by_cases h0 : (itemAt V k).1 = 0
      · rw [if_pos h0]
        refine ⟨i1, fun z => ?_⟩
        rw [i2, List.mem_append, List.mem_singleton]
        constructor
        · rintro ⟨g1, g2⟩; exact ⟨Or.inl g1, g2⟩
        · rintro ⟨g1 | g1, g2⟩
          · exact ⟨g1, g2⟩
          · subst g1; exact absurd h0 g2
      · rw [if_neg h0]
        have hap : ∀ y ∈ xwith (V.take k), y.1 ≠ (itemAt V k).1 := by
          intro y hy
          obtain ⟨hy1, hy2⟩ := (i2 y).1 hy
          obtain ⟨j, hj, rfl⟩ := List.getElem_of_mem hy1
          rw [List.length_take] at hj
          have := List.pairwise_iff_getElem.1 hV j k (by omega) hkl (by omega)
          rw [List.getElem_take] at hy2 ⊢
          rw [itemAt_get hkl]
          exact this hy2
        have ho : outL (itemAt V k).1 (xwith (V.take k)) = xwith (V.take k) := by
          unfold outL
          rw [List.filter_eq_self]
          intro y hy
          simpa using hap y hy
        unfold withL
        rw [ho, ← refW_ins]
        obtain ⟨j1, j2⟩ := ins_up (x := ((itemAt V k).1, (itemAt V k).2)) i1 hap
        refine ⟨j1, fun z => ?_⟩
        rw [j2, i2, List.mem_append, List.mem_singleton]
        constructor
        · rintro (g | ⟨g1, g2⟩)
          · subst g; exact ⟨Or.inr rfl, h0⟩
          · exact ⟨Or.inl g1, g2⟩
        · rintro ⟨g1 | g1, g2⟩
          · exact Or.inr ⟨g1, g2⟩
          · exact Or.inl g1
  have := key V.length (Nat.le_refl _)
  rwa [List.take_length] at this
/-- So by With, one by one, comes what the document sorts. -/
theorem xwith_sort {st v : Int} {b : List Sp} (hb : (schN st v b).1 = 0) {V : List Item} (hg : ∀ y ∈ V, y.1 = 0 ∨ okV b y) (hV : Apart V) : xwith V = xsort V := by
  obtain ⟨h1, h2⟩ := xwith_told V hV
  have hf := sort_fits hg hV 127 2 (by omega)
  refine rise_same h1 (fits_up hf).2 fun z => ?_
  rw [h2]
  show _ ↔ z ∈ xsort V
  rw [mem_sort]
  constructor
  · rintro ⟨g1, g2⟩
    rcases hg z g1 with g | g
    · exact absurd g g2
    · have := okV_range hb g
      exact ⟨g1, this.1, this.2⟩
  · rintro ⟨g1, g2, _⟩
    exact ⟨g1, by omega⟩

end Go.Proofs.YtbhlennolghjmaaDoor
