/-
  What a message becomes, over lists alone, one step of a loop at a time.
-/
import Derived.Test.YtbhlennolghjmaaDoorXltPure
namespace Go.Proofs.YtbhlennolghjmaaDoor

theorem made_take {b : List Sp} {R : List Ru} {l : List Item} {i : Nat} (h : i < l.length) : xmade b R (l.take (i + 1)) = xmade b R (l.take i) ++ [xval b R (itemAt l i)] := by
  rw [take_succ_item h, xmade, xmade, List.map_append]; rfl
theorem made_len (b : List Sp) (R : List Ru) (l : List Item) : (xmade b R l).length = l.length := by simp [xmade]
theorem err_bad {b : List Sp} {R : List Ru} {l : List Item} {i : Nat} (h : i < l.length) (he : (xone b R (itemAt l i)).2.2 ≠ 0) : xerr b R (l.drop i) = ((xone b R (itemAt l i)).2.2, (itemAt l i).1) := by
  rw [drop_item h]; exact xerr_bad he
theorem err_ok {b : List Sp} {R : List Ru} {l : List Item} {i : Nat} (h : i < l.length) (he : (xone b R (itemAt l i)).2.2 = 0) : xerr b R (l.drop i) = xerr b R (l.drop (i + 1)) := by
  rw [drop_item h]; exact xerr_ok he
theorem err_end {b : List Sp} {R : List Ru} {l : List Item} {i : Nat} (h : l.length ≤ i) : xerr b R (l.drop i) = (0, 0) := by rw [items_end h]; rfl
theorem con_take {R : List Ru} {i : Nat} (h : i < R.length) : xcon (R.take (i + 1)) = xcon (R.take i) ++ (if (ruAt R i).1 = 3 then [((ruAt R i).2.2.1, (ruAt R i).2.2.2.1)] else []) := by
  rw [take_ru h]
  unfold xcon
  rw [List.filter_append, List.map_append]
  by_cases e : (ruAt R i).1 = 3
  · simp [e]
  · simp [e]
theorem con_all {R : List Ru} {i : Nat} (h : R.length ≤ i) : xcon (R.take i) = xcon R := by rw [List.take_of_length_le h]
theorem con_len (R : List Ru) : (xcon R).length ≤ R.length := by unfold xcon; rw [List.length_map]; exact List.length_filter_le _ _
theorem con_take_len (R : List Ru) (i : Nat) : (xcon (R.take i)).length ≤ i := Nat.le_trans (con_len _) (by rw [List.length_take]; omega)
/-- The values of the numbers ahead. -/
def sortTo (d : Nat) (V : List Item) : List Item := (List.range' 2 d).flatMap fun no : Nat => numL1 (no : Int) V
theorem sort_zero (V : List Item) : sortTo 0 V = [] := rfl
theorem sort_full (V : List Item) : sortTo 127 V = xsort V := rfl
theorem sort_next (d : Nat) (V : List Item) : sortTo (d + 1) V = sortTo d V ++ numL1 ((d + 2 : Nat) : Int) V := by
  unfold sortTo
  rw [List.range'_concat, List.flatMap_append]
  simp [Nat.add_comm]
theorem num_take {V : List Item} {i : Nat} {no : Int} (h : i < V.length) : numL1 no (V.take (i + 1)) = numL1 no (V.take i) ++ (if (itemAt V i).1 = no then [itemAt V i] else []) := by
  rw [take_succ_item h]
  unfold numL1
  rw [List.filter_append]
  by_cases e : (itemAt V i).1 = no
  · simp [e]
  · simp [e]
theorem num_len (no : Int) (V : List Item) : (numL1 no V).length ≤ V.length := List.length_filter_le _ _
theorem num_take_len (no : Int) (V : List Item) (i : Nat) : (numL1 no (V.take i)).length ≤ V.length := Nat.le_trans (num_len _ _) (by rw [List.length_take]; omega)
theorem sort_len (V : List Item) : ∀ d, (sortTo d V).length ≤ d * V.length
  | 0 => by simp [sort_zero]
  | d + 1 => by
    have h1 := sort_len V d
    have h2 := num_len ((d + 2 : Nat) : Int) V
    rw [sort_next, List.length_append, Nat.succ_mul]
    omega
/-- What the rule of a field makes, told by its place. -/
theorem one_none {b : List Sp} {R : List Ru} {x : Item} (h : ruI x.1 R = none) : xone b R x = (0, ⟨#[]⟩, 9) := by unfold xone; rw [h]
theorem one_some {b : List Sp} {R : List Ru} {x : Item} {i : Nat} (h : ruI x.1 R = some i) : xone b R x = ruT b (ruAt R i) x.2 := by unfold xone; rw [h]
/-- Two lists by rising numbers with the same values are one. -/
theorem rise_same : ∀ {l k : List Item}, l.Pairwise (fun x y => x.1 < y.1) → k.Pairwise (fun x y => x.1 < y.1) → (∀ x, x ∈ l ↔ x ∈ k) → l = k
  | [], [], _, _, _ => rfl
  | [], y :: k, _, _, h => by have := (h y).2 (by simp); simp at this
  | x :: l, [], _, _, h => by have := (h x).1 (by simp); simp at this
  | x :: l, y :: k, h1, h2, h => by
    obtain ⟨p1, p2⟩ := List.pairwise_cons.1 h1
    obtain ⟨q1, q2⟩ := List.pairwise_cons.1 h2
    have hxy : x = y := by
      rcases List.mem_cons.1 ((h x).1 (by simp)) with e | e
      · exact e
      · rcases List.mem_cons.1 ((h y).2 (by simp)) with g | g
        · exact g.symm
        · have := q1 x e; have := p1 y g; omega
    subst hxy
    rw [rise_same p2 q2 fun z => ?_]
    constructor
    · intro hz
      rcases List.mem_cons.1 ((h z).1 (by simp [hz])) with e | e
      · subst e; have := p1 z hz; omega
      · exact e
    · intro hz
      rcases List.mem_cons.1 ((h z).2 (by simp [hz])) with e | e
      · subst e; have := q1 z hz; omega
      · exact e
theorem mem_sort {V : List Item} {x : Item} : x ∈ xsort V ↔ x ∈ V ∧ 2 ≤ x.1 ∧ x.1 ≤ 128 := by
  unfold xsort numL1
  simp only [List.mem_flatMap, List.mem_filter, decide_eq_true_eq, List.mem_range'_1]
  constructor
  · rintro ⟨n, hn, hx, he⟩
    exact ⟨hx, by omega, by omega⟩
  · rintro ⟨hx, h1, h2⟩
    exact ⟨x.1.toNat, by omega, hx, by omega⟩

section
variable {st v : Int} {a : List Sp} {st' v' : Int} {b : List Sp} {M : List PairT} {R : List Ru} {m : ByteArray} {l : List Item}

/-- Translate's answers, one way out after the other. -/
theorem xt_arg (h : (xltN st v a st' v' b M R).1 ≠ 0) : xltT st v a st' v' b M R m l = (⟨#[]⟩, [], (1, -1)) := by unfold xltT; rw [if_pos h]
theorem xt_msg (h : (xltN st v a st' v' b M R).1 = 0) (h2 : (msgN st v a m l).1 ≠ 0) : xltT st v a st' v' b M R m l = (⟨#[]⟩, [], msgN st v a m l) := by unfold xltT; rw [if_neg (by simp [h]), if_pos h2]
theorem xt_mti (h : (xltN st v a st' v' b M R).1 = 0) (h2 : (msgN st v a m l).1 = 0) (h3 : appB M m = false) : xltT st v a st' v' b M R m l = (⟨#[]⟩, [], (7, 0)) := by unfold xltT; rw [if_neg (by simp [h]), if_neg (by simp [h2]), if_pos h3]
theorem xt_field (h : (xltN st v a st' v' b M R).1 = 0) (h2 : (msgN st v a m l).1 = 0) (h3 : appB M m = true) (h4 : (xerr b R l).1 ≠ 0) : xltT st v a st' v' b M R m l = (⟨#[]⟩, [], xerr b R l) := by
  unfold xltT; rw [if_neg (by simp [h]), if_neg (by simp [h2]), if_neg (by simp [h3]), if_pos h4]
theorem xt_ok (h : (xltN st v a st' v' b M R).1 = 0) (h2 : (msgN st v a m l).1 = 0) (h3 : appB M m = true) (h4 : (xerr b R l).1 = 0) : xltT st v a st' v' b M R m l = (appS M m, xsort (xmade b R l ++ xcon R), (0, 0)) := by
  unfold xltT; rw [if_neg (by simp [h]), if_neg (by simp [h2]), if_neg (by simp [h3]), if_neg (by simp [h4])]
/-- No Fault, or the zero message. -/
theorem xt_cases : (∃ k : Int × Int, k.1 ≠ 0 ∧ xltT st v a st' v' b M R m l = (⟨#[]⟩, [], k)) ∨ ((xltN st v a st' v' b M R).1 = 0 ∧ (msgN st v a m l).1 = 0 ∧ appB M m = true ∧ (xerr b R l).1 = 0) := by
  by_cases h : (xltN st v a st' v' b M R).1 = 0
  · by_cases h2 : (msgN st v a m l).1 = 0
    · cases h3 : appB M m
      · exact Or.inl ⟨_, by decide, xt_mti h h2 h3⟩
      · by_cases h4 : (xerr b R l).1 = 0
        · exact Or.inr ⟨h, h2, rfl, h4⟩
        · exact Or.inl ⟨_, h4, xt_field h h2 h3 h4⟩
    · exact Or.inl ⟨_, h2, xt_msg h h2⟩
  · exact Or.inl ⟨_, by decide, xt_arg h⟩
end

end Go.Proofs.YtbhlennolghjmaaDoor
