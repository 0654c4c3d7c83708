/-
  What follows of maps: what is made is valid; what becomes of a field doesn't hang on the others. (Plain functions.)
-/
import Derived.Test.YtbhlennolghjmaaDoorXltMath
import Derived.Test.YtbhlennolghjmaaDoorPackMsg
namespace Go.Proofs.YtbhlennolghjmaaDoor

/-- Rules that may be, none of which takes or makes what another one does. -/
def XR (a b : List Sp) (R : List Ru) : Prop := (∀ i, i < R.length → ruN a b (ruAt R i) = 0) ∧ ∀ j i, j < i → i < R.length → twiceB (ruAt R j) (ruAt R i) = false
theorem xr_of {st v : Int} {a : List Sp} {st' v' : Int} {b : List Sp} {M : List PairT} {R : List Ru} (h : (xltN st v a st' v' b M R).1 = 0) : XR a b R := by
  obtain ⟨_, _, _, _, _, h6⟩ := xlt_zero h
  exact ⟨fun i hi => (ruE_zero (h6 i hi)).1, fun j i hj hi => (ruE_zero (h6 i hi)).2 j hj (by omega)⟩
theorem twice_no {x y : Ru} (h : twiceB x y = false) : (x.2.1 ≠ 0 → x.2.1 ≠ y.2.1) ∧ (x.2.2.1 ≠ 0 → x.2.2.1 ≠ y.2.2.1) := by
  unfold twiceB at h
  simp only [Bool.or_eq_false_iff, Bool.and_eq_false_imp, decide_eq_true_eq, decide_eq_false_iff_not] at h
  exact h
theorem XR.apart {a b : List Sp} {R : List Ru} (h : XR a b R) {i j : Nat} (hi : i < R.length) (hj : j < R.length) (hne : i ≠ j) :
    ((ruAt R i).2.1 ≠ 0 → (ruAt R i).2.1 ≠ (ruAt R j).2.1) ∧ ((ruAt R i).2.2.1 ≠ 0 → (ruAt R i).2.2.1 ≠ (ruAt R j).2.2.1) := by
  rcases Nat.lt_or_ge i j with hlt | hge
  · exact twice_no (h.2 i j hlt hj)
  · have := twice_no (h.2 j i (by omega) hi)
    refine ⟨fun h0 e => this.1 (by rw [← e]; exact h0) e.symm, fun h0 e => this.2 (by rw [← e]; exact h0) e.symm⟩
theorem ru_mem {R : List Ru} {r : Ru} (h : r ∈ R) : ∃ i, i < R.length ∧ ruAt R i = r := by
  obtain ⟨i, hi, rfl⟩ := List.getElem_of_mem h
  exact ⟨i, hi, ruAt_get hi⟩

theorem okV_of {b : List Sp} {t : Int} {s : ByteArray} {j : Nat} (hj : fndI t 0 b = (j : Int)) (hv : rlV (spAt b j) s = 0) : okV b (t, s) := by
  rcases fnd_cases t b with ⟨h, _⟩ | ⟨k, _, hk, hp⟩
  · rw [h] at hj; omega
  · have : k = j := by omega
    subst this
    refine ⟨by rw [hp], ?_⟩
    show spvS (fndP t b).1 s = 0
    rw [hp]
    exact hv
/-- What a rule that may be makes of a value that its field may have. -/
theorem ru_makes {a b : List Sp} {st' v' : Int} {r : Ru} (hr : ruN a b r = 0) (hb : (schN st' v' b).1 = 0) {x : Item} (hx : okV a x) (hf : r.2.1 = x.1) (he : (ruT b r x.2).2.2 = 0) :
    (r.1 = 2 ∧ (ruT b r x.2).1 = 0) ∨ (r.1 ≠ 2 ∧ (ruT b r x.2).1 = r.2.2.1 ∧ okV b ((ruT b r x.2).1, (ruT b r x.2).2.1)) := by
  have h := rul_valid (x := x.2) hr hb (fun i _ _ hp => by
    have h2 := hx.2
    rw [← hf] at h2
    unfold spvS at h2
    rw [hp] at h2
    exact h2)
  rcases h with ⟨h1, _⟩ | ⟨_, h2, h3, _⟩ | ⟨_, h2, h3, j, _, h5, h6⟩
  · exact absurd he h1
  · exact Or.inl ⟨h2, h3⟩
  · refine Or.inr ⟨h2, h3, ?_⟩
    have h3' : (ruT b r x.2).1 = r.2.2.1 := h3
    rw [h3']
    exact okV_of h5 h6
theorem xone_rule {a b : List Sp} {st' v' : Int} {R : List Ru} (hR : XR a b R) (hb : (schN st' v' b).1 = 0) {x : Item} (hx : okV a x) (he : (xone b R x).2.2 = 0) :
    ∃ i, i < R.length ∧ ruI x.1 R = some i ∧ (ruAt R i).2.1 = x.1 ∧ (((ruAt R i).1 = 2 ∧ (xval b R x).1 = 0) ∨ ((ruAt R i).1 ≠ 2 ∧ (xval b R x).1 = (ruAt R i).2.2.1 ∧ okV b (xval b R x))) := by
  unfold xval
  unfold xone at *
  cases hi : ruI x.1 R
  · rw [hi] at he; cases he
  · rename_i i
    rw [hi] at he
    obtain ⟨h1, h2, _⟩ := ruI_some hi
    exact ⟨i, h1, rfl, h2, ru_makes (hR.1 i h1) hb hx h2 he⟩
/-- A rule RConst. -/
theorem ru_const {a b : List Sp} {r : Ru} (hr : ruN a b r = 0) (hk : r.1 = 3) : r.2.1 = 0 ∧ okV b (r.2.2.1, r.2.2.2.1) := by
  obtain ⟨k, f, t, s, P⟩ := r
  have hk' : k = 3 := hk
  subst hk'
  obtain ⟨_, h1, h2, _, h4⟩ := rulN_zero (show rulN 3 f t s P a b = 0 from hr)
  have h1' : (f == 0) = true := h1
  have h2' : (fndP t b).2 = true := h2
  exact ⟨by simpa using h1', h2', h4⟩

def Apart (V : List Item) : Prop := V.Pairwise fun x y => x.1 ≠ 0 → x.1 ≠ y.1
theorem num_one {V : List Item} (h : Apart V) {no : Int} (h0 : no ≠ 0) : numL1 no V = [] ∨ ∃ y, numL1 no V = [y] ∧ y ∈ V ∧ y.1 = no := by
  have hp : (numL1 no V).Pairwise fun x y => x.1 ≠ 0 → x.1 ≠ y.1 := List.Pairwise.filter _ h
  have hm : ∀ y ∈ numL1 no V, y ∈ V ∧ y.1 = no := fun y hy => by simpa [numL1] using hy
  match hl : numL1 no V with
  | [] => exact Or.inl rfl
  | [y] => exact Or.inr ⟨y, rfl, hm y (by rw [hl]; simp)⟩
  | y :: z :: r =>
    rw [hl] at hp hm
    have h1 := (List.pairwise_cons.1 hp).1 z (by simp)
    have hy := hm y (by simp)
    have hz := hm z (by simp)
    exact absurd (by rw [hy.2, hz.2]) (h1 (by rw [hy.2]; exact h0))
theorem sort_fits {b : List Sp} {V : List Item} (hg : ∀ y ∈ V, y.1 = 0 ∨ okV b y) (hV : Apart V) : ∀ (d a : Nat), 0 < a → Fits b ((a : Int) - 1) ((List.range' a d).flatMap fun no : Nat => numL1 (no : Int) V)
  | 0, a, _ => trivial
  | d + 1, a, ha => by
    have ih := sort_fits hg hV d (a + 1) (by omega)
    rw [List.range'_succ, List.flatMap_cons]
    have e : (((a + 1 : Nat) : Int) - 1) = (a : Int) := by omega
    rw [e] at ih
    rcases num_one hV (no := (a : Int)) (by omega) with h | ⟨y, h, hy, hn⟩
    · rw [h]
      exact ih.weak (by omega)
    · rw [h]
      refine ⟨by rw [hn]; omega, ?_, by rw [hn]; exact ih⟩
      rcases hg y hy with h0 | h0
      · omega
      · exact h0

section
variable {st v : Int} {a : List Sp} {st' v' : Int} {b : List Sp} {M : List PairT} {R : List Ru} {m : ByteArray} {l : List Item}

theorem xval_num (hR : XR a b R) (hb : (schN st' v' b).1 = 0) {x : Item} (hx : okV a x) (he : (xone b R x).2.2 = 0) : (xval b R x).1 = 0 ∨ okV b (xval b R x) := by
  obtain ⟨i, _, _, _, h⟩ := xone_rule hR hb hx he
  rcases h with ⟨_, h⟩ | ⟨_, _, h⟩
  · exact Or.inl h
  · exact Or.inr h
/-- Two fields make two. -/
theorem xval_apart (hR : XR a b R) (hb : (schN st' v' b).1 = 0) {x y : Item} (hx : okV a x) (hy : okV a y) (ex : (xone b R x).2.2 = 0) (ey : (xone b R y).2.2 = 0) (hne : x.1 ≠ y.1) (h0 : (xval b R x).1 ≠ 0) : (xval b R x).1 ≠ (xval b R y).1 := by
  obtain ⟨i, hi, _, hfi, h1⟩ := xone_rule hR hb hx ex
  obtain ⟨j, hj, _, hfj, h2⟩ := xone_rule hR hb hy ey
  have hij : i ≠ j := fun e => hne (by rw [← hfi, ← hfj, e])
  rcases h1 with ⟨_, h1⟩ | ⟨_, h1, _⟩
  · exact absurd h1 h0
  · rcases h2 with ⟨_, h2⟩ | ⟨_, h2, _⟩
    · rw [h2]; exact h0
    · rw [h1] at h0 ⊢
      rw [h2]
      exact (hR.apart hi hj hij).2 h0
theorem xval_const (hR : XR a b R) (hb : (schN st' v' b).1 = 0) {x : Item} (hx : okV a x) (h1 : 0 < x.1) (ex : (xone b R x).2.2 = 0) {c : Item} (hc : c ∈ xcon R) (h0 : (xval b R x).1 ≠ 0) : (xval b R x).1 ≠ c.1 := by
  obtain ⟨i, hi, _, hfi, h2⟩ := xone_rule hR hb hx ex
  simp only [xcon, List.mem_map, List.mem_filter, decide_eq_true_eq] at hc
  obtain ⟨r, ⟨hr, hk⟩, rfl⟩ := hc
  obtain ⟨j, hj, rfl⟩ := ru_mem hr
  have h3 := ru_const (hR.1 j hj) hk
  have hij : i ≠ j := fun e => by rw [e, h3.1] at hfi; omega
  rcases h2 with ⟨_, h2⟩ | ⟨_, h2, _⟩
  · exact absurd h2 h0
  · rw [h2] at h0 ⊢
    exact (hR.apart hi hj hij).2 h0
theorem vals_good (hR : XR a b R) (hb : (schN st' v' b).1 = 0) (hl : Fits a 0 l) (he : (xerr b R l).1 = 0) : ∀ y ∈ xmade b R l ++ xcon R, y.1 = 0 ∨ okV b y := by
  intro y hy
  rcases List.mem_append.1 hy with hy | hy
  · simp only [xmade, List.mem_map] at hy
    obtain ⟨x, hx, rfl⟩ := hy
    exact xval_num hR hb (fits_in hl x hx) (xerr_zero he x hx)
  · simp only [xcon, List.mem_map, List.mem_filter, decide_eq_true_eq] at hy
    obtain ⟨r, ⟨hr, hk⟩, rfl⟩ := hy
    obtain ⟨j, hj, rfl⟩ := ru_mem hr
    exact Or.inr (ru_const (hR.1 j hj) hk).2
theorem xvals_apart (hR : XR a b R) (hb : (schN st' v' b).1 = 0) (hl : Fits a 0 l) (he : (xerr b R l).1 = 0) : Apart (xmade b R l ++ xcon R) := by
  obtain ⟨h1, h2⟩ := fits_up hl
  refine List.pairwise_append.2 ⟨?_, ?_, ?_⟩
  · unfold xmade
    rw [List.pairwise_map]
    refine List.Pairwise.imp_of_mem (fun {x y} hx hy hlt h0 => ?_) h2
    exact xval_apart hR hb (fits_in hl x hx) (fits_in hl y hy) (xerr_zero he x hx) (xerr_zero he y hy) (by omega) h0
  · unfold xcon
    rw [List.pairwise_map]
    refine List.Pairwise.filter _ ?_
    refine List.pairwise_iff_getElem.2 fun i j hi hj hij => ?_
    have := (hR.apart hi hj (by omega)).2
    rw [ruAt_get hi, ruAt_get hj] at this
    exact this
  · intro y hy c hc h0
    simp only [xmade, List.mem_map] at hy
    obtain ⟨x, hx, rfl⟩ := hy
    exact xval_const hR hb (fits_in hl x hx) (h1 x hx) (xerr_zero he x hx) hc h0

/-- What is made is valid. -/
theorem xlt_valid (hN : (xltN st v a st' v' b M R).1 = 0) (hm : msgN st v a m l = (0, 0)) (hp : appB M m = true) (he : (xerr b R l).1 = 0) : msgN st' v' b (appS M m) (xsort (xmade b R l ++ xcon R)) = (0, 0) := by
  obtain ⟨_, h2, _, h4, _, _⟩ := xlt_zero hN
  have hR := xr_of hN
  obtain ⟨_, _, hl⟩ := valid_in hm
  have hmti : mtiV (appS M m) v' = true := by
    obtain ⟨i, hi, hat⟩ := List.getElem_of_mem (app_mem hp)
    have hz := (mpE_zero (h4 i hi)).1
    rw [duoAt_get hi, hat] at hz
    unfold mpB at hz
    simp only [Bool.and_eq_true] at hz
    exact hz.1.2
  rw [msgN_list h2 hmti, msgL_zero]
  have := sort_fits (vals_good hR h2 hl he) (xvals_apart hR h2 hl he) 127 2 (by omega)
  exact this.weak (by omega)

/-- The field that a field becomes; 0: none (the last rule that takes it and isn't RDrop). -/
def xgone (no : Int) (R : List Ru) : Int := R.foldl (fun g r => if r.2.1 = no ∧ r.1 ≠ 2 then r.2.2.1 else g) 0
theorem gone_step {no : Int} {R : List Ru} {k : Nat} (hk : k < R.length) : xgone no (R.take (k + 1)) = if (ruAt R k).2.1 = no ∧ (ruAt R k).1 ≠ 2 then (ruAt R k).2.2.1 else xgone no (R.take k) := by
  unfold xgone
  rw [take_ru hk, List.foldl_append]
  rfl
theorem gone_take (hR : XR a b R) {no : Int} (h0 : no ≠ 0) {i : Nat} (hi : ruI no R = some i) : ∀ k, k ≤ R.length → xgone no (R.take k) = if i < k ∧ (ruAt R i).1 ≠ 2 then (ruAt R i).2.2.1 else 0
  | 0, _ => by rw [if_neg (by omega)]; rfl
  | k + 1, hk => by
    have ih := gone_take hR h0 hi k (by omega)
    obtain ⟨h1, h2, h3⟩ := ruI_some hi
    rw [gone_step (by omega), ih]
    by_cases hik : k = i
    · subst hik
      by_cases h4 : (ruAt R k).1 ≠ 2
      · rw [if_pos ⟨h2, h4⟩, if_pos ⟨by omega, h4⟩]
      · rw [if_neg (by intro h; exact h4 h.2), if_neg (by omega), if_neg (by intro h; exact h4 h.2)]
    · have hne : (ruAt R k).2.1 ≠ no := by
        have := (hR.apart h1 (show k < R.length by omega) (fun e => hik e.symm)).1 (by rw [h2]; exact h0)
        rw [h2] at this
        exact fun e => this e.symm
      rw [if_neg (by intro h; exact hne h.1)]
      by_cases h4 : i < k ∧ (ruAt R i).1 ≠ 2
      · rw [if_pos h4, if_pos ⟨by omega, h4.2⟩]
      · rw [if_neg h4, if_neg (by intro h; exact h4 ⟨by omega, h.2⟩)]
theorem gone_is (hR : XR a b R) {no : Int} (h0 : no ≠ 0) {i : Nat} (hi : ruI no R = some i) : xgone no R = if (ruAt R i).1 ≠ 2 then (ruAt R i).2.2.1 else 0 := by
  have h := gone_take hR h0 hi R.length (Nat.le_refl _)
  rw [List.take_of_length_le (Nat.le_refl _)] at h
  rw [h]
  have := (ruI_some hi).1
  by_cases h4 : (ruAt R i).1 ≠ 2
  · rw [if_pos ⟨this, h4⟩, if_pos h4]
  · rw [if_neg (by intro h; exact h4 h.2), if_neg h4]

theorem map_part {g : Item → Item} {p q : Item → Bool} : ∀ {l : List Item}, (∀ x ∈ l, q x = p (g x)) → (l.filter q).map g = (l.map g).filter p
  | [], _ => rfl
  | x :: r, h => by
    have ih := map_part (g := g) (p := p) (q := q) (l := r) fun y hy => h y (by simp [hy])
    have hx := h x (by simp)
    rw [List.map_cons]
    cases hq : q x
    · rw [List.filter_cons_of_neg (by simp [hq]), List.filter_cons_of_neg (by rw [← hx, hq]; simp), ih]
    · rw [List.filter_cons_of_pos hq, List.filter_cons_of_pos (by rw [← hx, hq]), List.map_cons, ih]
theorem flat_congr {α β : Type} {f g : α → List β} : ∀ {l : List α}, (∀ x ∈ l, f x = g x) → l.flatMap f = l.flatMap g
  | [], _ => rfl
  | x :: r, h => by
    rw [List.flatMap_cons, List.flatMap_cons, h x (by simp), flat_congr (l := r) fun y hy => h y (by simp [hy])]
theorem out_sort (g : Int) (V : List Item) : outL g (xsort V) = xsort (outL g V) := by
  unfold xsort outL numL1
  rw [List.filter_flatMap]
  congr 1
  funext no
  rw [List.filter_filter, List.filter_filter]
  congr 1
  funext x
  exact Bool.and_comm _ _
/-- Without one field, what is made is without what that one makes. -/
theorem xlt_parts (hN : (xltN st v a st' v' b M R).1 = 0) (hm : msgN st v a m l = (0, 0)) (he : (xerr b R l).1 = 0) {y : Item} (hy : y ∈ l) :
    (xerr b R (outL y.1 l)).1 = 0 ∧ xsort (xmade b R (outL y.1 l) ++ xcon R) = outL (xgone y.1 R) (xsort (xmade b R l ++ xcon R)) := by
  obtain ⟨_, h2, _, _, _, _⟩ := xlt_zero hN
  have hR := xr_of hN
  obtain ⟨_, _, hl⟩ := valid_in hm
  obtain ⟨hpos, _⟩ := fits_up hl
  have hez := xerr_zero he
  refine ⟨by rw [xerr_all fun x hx => hez x (out_mem hx).1], ?_⟩
  obtain ⟨i, hi, hri, hfi, hval⟩ := xone_rule hR h2 (fits_in hl y hy) (hez y hy)
  have hg := gone_is hR (show y.1 ≠ 0 by have := hpos y hy; omega) hri
  have hgv : (xval b R y).1 = xgone y.1 R := by
    rw [hg]
    rcases hval with ⟨h3, h4⟩ | ⟨h3, h4, _⟩
    · rw [if_neg (by intro h; exact h h3), h4]
    · rw [if_pos h3, h4]
  rw [out_sort]
  unfold xsort
  refine flat_congr (fun no hno => ?_)
  have hno2 : 2 ≤ no := by rw [List.mem_range'] at hno; omega
  unfold numL1 outL
  rw [List.filter_append, List.filter_append, List.filter_append]
  congr 1
  · unfold xmade
    have e1 : ∀ (L : List Item) (p : Item → Bool), (L.map (xval b R)).filter p = (L.filter fun x => p (xval b R x)).map (xval b R) := fun L p => (map_part (g := xval b R) (p := p) (q := fun x => p (xval b R x)) fun x _ => rfl).symm
    simp only [e1, List.filter_filter]
    congr 1
    refine List.filter_congr (fun x hx => ?_)
    by_cases hxy : x.1 = y.1
    · have : (xval b R x).1 = (xval b R y).1 := by
        have e : xone b R x = xone b R y ∨ True := Or.inr trivial
        have hxe : x = y := by
          have hp := (fits_up hl).2
          by_cases e2 : x = y
          · exact e2
          · exfalso
            obtain ⟨n1, hn1, e3⟩ := List.getElem_of_mem hx
            obtain ⟨n2, hn2, e4⟩ := List.getElem_of_mem hy
            rcases Nat.lt_trichotomy n1 n2 with h | h | h
            · have := List.pairwise_iff_getElem.1 hp n1 n2 hn1 hn2 h
              rw [e3, e4] at this; omega
            · subst h; rw [e3] at e4; exact e2 e4
            · have := List.pairwise_iff_getElem.1 hp n2 n1 hn2 hn1 h
              rw [e3, e4] at this; omega
        rw [hxe]
      rw [this, hgv]
      simp [hxy]
    · by_cases h0 : (xval b R x).1 = (no : Int)
      · have hne := xval_apart hR h2 (fits_in hl x hx) (fits_in hl y hy) (hez x hx) (hez y hy) hxy (by rw [h0]; omega)
        rw [hgv] at hne
        simp [hxy, h0]
        rw [← h0]
        exact hne
      · simp [h0]
  · rw [List.filter_filter]
    refine List.filter_congr (fun c hc => ?_)
    by_cases h0 : c.1 = (no : Int)
    · have hne : c.1 ≠ xgone y.1 R := by
        rw [← hgv]
        intro e
        exact xval_const hR h2 (fits_in hl y hy) (hpos y hy) (hez y hy) hc (by rw [← e, h0]; omega) e.symm
      simp [h0]
      rw [← h0]
      exact hne
    · simp [h0]

/-- Each field alone. -/
theorem xlt_alone (hm : msgN st v a m l = (0, 0)) : msgN st v a m [] = (0, 0) ∧ ∀ x ∈ l, msgN st v a m [x] = (0, 0) := by
  obtain ⟨h1, h2, hl⟩ := valid_in hm
  refine ⟨by rw [msgN_list h1 h2]; rfl, fun x hx => ?_⟩
  rw [msgN_list h1 h2, msgL_zero]
  exact ⟨(fits_up hl).1 x hx, fits_in hl x hx, trivial⟩
end

end Go.Proofs.YtbhlennolghjmaaDoor
