/-
  Maps: what is wrong with one, what becomes of a message. (Plain functions.)
-/
import Derived.Test.YtbhlennolghjmaaDoorPackRul
import Derived.Test.YtbhlennolghjmaaDoorPackMsg
import Derived.Test.YtbhlennolghjmaaDoorFst
namespace Go.Proofs.YtbhlennolghjmaaDoor

abbrev Ru := Int × Int × Int × ByteArray × List PairT
def noRu : Ru := (0, 0, 0, ⟨#[]⟩, [])
def ruAt (l : List Ru) (i : Nat) : Ru := l.getD i noRu
/-- What is wrong with a rule; what it makes of a text. -/
def ruN (a b : List Sp) (r : Ru) : Int := rulN r.1 r.2.1 r.2.2.1 r.2.2.2.1 r.2.2.2.2 a b
def ruT (b : List Sp) (r : Ru) (u : ByteArray) : Int × ByteArray × Int := rapN r.1 r.2.2.1 r.2.2.2.1 r.2.2.2.2 b u
/-- Do two rules take, or make, one field? -/
def twiceB (x y : Ru) : Bool := (decide (x.2.1 ≠ 0) && decide (x.2.1 = y.2.1)) || (decide (x.2.2.1 ≠ 0) && decide (x.2.2.1 = y.2.2.1))
/-- A pair of MTIs, each of its version, that both ask or don't. -/
def mpB (va vb : Int) (p : PairT) : Bool := mtiV p.1 va && mtiV p.2 vb && (askB p.1.data.toList == askB p.2.data.toList)
def mpE (va vb : Int) (M : List PairT) (i : Nat) : Int := if mpB va vb (duoAt M i) = false then 7 else if memB (duoAt M i).1 (froms (M.take i)) = true then 10 else 0
def ruE (a b : List Sp) (R : List Ru) (i : Nat) : Int := if ruN a b (ruAt R i) ≠ 0 then ruN a b (ruAt R i) else if (R.take i).any (fun x => twiceB x (ruAt R i)) = true then 10 else 0
/-- What is wrong with a map: the error, the part, the place. -/
def xltN (st v : Int) (a : List Sp) (st' v' : Int) (b : List Sp) (M : List PairT) (R : List Ru) : Int × Int × Int :=
  if (schN st v a).1 ≠ 0 then (1, 1, 0) else if (schN st' v' b).1 ≠ 0 then (1, 1, 1) else if 256 < M.length then (5, 2, 256) else
  match xfst M.length (mpE v v' M) with
  | some i => (mpE v v' M i, 2, (i : Int))
  | none => if 256 < R.length then (5, 3, 256) else
    match xfst R.length (ruE a b R) with
    | some i => (ruE a b R i, 3, (i : Int))
    | none => (0, 0, 0)
/-- The first rule that takes a field. -/
def ruI (no : Int) (R : List Ru) : Option Nat := (List.range R.length).find? (fun i => decide ((ruAt R i).2.1 = no))
/-- What becomes of one field: a number, a text, an error. -/
def xone (b : List Sp) (R : List Ru) (x : Item) : Int × ByteArray × Int := match ruI x.1 R with | none => (0, ⟨#[]⟩, 9) | some i => ruT b (ruAt R i) x.2
/-- The first field that becomes nothing. -/
def xerr (b : List Sp) (R : List Ru) : List Item → Int × Int
  | [] => (0, 0)
  | x :: r => if (xone b R x).2.2 ≠ 0 then ((xone b R x).2.2, x.1) else xerr b R r
def xval (b : List Sp) (R : List Ru) (x : Item) : Item := ((xone b R x).1, (xone b R x).2.1)
def xmade (b : List Sp) (R : List Ru) (l : List Item) : List Item := l.map (xval b R)
def xcon (R : List Ru) : List Item := (R.filter fun r => decide (r.1 = 3)).map fun r => (r.2.2.1, r.2.2.2.1)
def numL1 (no : Int) (V : List Item) : List Item := V.filter fun x => decide (x.1 = no)
def xsort (V : List Item) : List Item := (List.range' 2 127).flatMap fun no : Nat => numL1 (no : Int) V
/-- What a message becomes, or the fault. -/
def xltT (st v : Int) (a : List Sp) (st' v' : Int) (b : List Sp) (M : List PairT) (R : List Ru) (m : ByteArray) (l : List Item) : ByteArray × List Item × (Int × Int) :=
  if (xltN st v a st' v' b M R).1 ≠ 0 then (⟨#[]⟩, [], (1, -1))
  else if (msgN st v a m l).1 ≠ 0 then (⟨#[]⟩, [], msgN st v a m l)
  else if appB M m = false then (⟨#[]⟩, [], (7, 0))
  else if (xerr b R l).1 ≠ 0 then (⟨#[]⟩, [], xerr b R l)
  else (appS M m, xsort (xmade b R l ++ xcon R), (0, 0))

theorem ruAt_get {l : List Ru} {i : Nat} (h : i < l.length) : ruAt l i = l[i] := by simp [ruAt, List.getD, h]
theorem ruAt_take {l : List Ru} {i k : Nat} (h : i < k) : ruAt (l.take k) i = ruAt l i := by simp [ruAt, List.getD, h]
theorem take_ru {l : List Ru} {i : Nat} (h : i < l.length) : l.take (i + 1) = l.take i ++ [ruAt l i] := by rw [ruAt_get h, List.take_succ_eq_append_getElem h]
theorem xlt_a {st v : Int} {a : List Sp} {st' v' : Int} {b : List Sp} {M : List PairT} {R : List Ru} (h : (schN st v a).1 ≠ 0) : xltN st v a st' v' b M R = (1, 1, 0) := by unfold xltN; rw [if_pos h]
theorem xlt_b {st v : Int} {a : List Sp} {st' v' : Int} {b : List Sp} {M : List PairT} {R : List Ru} (h : (schN st v a).1 = 0) (h2 : (schN st' v' b).1 ≠ 0) : xltN st v a st' v' b M R = (1, 1, 1) := by unfold xltN; rw [if_neg (by simp [h]), if_pos h2]
theorem xlt_pairs {st v : Int} {a : List Sp} {st' v' : Int} {b : List Sp} {M : List PairT} {R : List Ru} (h : (schN st v a).1 = 0) (h2 : (schN st' v' b).1 = 0) (h3 : 256 < M.length) : xltN st v a st' v' b M R = (5, 2, 256) := by
  unfold xltN; rw [if_neg (by simp [h]), if_neg (by simp [h2]), if_pos h3]
theorem xlt_pair {st v : Int} {a : List Sp} {st' v' : Int} {b : List Sp} {M : List PairT} {R : List Ru} {i : Nat} (h : (schN st v a).1 = 0) (h2 : (schN st' v' b).1 = 0) (h3 : M.length ≤ 256) (hi : i < M.length) (hno : ∀ j, j < i → mpE v v' M j = 0) (he : mpE v v' M i ≠ 0) : xltN st v a st' v' b M R = (mpE v v' M i, 2, (i : Int)) := by
  unfold xltN; rw [if_neg (by simp [h]), if_neg (by simp [h2]), if_neg (by omega), xfst_hit hi hno he]
theorem xlt_rules {st v : Int} {a : List Sp} {st' v' : Int} {b : List Sp} {M : List PairT} {R : List Ru} (h : (schN st v a).1 = 0) (h2 : (schN st' v' b).1 = 0) (h3 : M.length ≤ 256) (h4 : ∀ j, j < M.length → mpE v v' M j = 0) (h5 : 256 < R.length) : xltN st v a st' v' b M R = (5, 3, 256) := by
  unfold xltN; rw [if_neg (by simp [h]), if_neg (by simp [h2]), if_neg (by omega), xfst_none h4]; simp only; rw [if_pos h5]
theorem xlt_rule {st v : Int} {a : List Sp} {st' v' : Int} {b : List Sp} {M : List PairT} {R : List Ru} {i : Nat} (h : (schN st v a).1 = 0) (h2 : (schN st' v' b).1 = 0) (h3 : M.length ≤ 256) (h4 : ∀ j, j < M.length → mpE v v' M j = 0) (h5 : R.length ≤ 256) (hi : i < R.length) (hno : ∀ j, j < i → ruE a b R j = 0) (he : ruE a b R i ≠ 0) : xltN st v a st' v' b M R = (ruE a b R i, 3, (i : Int)) := by
  unfold xltN; rw [if_neg (by simp [h]), if_neg (by simp [h2]), if_neg (by omega), xfst_none h4]; simp only; rw [if_neg (by omega), xfst_hit hi hno he]
theorem xlt_ok {st v : Int} {a : List Sp} {st' v' : Int} {b : List Sp} {M : List PairT} {R : List Ru} (h : (schN st v a).1 = 0) (h2 : (schN st' v' b).1 = 0) (h3 : M.length ≤ 256) (h4 : ∀ j, j < M.length → mpE v v' M j = 0) (h5 : R.length ≤ 256) (h6 : ∀ j, j < R.length → ruE a b R j = 0) : xltN st v a st' v' b M R = (0, 0, 0) := by
  unfold xltN; rw [if_neg (by simp [h]), if_neg (by simp [h2]), if_neg (by omega), xfst_none h4]; simp only; rw [if_neg (by omega), xfst_none h6]
theorem xlt_zero {st v : Int} {a : List Sp} {st' v' : Int} {b : List Sp} {M : List PairT} {R : List Ru} (h : (xltN st v a st' v' b M R).1 = 0) :
    (schN st v a).1 = 0 ∧ (schN st' v' b).1 = 0 ∧ M.length ≤ 256 ∧ (∀ j, j < M.length → mpE v v' M j = 0) ∧ R.length ≤ 256 ∧ ∀ j, j < R.length → ruE a b R j = 0 := by
  by_cases h1 : (schN st v a).1 = 0
  · by_cases h2 : (schN st' v' b).1 = 0
    · by_cases h3 : M.length ≤ 256
      · cases h4 : xfst M.length (mpE v v' M)
        · have h4' := xfst_zero h4
          by_cases h5 : R.length ≤ 256
          · cases h6 : xfst R.length (ruE a b R)
            · exact ⟨h1, h2, h3, h4', h5, xfst_zero h6⟩
            · rename_i i
              have := xfst_some h6
              unfold xltN at h
              rw [if_neg (by simp [h1]), if_neg (by simp [h2]), if_neg (by omega), h4] at h
              simp only at h
              rw [if_neg (by omega), h6] at h
              exact absurd h this.2
          · rw [xlt_rules h1 h2 h3 h4' (by omega)] at h; cases h
        · rename_i i
          have := xfst_some h4
          unfold xltN at h
          rw [if_neg (by simp [h1]), if_neg (by simp [h2]), if_neg (by omega), h4] at h
          exact absurd h this.2
      · rw [xlt_pairs h1 h2 (by omega)] at h; cases h
    · rw [xlt_b h1 h2] at h; cases h
  · rw [xlt_a h1] at h; cases h
theorem mpE_zero {va vb : Int} {M : List PairT} {i : Nat} (h : mpE va vb M i = 0) : mpB va vb (duoAt M i) = true ∧ (duoAt M i).1 ∉ froms (M.take i) := by
  unfold mpE at h
  by_cases h1 : mpB va vb (duoAt M i) = false
  · rw [if_pos h1] at h; cases h
  · rw [if_neg h1] at h
    by_cases h2 : memB (duoAt M i).1 (froms (M.take i)) = true
    · rw [if_pos h2] at h; cases h
    · exact ⟨by simpa using h1, fun hm => h2 (memB_yes hm)⟩
theorem ruE_zero {a b : List Sp} {R : List Ru} {i : Nat} (h : ruE a b R i = 0) : ruN a b (ruAt R i) = 0 ∧ ∀ j, j < i → j < R.length → twiceB (ruAt R j) (ruAt R i) = false := by
  unfold ruE at h
  by_cases h1 : ruN a b (ruAt R i) = 0
  · rw [if_neg (by simp [h1])] at h
    by_cases h2 : (R.take i).any (fun x => twiceB x (ruAt R i)) = true
    · rw [if_pos h2] at h; cases h
    · refine ⟨h1, fun j hj hl => ?_⟩
      cases ht : twiceB (ruAt R j) (ruAt R i)
      · rfl
      · refine absurd ?_ h2
        rw [List.any_eq_true]
        refine ⟨ruAt R j, ?_, ht⟩
        rw [← ruAt_take hj, ruAt_get (by rw [List.length_take]; omega)]
        exact List.getElem_mem _
  · rw [if_pos h1] at h; exact absurd h h1
theorem ruI_some {no : Int} {R : List Ru} {i : Nat} (h : ruI no R = some i) : i < R.length ∧ (ruAt R i).2.1 = no ∧ ∀ j, j < i → (ruAt R j).2.1 ≠ no := by
  unfold ruI at h
  rw [List.find?_range_eq_some] at h
  exact ⟨by simpa using h.2.1, by simpa using h.1, fun j hj => by simpa using h.2.2 j hj⟩
theorem ruI_hit {no : Int} {R : List Ru} {k : Nat} (hk : k < R.length) (hno : ∀ j, j < k → (ruAt R j).2.1 ≠ no) (he : (ruAt R k).2.1 = no) : ruI no R = some k := by
  unfold ruI
  rw [List.find?_range_eq_some]
  exact ⟨by simpa using he, by simpa using hk, fun j hj => by simpa using hno j hj⟩
theorem ruI_none {no : Int} {R : List Ru} (h : ∀ j, j < R.length → (ruAt R j).2.1 ≠ no) : ruI no R = none := by
  unfold ruI
  rw [List.find?_eq_none]
  intro j hj
  simpa using h j (by simpa using hj)

theorem xerr_bad {b : List Sp} {R : List Ru} {x : Item} {r : List Item} (h : (xone b R x).2.2 ≠ 0) : xerr b R (x :: r) = ((xone b R x).2.2, x.1) := by rw [xerr, if_pos h]
theorem xerr_ok {b : List Sp} {R : List Ru} {x : Item} {r : List Item} (h : (xone b R x).2.2 = 0) : xerr b R (x :: r) = xerr b R r := by rw [xerr, if_neg (by simp [h])]
theorem xerr_zero {b : List Sp} {R : List Ru} : ∀ {l : List Item}, (xerr b R l).1 = 0 → ∀ x ∈ l, (xone b R x).2.2 = 0
  | [], _, x, hx => by simp at hx
  | y :: r, h, x, hx => by
    by_cases h1 : (xone b R y).2.2 = 0
    · rw [xerr_ok h1] at h
      rcases List.mem_cons.1 hx with rfl | hx
      · exact h1
      · exact xerr_zero h x hx
    · rw [xerr_bad h1] at h; exact absurd h h1
theorem xerr_all {b : List Sp} {R : List Ru} : ∀ {l : List Item}, (∀ x ∈ l, (xone b R x).2.2 = 0) → xerr b R l = (0, 0)
  | [], _ => rfl
  | y :: r, h => by
    rw [xerr_ok (h y (by simp))]
    exact xerr_all fun x hx => h x (by simp [hx])

end Go.Proofs.YtbhlennolghjmaaDoor
