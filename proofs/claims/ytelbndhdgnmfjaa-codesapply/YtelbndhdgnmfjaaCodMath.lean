/-
  Lists of pairs of texts: what is wrong with one, what a text becomes, the other way round. (Plain functions.)
-/
import Derived.Test.YtelbndhdgnmfjaaByt
namespace Go.Proofs.Ytelbndhdgnmfjaa

abbrev Duo := ByteArray × ByteArray
def noDuo : Duo := (⟨#[]⟩, ⟨#[]⟩)
def duoAt (l : List Duo) (i : Nat) : Duo := l.getD i noDuo
def froms (l : List Duo) : List ByteArray := l.map Prod.fst
/-- The pairs the other way round. -/
def turnL (l : List Duo) : List Duo := l.map Prod.swap
/-- The first pair with this text ahead. -/
def fstI (l : List Duo) (t : ByteArray) : Option Nat := (List.range l.length).find? (fun i => decide ((duoAt l i).1 = t))
def fstJ (l : List Duo) (t : ByteArray) : Int := match fstI l t with | some i => (i : Int) | none => -1
/-- What a text becomes; whether it becomes something. -/
def appS (l : List Duo) (t : ByteArray) : ByteArray := match fstI l t with | some i => (duoAt l i).2 | none => ⟨#[]⟩
def appB (l : List Duo) (t : ByteArray) : Bool := (fstI l t).isSome
def memB (t : ByteArray) (ts : List ByteArray) : Bool := ts.any fun x => decide (x = t)
theorem memB_iff {t : ByteArray} {ts : List ByteArray} : memB t ts = true ↔ t ∈ ts := by simp [memB]
theorem memB_yes {t : ByteArray} {ts : List ByteArray} (h : t ∈ ts) : memB t ts = true := memB_iff.2 h
theorem memB_no {t : ByteArray} {ts : List ByteArray} (h : t ∉ ts) : memB t ts = false := by
  cases h' : memB t ts
  · rfl
  · exact absurd (memB_iff.1 h') h
/-- What is wrong with a table, and with which pair. -/
def tabN (l : List Duo) : Nat × Nat :=
  if 256 < l.length then (5, 256) else
  match (List.range l.length).find? (fun i => memB (duoAt l i).1 (froms (l.take i))) with
  | some i => (10, i)
  | none => (0, 0)
def bijB (l : List Duo) : Bool := decide ((tabN l).1 = 0) && decide ((tabN (turnL l)).1 = 0)

theorem duo_text {x y : ByteArray} (h : x.toList = y.toList) : x = y := by
  rw [ByteArray.toList_eq, ByteArray.toList_eq] at h
  rw [ByteArray.ext_iff]
  exact Array.toList_inj.1 h
theorem duo_ne {x y : ByteArray} (h : x ≠ y) : (x.toList == y.toList) = false := by
  rw [beq_eq_false_iff_ne]
  exact fun e => h (duo_text e)

theorem duoAt_get {l : List Duo} {i : Nat} (h : i < l.length) : duoAt l i = l[i] := by simp [duoAt, List.getD, h]
theorem duoAt_take {l : List Duo} {i k : Nat} (h : i < k) : duoAt (l.take k) i = duoAt l i := by simp [duoAt, List.getD, h]
theorem take_succ_duo {l : List Duo} {i : Nat} (h : i < l.length) : l.take (i + 1) = l.take i ++ [duoAt l i] := by rw [duoAt_get h, List.take_succ_eq_append_getElem h]
theorem froms_len (l : List Duo) : (froms l).length = l.length := by simp [froms]
theorem froms_step {l : List Duo} {k : Nat} (h : k < l.length) : froms (l.take (k + 1)) = froms (l.take k) ++ [(duoAt l k).1] := by rw [take_succ_duo h]; simp [froms]
theorem froms_take_len {l : List Duo} {k : Nat} (h : k ≤ l.length) : (froms (l.take k)).length = k := by rw [froms_len, List.length_take]; omega
theorem turn_len (l : List Duo) : (turnL l).length = l.length := by simp [turnL]
theorem turn_at {l : List Duo} {k : Nat} (h : k < l.length) : duoAt (turnL l) k = ((duoAt l k).2, (duoAt l k).1) := by
  rw [duoAt_get (by rw [turn_len]; exact h), duoAt_get h]; simp [turnL, Prod.swap]
theorem turn_turn (l : List Duo) : turnL (turnL l) = l := by simp [turnL, Function.comp_def]
theorem turn_step {l : List Duo} {k : Nat} (h : k < l.length) : turnL (l.take (k + 1)) = turnL (l.take k) ++ [((duoAt l k).2, (duoAt l k).1)] := by rw [take_succ_duo h]; simp [turnL, Prod.swap]
theorem duo_all {l : List Duo} {k : Nat} (h : l.length ≤ k) : l.take k = l := List.take_of_length_le h

theorem fst_hit {l : List Duo} {t : ByteArray} {k : Nat} (hk : k < l.length) (hno : ∀ j, j < k → (duoAt l j).1 ≠ t) (he : (duoAt l k).1 = t) : fstI l t = some k := by
  unfold fstI
  rw [List.find?_range_eq_some]
  exact ⟨by simpa using he, by simpa using hk, fun j hj => by simpa using hno j hj⟩
theorem fst_miss {l : List Duo} {t : ByteArray} (hno : ∀ j, j < l.length → (duoAt l j).1 ≠ t) : fstI l t = none := by
  unfold fstI
  rw [List.find?_eq_none]
  intro j hj
  simpa using hno j (by simpa using hj)
theorem fst_some {l : List Duo} {t : ByteArray} {k : Nat} (h : fstI l t = some k) : k < l.length ∧ (duoAt l k).1 = t ∧ ∀ j, j < k → (duoAt l j).1 ≠ t := by
  unfold fstI at h
  rw [List.find?_range_eq_some] at h
  exact ⟨by simpa using h.2.1, by simpa using h.1, fun j hj => by simpa using h.2.2 j hj⟩
theorem fst_none {l : List Duo} {t : ByteArray} (h : fstI l t = none) : ∀ j, j < l.length → (duoAt l j).1 ≠ t := by
  unfold fstI at h
  rw [List.find?_eq_none] at h
  exact fun j hj => by simpa using h j (by simpa using hj)
theorem fstJ_hit {l : List Duo} {t : ByteArray} {n k : Nat} (hn : n ≤ l.length) (hk : k < n) (hno : ∀ j, j < k → (duoAt l j).1 ≠ t) (he : (duoAt l k).1 = t) : fstJ (l.take n) t = (k : Int) := by
  unfold fstJ
  rw [fst_hit (k := k) (by rw [List.length_take]; omega) (fun j hj => by rw [duoAt_take (by omega)]; exact hno j hj) (by rw [duoAt_take hk]; exact he)]
theorem fstJ_miss {l : List Duo} {t : ByteArray} {n : Nat} (hn : n ≤ l.length) (hno : ∀ j, j < n → (duoAt l j).1 ≠ t) : fstJ (l.take n) t = -1 := by
  unfold fstJ
  rw [fst_miss (fun j hj => by rw [List.length_take] at hj; rw [duoAt_take (by omega)]; exact hno j (by omega))]
theorem duo_mem {l : List Duo} {t : ByteArray} : t ∈ froms l ↔ ∃ k, k < l.length ∧ (duoAt l k).1 = t := by
  constructor
  · intro h
    simp only [froms, List.mem_map] at h
    obtain ⟨x, hx, rfl⟩ := h
    obtain ⟨k, hk, rfl⟩ := List.getElem_of_mem hx
    exact ⟨k, hk, by rw [duoAt_get hk]⟩
  · rintro ⟨k, hk, rfl⟩
    rw [duoAt_get hk]
    exact List.mem_map_of_mem (List.getElem_mem hk)
theorem fstJ_ahead {l : List Duo} {t : ByteArray} : (0 ≤ fstJ l t) ↔ t ∈ froms l := by
  rw [duo_mem]
  unfold fstJ
  cases h : fstI l t
  · have := fst_none h
    simp only
    constructor
    · intro h; omega
    · rintro ⟨k, hk, he⟩; exact absurd he (this k hk)
  · rename_i k
    have := fst_some h
    simp only
    exact ⟨fun _ => ⟨k, this.1, this.2.1⟩, fun _ => by omega⟩

theorem app_hit {l : List Duo} {t : ByteArray} {k : Nat} (hk : k < l.length) (hno : ∀ j, j < k → (duoAt l j).1 ≠ t) (he : (duoAt l k).1 = t) : appS l t = (duoAt l k).2 ∧ appB l t = true := by
  unfold appS appB; rw [fst_hit hk hno he]; exact ⟨rfl, rfl⟩
theorem app_miss {l : List Duo} {t : ByteArray} (hno : ∀ j, j < l.length → (duoAt l j).1 ≠ t) : appS l t = ⟨#[]⟩ ∧ appB l t = false := by
  unfold appS appB; rw [fst_miss hno]; exact ⟨rfl, rfl⟩
theorem app_none {l : List Duo} {t : ByteArray} (h : appB l t = false) : appS l t = ⟨#[]⟩ := by
  unfold appS appB at *
  cases h' : fstI l t
  · rfl
  · rw [h'] at h; cases h
theorem app_ahead (l : List Duo) (t : ByteArray) : appB l t = memB t (froms l) := by
  rw [Bool.eq_iff_iff, memB_iff, duo_mem]
  unfold appB
  cases h : fstI l t
  · have := fst_none h
    simp only [Option.isSome_none]
    exact ⟨fun h => (by cases h), fun ⟨k, hk, he⟩ => absurd he (this k hk)⟩
  · rename_i k
    have := fst_some h
    simp only [Option.isSome_some, true_iff]
    exact ⟨k, this.1, this.2.1⟩
theorem app_mem {l : List Duo} {t : ByteArray} (h : appB l t = true) : (t, appS l t) ∈ l := by
  unfold appS appB at *
  cases h' : fstI l t
  · rw [h'] at h; cases h
  · rename_i k
    obtain ⟨h1, h2, _⟩ := fst_some h'
    simp only
    rw [← h2, duoAt_get h1]
    exact List.getElem_mem h1
theorem app_of_mem {l : List Duo} {t v : ByteArray} (hl : (froms l).Nodup) (h : (t, v) ∈ l) : appS l t = v ∧ appB l t = true := by
  obtain ⟨k, hk, he⟩ := List.getElem_of_mem h
  have hat : duoAt l k = (t, v) := by rw [duoAt_get hk, he]
  have := app_hit (t := t) hk (fun j hj e => ?_) (by rw [hat])
  · rw [hat] at this; exact this
  · have hp := List.pairwise_iff_getElem.1 hl j k (by rw [froms_len]; omega) (by rw [froms_len]; omega) hj
    apply hp
    have e1 : (froms l)[j]'(by rw [froms_len]; omega) = (duoAt l j).1 := by rw [duoAt_get (by omega)]; simp [froms]
    have e2 : (froms l)[k]'(by rw [froms_len]; omega) = (duoAt l k).1 := by rw [duoAt_get hk]; simp [froms]
    rw [e1, e2, e, hat]

theorem tab_great {l : List Duo} (h : 256 < l.length) : tabN l = (5, 256) := by unfold tabN; rw [if_pos h]
theorem tab_bad {l : List Duo} {k : Nat} (hl : l.length ≤ 256) (hk : k < l.length) (hno : ∀ j, j < k → (duoAt l j).1 ∉ froms (l.take j)) (he : (duoAt l k).1 ∈ froms (l.take k)) : tabN l = (10, k) := by
  have e : (List.range l.length).find? (fun i => memB (duoAt l i).1 (froms (l.take i))) = some k := by
    rw [List.find?_range_eq_some]
    exact ⟨memB_yes he, by simpa using hk, fun j hj => by rw [memB_no (hno j hj)]; rfl⟩
  unfold tabN
  rw [if_neg (by omega), e]
theorem tab_ok {l : List Duo} (hl : l.length ≤ 256) (hno : ∀ j, j < l.length → (duoAt l j).1 ∉ froms (l.take j)) : tabN l = (0, 0) := by
  have e : (List.range l.length).find? (fun i => memB (duoAt l i).1 (froms (l.take i))) = none := by
    rw [List.find?_eq_none]
    intro j hj
    rw [memB_no (hno j (by simpa using hj))]
    simp
  unfold tabN
  rw [if_neg (by omega), e]
theorem nodup_ahead {l : List Duo} : (froms l).Nodup ↔ ∀ j, j < l.length → (duoAt l j).1 ∉ froms (l.take j) := by
  have e : ∀ i (h : i < l.length), (froms l)[i]'(by rw [froms_len]; exact h) = (duoAt l i).1 := fun i h => by rw [duoAt_get h]; simp [froms]
  constructor
  · intro h j hj hm
    obtain ⟨i, hi, he⟩ := duo_mem.1 hm
    rw [List.length_take] at hi
    rw [duoAt_take (by omega)] at he
    have := List.pairwise_iff_getElem.1 h i j (by rw [froms_len]; omega) (by rw [froms_len]; omega) (by omega)
    rw [e i (by omega), e j hj] at this
    exact this he
  · intro h
    refine List.pairwise_iff_getElem.2 fun i j hi hj hij => ?_
    rw [froms_len] at hi hj
    rw [e i hi, e j hj]
    intro he
    exact h j hj (duo_mem.2 ⟨i, by rw [List.length_take]; omega, by rw [duoAt_take hij]; exact he⟩)
theorem tab_zero {l : List Duo} : (tabN l).1 = 0 ↔ l.length ≤ 256 ∧ (froms l).Nodup := by
  constructor
  · intro h
    unfold tabN at h
    split at h
    · simp at h
    · rename_i hl
      split at h
      · simp at h
      · rename_i he
        rw [List.find?_eq_none] at he
        exact ⟨by omega, nodup_ahead.2 fun j hj hm => he j (by simpa using hj) (memB_yes hm)⟩
  · rintro ⟨h1, h2⟩
    rw [tab_ok h1 (nodup_ahead.1 h2)]
theorem tab_le (l : List Duo) : (tabN l).1 ≤ 10 ∧ (tabN l).2 ≤ 256 := by
  unfold tabN
  split
  · exact ⟨by omega, by omega⟩
  · split
    · rename_i k he
      rw [List.find?_range_eq_some] at he
      have := he.2.1
      simp at this
      exact ⟨by omega, by simp only; omega⟩
    · exact ⟨by omega, by omega⟩
theorem tab_none {l : List Duo} (h : (tabN l).1 = 0) : tabN l = (0, 0) := by
  obtain ⟨h1, h2⟩ := tab_zero.1 h
  exact tab_ok h1 (nodup_ahead.1 h2)

/-- A bijective table and it turned undo each other. -/
theorem bij_back {l : List Duo} {t : ByteArray} (hb : bijB l = true) (h : appB l t = true) : appS (turnL l) (appS l t) = t ∧ appB (turnL l) (appS l t) = true := by
  unfold bijB at hb
  simp only [Bool.and_eq_true, decide_eq_true_eq] at hb
  have hm := app_mem h
  refine app_of_mem (tab_zero.1 hb.2).2 ?_
  generalize appS l t = s at *
  simp only [turnL, List.mem_map]
  exact ⟨(t, s), hm, rfl⟩
theorem bij_turn {l : List Duo} (hb : bijB l = true) : bijB (turnL l) = true := by
  unfold bijB at *
  rw [turn_turn, Bool.and_comm]
  exact hb
theorem bij_len {l : List Duo} (hb : bijB l = true) : l.length ≤ 256 := by
  unfold bijB at hb
  simp only [Bool.and_eq_true, decide_eq_true_eq] at hb
  exact (tab_zero.1 hb.1).1

/-- The order plays no part. -/
def rotL (k : Nat) (l : List Duo) : List Duo := l.drop k ++ l.take k
theorem rot_perm (k : Nat) (l : List Duo) : (rotL k l).Perm l := by
  have := (List.perm_append_comm (l₁ := l.drop k) (l₂ := l.take k))
  rwa [List.take_append_drop] at this
theorem rot_len (k : Nat) (l : List Duo) : (rotL k l).length = l.length := (rot_perm k l).length_eq
theorem rot_nodup {k : Nat} {l : List Duo} (h : (froms l).Nodup) : (froms (rotL k l)).Nodup := ((rot_perm k l).map Prod.fst).nodup_iff.2 h
theorem rot_tab {k : Nat} {l : List Duo} (h : (tabN l).1 = 0) : tabN (rotL k l) = (0, 0) := by
  obtain ⟨h1, h2⟩ := tab_zero.1 h
  exact tab_none (tab_zero.2 ⟨by rw [rot_len]; exact h1, rot_nodup h2⟩)
theorem rot_app {k : Nat} {l : List Duo} (h : (tabN l).1 = 0) (t : ByteArray) : appS (rotL k l) t = appS l t ∧ appB (rotL k l) t = appB l t := by
  obtain ⟨_, h2⟩ := tab_zero.1 h
  by_cases ha : appB l t = true
  · have := app_of_mem (rot_nodup (k := k) h2) ((rot_perm k l).mem_iff.2 (app_mem ha))
    rw [ha]
    exact this
  · have ha' : appB l t = false := by simpa using ha
    have hr : appB (rotL k l) t = false := by
      rw [app_ahead] at ha' ⊢
      refine memB_no fun hm => ?_
      have hm' : t ∈ froms l := ((rot_perm k l).map Prod.fst).mem_iff.1 hm
      rw [memB_yes hm'] at ha'
      cases ha'
    rw [app_none ha', app_none hr, ha', hr]
    exact ⟨rfl, rfl⟩

/-- More than is played. -/
def cgreatB (l : List Duo) : Bool := decide (400 < l.length) || l.any fun x => decide (1000 < x.1.size) || decide (1000 < x.2.size)
theorem cgreat_far {l : List Duo} (h : 400 < l.length) : cgreatB l = true := by simp [cgreatB, h]
theorem cgreat_hit {l : List Duo} {k : Nat} (hk : k < l.length) (h : 1000 < (duoAt l k).1.size ∨ 1000 < (duoAt l k).2.size) : cgreatB l = true := by
  have : l.any (fun x => decide (1000 < x.1.size) || decide (1000 < x.2.size)) = true := by
    rw [List.any_eq_true]
    rw [duoAt_get hk] at h
    exact ⟨_, List.getElem_mem hk, by simpa using h⟩
  simp [cgreatB, this]
theorem cgreat_miss {l : List Duo} (hl : l.length ≤ 400) (h : ∀ j, j < l.length → (duoAt l j).1.size ≤ 1000 ∧ (duoAt l j).2.size ≤ 1000) : cgreatB l = false := by
  have : l.any (fun x => decide (1000 < x.1.size) || decide (1000 < x.2.size)) = false := by
    rw [List.any_eq_false]
    intro x hx
    obtain ⟨k, hk, rfl⟩ := List.getElem_of_mem hx
    have := h k hk
    rw [duoAt_get hk] at this
    simp; omega
  unfold cgreatB
  rw [this, Bool.or_false]
  simp; omega
theorem cgreat_len {l : List Duo} (h : cgreatB l = false) : l.length ≤ 400 := by
  by_cases hl : 400 < l.length
  · rw [cgreat_far hl] at h; cases h
  · omega

end Go.Proofs.Ytelbndhdgnmfjaa
