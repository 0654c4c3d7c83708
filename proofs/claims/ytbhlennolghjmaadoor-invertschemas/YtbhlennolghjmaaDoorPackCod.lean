/-
  Texts of one family, laid together: CodMath, CodOf, CodSeen, CodRead, CodCheck, CodTurn, CodBij.
-/
import Derived.Test.YtbhlennolghjmaaDoorPackBase
import Derived.Deep.AppendLies
import Derived.Laws.OwnMore
import Derived.Maps.Own
import Derived.Maps.OwnSet
import Derived.Maps.Views
import Derived.BigQuiet
import Derived.Deep.RegionWith
import Derived.OwnWalk

/-
  Lists of pairs of texts: what is wrong with one, what a text becomes, the other way round. (Plain functions.)
-/
namespace Go.Proofs.YtbhlennolghjmaaDoor

abbrev PairT := ByteArray × ByteArray
def noDuo : PairT := (⟨#[]⟩, ⟨#[]⟩)
def duoAt (l : List PairT) (i : Nat) : PairT := l.getD i noDuo
def froms (l : List PairT) : List ByteArray := l.map Prod.fst
/-- The pairs the other way round. -/
def turnL (l : List PairT) : List PairT := l.map Prod.swap
/-- The first pair with this text ahead. -/
def fstI (l : List PairT) (t : ByteArray) : Option Nat := (List.range l.length).find? (fun i => decide ((duoAt l i).1 = t))
def fstJ (l : List PairT) (t : ByteArray) : Int := match fstI l t with | some i => (i : Int) | none => -1
/-- What a text becomes; whether it becomes something. -/
def appS (l : List PairT) (t : ByteArray) : ByteArray := match fstI l t with | some i => (duoAt l i).2 | none => ⟨#[]⟩
def appB (l : List PairT) (t : ByteArray) : Bool := (fstI l t).isSome
def memB (t : ByteArray) (ts : List ByteArray) : Bool := ts.any fun x => decide (x = t)
theorem memB_iff {t : ByteArray} {ts : List ByteArray} : memB t ts = true ↔ t ∈ ts := by simp [memB]
theorem memB_yes {t : ByteArray} {ts : List ByteArray} (h : t ∈ ts) : memB t ts = true := memB_iff.2 h
theorem memB_no {t : ByteArray} {ts : List ByteArray} (h : t ∉ ts) : memB t ts = false := by
  cases h' : memB t ts
  · rfl
  · exact absurd (memB_iff.1 h') h
/-- What is wrong with a table, and with which pair. -/
def tabN (l : List PairT) : Nat × Nat :=
  if 256 < l.length then (5, 256) else
  match (List.range l.length).find? (fun i => memB (duoAt l i).1 (froms (l.take i))) with
  | some i => (10, i)
  | none => (0, 0)
def bijB (l : List PairT) : Bool := decide ((tabN l).1 = 0) && decide ((tabN (turnL l)).1 = 0)

theorem duo_text {x y : ByteArray} (h : x.toList = y.toList) : x = y := by
  rw [ByteArray.toList_eq, ByteArray.toList_eq] at h
  rw [ByteArray.ext_iff]
  exact Array.toList_inj.1 h
theorem duo_ne {x y : ByteArray} (h : x ≠ y) : (x.toList == y.toList) = false := by
  rw [beq_eq_false_iff_ne]
  exact fun e => h (duo_text e)

theorem duoAt_get {l : List PairT} {i : Nat} (h : i < l.length) : duoAt l i = l[i] := by simp [duoAt, List.getD, h]
theorem duoAt_take {l : List PairT} {i k : Nat} (h : i < k) : duoAt (l.take k) i = duoAt l i := by simp [duoAt, List.getD, h]
theorem take_succ_duo {l : List PairT} {i : Nat} (h : i < l.length) : l.take (i + 1) = l.take i ++ [duoAt l i] := by rw [duoAt_get h, List.take_succ_eq_append_getElem h]
theorem froms_len (l : List PairT) : (froms l).length = l.length := by simp [froms]
theorem froms_step {l : List PairT} {k : Nat} (h : k < l.length) : froms (l.take (k + 1)) = froms (l.take k) ++ [(duoAt l k).1] := by rw [take_succ_duo h]; simp [froms]
theorem froms_take_len {l : List PairT} {k : Nat} (h : k ≤ l.length) : (froms (l.take k)).length = k := by rw [froms_len, List.length_take]; omega
theorem turn_len (l : List PairT) : (turnL l).length = l.length := by simp [turnL]
theorem turn_at {l : List PairT} {k : Nat} (h : k < l.length) : duoAt (turnL l) k = ((duoAt l k).2, (duoAt l k).1) := by
  rw [duoAt_get (by rw [turn_len]; exact h), duoAt_get h]; simp [turnL, Prod.swap]
theorem turn_turn (l : List PairT) : turnL (turnL l) = l := by simp [turnL, Function.comp_def]
theorem turn_step {l : List PairT} {k : Nat} (h : k < l.length) : turnL (l.take (k + 1)) = turnL (l.take k) ++ [((duoAt l k).2, (duoAt l k).1)] := by rw [take_succ_duo h]; simp [turnL, Prod.swap]
theorem duo_all {l : List PairT} {k : Nat} (h : l.length ≤ k) : l.take k = l := List.take_of_length_le h

theorem fst_hit {l : List PairT} {t : ByteArray} {k : Nat} (hk : k < l.length) (hno : ∀ j, j < k → (duoAt l j).1 ≠ t) (he : (duoAt l k).1 = t) : fstI l t = some k := by
  unfold fstI
  rw [List.find?_range_eq_some]
  exact ⟨by simpa using he, by simpa using hk, fun j hj => by simpa using hno j hj⟩
theorem fst_miss {l : List PairT} {t : ByteArray} (hno : ∀ j, j < l.length → (duoAt l j).1 ≠ t) : fstI l t = none := by
  unfold fstI
  rw [List.find?_eq_none]
  intro j hj
  simpa using hno j (by simpa using hj)
theorem fst_some {l : List PairT} {t : ByteArray} {k : Nat} (h : fstI l t = some k) : k < l.length ∧ (duoAt l k).1 = t ∧ ∀ j, j < k → (duoAt l j).1 ≠ t := by
  unfold fstI at h
  rw [List.find?_range_eq_some] at h
  exact ⟨by simpa using h.2.1, by simpa using h.1, fun j hj => by simpa using h.2.2 j hj⟩
theorem fst_none {l : List PairT} {t : ByteArray} (h : fstI l t = none) : ∀ j, j < l.length → (duoAt l j).1 ≠ t := by
  unfold fstI at h
  rw [List.find?_eq_none] at h
  exact fun j hj => by simpa using h j (by simpa using hj)
theorem fstJ_hit {l : List PairT} {t : ByteArray} {n k : Nat} (hn : n ≤ l.length) (hk : k < n) (hno : ∀ j, j < k → (duoAt l j).1 ≠ t) (he : (duoAt l k).1 = t) : fstJ (l.take n) t = (k : Int) := by
  unfold fstJ
  rw [fst_hit (k := k) (by rw [List.length_take]; omega) (fun j hj => by rw [duoAt_take (by omega)]; exact hno j hj) (by rw [duoAt_take hk]; exact he)]
theorem fstJ_miss {l : List PairT} {t : ByteArray} {n : Nat} (hn : n ≤ l.length) (hno : ∀ j, j < n → (duoAt l j).1 ≠ t) : fstJ (l.take n) t = -1 := by
  unfold fstJ
  rw [fst_miss (fun j hj => by rw [List.length_take] at hj; rw [duoAt_take (by omega)]; exact hno j (by omega))]
theorem duo_mem {l : List PairT} {t : ByteArray} : t ∈ froms l ↔ ∃ k, k < l.length ∧ (duoAt l k).1 = t := by
  constructor
  · intro h
    simp only [froms, List.mem_map] at h
    obtain ⟨x, hx, rfl⟩ := h
    obtain ⟨k, hk, rfl⟩ := List.getElem_of_mem hx
    exact ⟨k, hk, by rw [duoAt_get hk]⟩
  · rintro ⟨k, hk, rfl⟩
    rw [duoAt_get hk]
    exact List.mem_map_of_mem (List.getElem_mem hk)
theorem fstJ_ahead {l : List PairT} {t : ByteArray} : (0 ≤ fstJ l t) ↔ t ∈ froms l := by
  rw [duo_mem]
  unfold fstJ
  cases h : fstI l t
  · have := fst_none h
    simp only
    constructor
    · intro h; omega
    · rintro ⟨k, hk, he⟩; exact absurd he (this k hk)
  · rename_i k
    have := fst_some h
    simp only
    exact ⟨fun _ => ⟨k, this.1, this.2.1⟩, fun _ => by omega⟩

theorem app_hit {l : List PairT} {t : ByteArray} {k : Nat} (hk : k < l.length) (hno : ∀ j, j < k → (duoAt l j).1 ≠ t) (he : (duoAt l k).1 = t) : appS l t = (duoAt l k).2 ∧ appB l t = true := by
  unfold appS appB; rw [fst_hit hk hno he]; exact ⟨rfl, rfl⟩
theorem app_miss {l : List PairT} {t : ByteArray} (hno : ∀ j, j < l.length → (duoAt l j).1 ≠ t) : appS l t = ⟨#[]⟩ ∧ appB l t = false := by
  unfold appS appB; rw [fst_miss hno]; exact ⟨rfl, rfl⟩
theorem app_none {l : List PairT} {t : ByteArray} (h : appB l t = false) : appS l t = ⟨#[]⟩ := by
  unfold appS appB at *
  cases h' : fstI l t
  · rfl
  · rw [h'] at h; cases h
theorem app_ahead (l : List PairT) (t : ByteArray) : appB l t = memB t (froms l) := by
  rw [Bool.eq_iff_iff, memB_iff, duo_mem]
  unfold appB
  cases h : fstI l t
  · have := fst_none h
    simp only [Option.isSome_none]
    exact ⟨fun h => (by cases h), fun ⟨k, hk, he⟩ => absurd he (this k hk)⟩
  · rename_i k
    have := fst_some h
    simp only [Option.isSome_some, true_iff]
    exact ⟨k, this.1, this.2.1⟩
theorem app_mem {l : List PairT} {t : ByteArray} (h : appB l t = true) : (t, appS l t) ∈ l := by
  unfold appS appB at *
  cases h' : fstI l t
  · rw [h'] at h; cases h
  · rename_i k
    obtain ⟨h1, h2, _⟩ := fst_some h'
    simp only
    rw [← h2, duoAt_get h1]
    exact List.getElem_mem h1
theorem app_of_mem {l : List PairT} {t v : ByteArray} (hl : (froms l).Nodup) (h : (t, v) ∈ l) : appS l t = v ∧ appB l t = true := by
  obtain ⟨k, hk, he⟩ := List.getElem_of_mem h
  have hat : duoAt l k = (t, v) := by rw [duoAt_get hk, he]
  have := app_hit (t := t) hk (fun j hj e => ?_) (by rw [hat])
  · rw [hat] at this; exact this
  · have hp := List.pairwise_iff_getElem.1 hl j k (by rw [froms_len]; omega) (by rw [froms_len]; omega) hj
    apply hp
    have e1 : (froms l)[j]'(by rw [froms_len]; omega) = (duoAt l j).1 := by rw [duoAt_get (by omega)]; simp [froms]
    have e2 : (froms l)[k]'(by rw [froms_len]; omega) = (duoAt l k).1 := by rw [duoAt_get hk]; simp [froms]
    rw [e1, e2, e, hat]

theorem tab_great {l : List PairT} (h : 256 < l.length) : tabN l = (5, 256) := by unfold tabN; rw [if_pos h]
theorem tab_bad {l : List PairT} {k : Nat} (hl : l.length ≤ 256) (hk : k < l.length) (hno : ∀ j, j < k → (duoAt l j).1 ∉ froms (l.take j)) (he : (duoAt l k).1 ∈ froms (l.take k)) : tabN l = (10, k) := by
  have e : (List.range l.length).find? (fun i => memB (duoAt l i).1 (froms (l.take i))) = some k := by
    rw [List.find?_range_eq_some]
    exact ⟨memB_yes he, by simpa using hk, fun j hj => by rw [memB_no (hno j hj)]; rfl⟩
  unfold tabN
  rw [if_neg (by omega), e]
theorem tab_ok {l : List PairT} (hl : l.length ≤ 256) (hno : ∀ j, j < l.length → (duoAt l j).1 ∉ froms (l.take j)) : tabN l = (0, 0) := by
  have e : (List.range l.length).find? (fun i => memB (duoAt l i).1 (froms (l.take i))) = none := by
    rw [List.find?_eq_none]
    intro j hj
    rw [memB_no (hno j (by simpa using hj))]
    simp
  unfold tabN
  rw [if_neg (by omega), e]
theorem nodup_ahead {l : List PairT} : (froms l).Nodup ↔ ∀ j, j < l.length → (duoAt l j).1 ∉ froms (l.take j) := by
  have e : ∀ i (h : i < l.length), (froms l)[i]'(by rw [froms_len]; exact h) = (duoAt l i).1 := fun i h => by rw [duoAt_get h]; simp [froms]
  constructor
  · intro h j hj hm
    obtain ⟨i, hi, he⟩ := duo_mem.1 hm
    rw [List.length_take] at hi
    rw [duoAt_take (by omega)] at he
    have := List.pairwise_iff_getElem.1 h i j (by rw [froms_len]; omega) (by rw [froms_len]; omega) (by omega)
    rw [e i (by omega), e j hj] at this
    exact this he
  · intro h
    refine List.pairwise_iff_getElem.2 fun i j hi hj hij => ?_
    rw [froms_len] at hi hj
    rw [e i hi, e j hj]
    intro he
    exact h j hj (duo_mem.2 ⟨i, by rw [List.length_take]; omega, by rw [duoAt_take hij]; exact he⟩)
theorem tab_zero {l : List PairT} : (tabN l).1 = 0 ↔ l.length ≤ 256 ∧ (froms l).Nodup := by
  constructor
  · intro h
    unfold tabN at h
    split at h
    · simp at h
    · rename_i hl
      split at h
      · simp at h
      · rename_i he
        rw [List.find?_eq_none] at he
        exact ⟨by omega, nodup_ahead.2 fun j hj hm => he j (by simpa using hj) (memB_yes hm)⟩
  · rintro ⟨h1, h2⟩
    rw [tab_ok h1 (nodup_ahead.1 h2)]
theorem tab_le (l : List PairT) : (tabN l).1 ≤ 10 ∧ (tabN l).2 ≤ 256 := by
  unfold tabN
  split
  · exact ⟨by omega, by omega⟩
  · split
    · rename_i k he
      rw [List.find?_range_eq_some] at he
      have := he.2.1
      simp at this
      exact ⟨by omega, by simp only; omega⟩
    · exact ⟨by omega, by omega⟩
theorem tab_none {l : List PairT} (h : (tabN l).1 = 0) : tabN l = (0, 0) := by
  obtain ⟨h1, h2⟩ := tab_zero.1 h
  exact tab_ok h1 (nodup_ahead.1 h2)

/-- A bijective table and it turned undo each other. -/
theorem bij_back {l : List PairT} {t : ByteArray} (hb : bijB l = true) (h : appB l t = true) : appS (turnL l) (appS l t) = t ∧ appB (turnL l) (appS l t) = true := by
  unfold bijB at hb
  simp only [Bool.and_eq_true, decide_eq_true_eq] at hb
  have hm := app_mem h
  refine app_of_mem (tab_zero.1 hb.2).2 ?_
  generalize appS l t = s at *
  simp only [turnL, List.mem_map]
  exact ⟨(t, s), hm, rfl⟩
theorem bij_turn {l : List PairT} (hb : bijB l = true) : bijB (turnL l) = true := by
  unfold bijB at *
  rw [turn_turn, Bool.and_comm]
  exact hb
theorem bij_len {l : List PairT} (hb : bijB l = true) : l.length ≤ 256 := by
  unfold bijB at hb
  simp only [Bool.and_eq_true, decide_eq_true_eq] at hb
  exact (tab_zero.1 hb.1).1

/-- The order plays no part. -/
def rotL (k : Nat) (l : List PairT) : List PairT := l.drop k ++ l.take k
theorem rot_perm (k : Nat) (l : List PairT) : (rotL k l).Perm l := by
  have := (List.perm_append_comm (l₁ := l.drop k) (l₂ := l.take k))
  rwa [List.take_append_drop] at this
theorem rot_len (k : Nat) (l : List PairT) : (rotL k l).length = l.length := (rot_perm k l).length_eq
theorem rot_nodup {k : Nat} {l : List PairT} (h : (froms l).Nodup) : (froms (rotL k l)).Nodup := ((rot_perm k l).map Prod.fst).nodup_iff.2 h
theorem rot_tab {k : Nat} {l : List PairT} (h : (tabN l).1 = 0) : tabN (rotL k l) = (0, 0) := by
  obtain ⟨h1, h2⟩ := tab_zero.1 h
  exact tab_none (tab_zero.2 ⟨by rw [rot_len]; exact h1, rot_nodup h2⟩)
theorem rot_app {k : Nat} {l : List PairT} (h : (tabN l).1 = 0) (t : ByteArray) : appS (rotL k l) t = appS l t ∧ appB (rotL k l) t = appB l t := by
  obtain ⟨_, h2⟩ := tab_zero.1 h
  by_cases ha : appB l t = true
  · have := app_of_mem (rot_nodup (k := k) h2) ((rot_perm k l).mem_iff.2 (app_mem ha))
    rw [ha]
    exact this
  · have ha' : appB l t = false := by simpa using ha
    have hr : appB (rotL k l) t = false := by
      rw [app_ahead] at ha' ⊢
      refine memB_no fun hm => ?_
      have hm' : t ∈ froms l := ((rot_perm k l).map Prod.fst).mem_iff.1 hm
      rw [memB_yes hm'] at ha'
      cases ha'
    rw [app_none ha', app_none hr, ha', hr]
    exact ⟨rfl, rfl⟩

/-- More than is played. -/
def cgreatB (l : List PairT) : Bool := decide (400 < l.length) || l.any fun x => decide (1000 < x.1.size) || decide (1000 < x.2.size)
theorem cgreat_far {l : List PairT} (h : 400 < l.length) : cgreatB l = true := by simp [cgreatB, h]
theorem cgreat_hit {l : List PairT} {k : Nat} (hk : k < l.length) (h : 1000 < (duoAt l k).1.size ∨ 1000 < (duoAt l k).2.size) : cgreatB l = true := by
  have : l.any (fun x => decide (1000 < x.1.size) || decide (1000 < x.2.size)) = true := by
    rw [List.any_eq_true]
    rw [duoAt_get hk] at h
    exact ⟨_, List.getElem_mem hk, by simpa using h⟩
  simp [cgreatB, this]
theorem cgreat_miss {l : List PairT} (hl : l.length ≤ 400) (h : ∀ j, j < l.length → (duoAt l j).1.size ≤ 1000 ∧ (duoAt l j).2.size ≤ 1000) : cgreatB l = false := by
  have : l.any (fun x => decide (1000 < x.1.size) || decide (1000 < x.2.size)) = false := by
    rw [List.any_eq_false]
    intro x hx
    obtain ⟨k, hk, rfl⟩ := List.getElem_of_mem hx
    have := h k hk
    rw [duoAt_get hk] at this
    simp; omega
  unfold cgreatB
  rw [this, Bool.or_false]
  simp; omega
theorem cgreat_len {l : List PairT} (h : cgreatB l = false) : l.length ≤ 400 := by
  by_cases hl : 400 < l.length
  · rw [cgreat_far hl] at h; cases h
  · omega

end Go.Proofs.YtbhlennolghjmaaDoor

/-
  Slices of pairs of texts: one that is read, a row of the call's own, a copy, one behind another.
-/
namespace Go.Proofs.YtbhlennolghjmaaDoor
open Go.RowKit

def duoC (x : PairT) : List Value := [.string x.1, .string x.2]
def duosC (l : List PairT) : List Value := l.flatMap duoC
/-- A slice that holds these pairs. -/
def Prs (w : World) (A : Option Addr) (l : List PairT) : Prop := ∀ i, i < l.length → ∃ a, A = some a ∧ w.cell? (a.add (i * 2)) = some (.string (duoAt l i).1) ∧ w.cell? ⟨(a.add (i * 2)).block, (a.add (i * 2)).off + 1, none⟩ = some (.string (duoAt l i).2)
theorem Prs.below {w w' : World} {A : Option Addr} {l : List PairT} (h : Prs w A l) (hb : Below w.heap.size w w') : Prs w' A l := fun i hi => by
  obtain ⟨a, ha, hc, hd⟩ := h i hi
  refine ⟨a, ha, ?_, ?_⟩
  · rw [hb.cell (block_lt_of_cell hc)]; exact hc
  · rw [hb.cell (block_lt_of_cell hd)]; exact hd
theorem prs_nil (w : World) (A : Option Addr) : Prs w A [] := fun i hi => by simp at hi
theorem Prs.at_ {w : World} {A : Option Addr} {l : List PairT} (h : Prs w A l) {i : Nat} (hi : i < l.length) : ∃ a s t, A = some a ∧ duoAt l i = (s, t) ∧ w.cell? (a.add (i * 2)) = some (.string s) ∧ w.cell? ⟨(a.add (i * 2)).block, (a.add (i * 2)).off + 1, none⟩ = some (.string t) := by
  obtain ⟨a, ha, hc, hd⟩ := h i hi
  exact ⟨a, _, _, ha, rfl, hc, hd⟩

theorem Tryd.infoPair : (Tryd.prog.info? 62).map (fun i => (i.zero, i.size, i.bytes)) = some (some (.agg #[.string ⟨#[]⟩, .string ⟨#[]⟩]), 2, 32) := by kernel_rfl
theorem duosC_length (l : List PairT) : (duosC l).length = l.length * 2 := by
  induction l with
  | nil => rfl
  | cons x r ih => simp only [duosC, List.flatMap_cons, List.length_append, List.length_cons, duoC, List.length_nil] at *; omega
theorem duosC_snoc (l : List PairT) (x : PairT) : duosC (l ++ [x]) = duosC l ++ duoC x := by simp [duosC]
theorem duosC_app (l m : List PairT) : duosC (l ++ m) = duosC l ++ duosC m := by simp [duosC]
theorem duosC_at : ∀ (l : List PairT) (i : Nat), i < l.length → (duosC l)[i * 2]? = some (.string (duoAt l i).1) ∧ (duosC l)[i * 2 + 1]? = some (.string (duoAt l i).2)
  | [], i, h => by simp at h
  | x :: r, 0, _ => ⟨rfl, rfl⟩
  | x :: r, i + 1, h => by
    have ih := duosC_at r i (by simpa using h)
    have e : duosC (x :: r) = .string x.1 :: .string x.2 :: duosC r := rfl
    have e2 : duoAt (x :: r) (i + 1) = duoAt r i := by simp [duoAt, List.getD]
    rw [e, e2, show (i + 1) * 2 = i * 2 + 1 + 1 by omega]
    simpa using ih
/-- What a row of the call's own holds, as a slice that is read. -/
theorem prs_own {w : World} {base n : Nat} {v : Value} {l : List PairT} (h : w.ownsRow base 62 2 v n (duosC l)) (hn : n = l.length) : ∃ A cap, v = .slice A l.length cap ∧ Prs w A l := by
  subst hn
  rcases h.2 with ⟨hv, h0⟩ | ⟨g, cap, cur, hv, _⟩
  · have : l = [] := List.eq_nil_of_length_eq_zero h0
    subst this
    exact ⟨none, 0, hv, prs_nil _ _⟩
  · refine ⟨some ⟨g, 0, none⟩, cap, hv, fun i hi => ⟨_, rfl, ?_⟩⟩
    subst hv
    have e1 : (⟨g, 0, none⟩ : Addr).add (i * 2) = ⟨g, i * 2, none⟩ := by rw [Addr.add_lit, Nat.zero_add]
    rw [e1]
    have hc := duosC_at l i hi
    exact ⟨(h.cellAt (i * 2) (by omega)).trans hc.1, (h.cellAt (i * 2 + 1) (by omega)).trans hc.2⟩
theorem prs_row {w : World} {base n cap : Nat} {A : Option Addr} {l : List PairT} (h : w.ownsRow base 62 2 (.slice A n cap) n (duosC l)) (hn : n = l.length) : Prs w A l := by
  obtain ⟨A', cap', hv, ht⟩ := prs_own h hn
  injection hv with h1 h2 h3
  subst h1
  exact ht
theorem pown_below {w w' : World} {base e size n : Nat} {v : Value} {xs : List Value} (h : w.ownsRow base e size v n xs) (hb : Below w.heap.size w w') : w'.ownsRow base e size v n xs := by
  refine ⟨h.1, ?_⟩
  rcases h.2 with h1 | ⟨g', cap, cur, h1, h2, h3, h4⟩
  · exact .inl h1
  · exact .inr ⟨g', cap, cur, h1, h2, obj_below h3 hb, h4⟩
/-- A slice's cells, one behind the other. -/
theorem prs_news {w : World} {a : Addr} {l : List PairT} (h : Prs w (some a) l) : ∀ j u, (duosC l)[j]? = some u → w.cell? (a.add j) = some u := by
  intro j u hu
  have hj := (List.getElem?_eq_some_iff.1 hu).1
  rw [duosC_length] at hj
  obtain ⟨a', ha, hc, hd⟩ := h (j / 2) (by omega)
  injection ha with ha
  subst ha
  have hat := duosC_at l (j / 2) (by omega)
  rcases Nat.mod_two_eq_zero_or_one j with hm | hm
  · have e : j / 2 * 2 = j := by omega
    rw [e] at hc hat
    rw [hc, ← hat.1, hu]
  · have e : j / 2 * 2 + 1 = j := by omega
    rw [e] at hat
    rw [hat.2] at hu
    rw [← hu, ← hd]
    congr 1
    have e3 : j = j / 2 * 2 + 1 := by omega
    generalize j / 2 * 2 = q at *
    subst e3
    unfold Addr.add
    by_cases hq : q = 0
    · subst hq; simp
    · simp [hq]; omega
theorem duos_one (l : List PairT) : ∀ u ∈ duosC l, u.oneCell' = true := by
  intro u hu
  simp only [duosC, List.mem_flatMap, duoC] at hu
  obtain ⟨x, _, hx⟩ := hu
  simp at hx
  rcases hx with rfl | rfl <;> rfl
/-- A part of a slice. -/
theorem Prs.head {w : World} {A : Option Addr} {l : List PairT} (h : Prs w A l) (k : Nat) : Prs w A (l.take k) := fun i hi => by
  rw [List.length_take] at hi
  rw [duoAt_take (by omega)]
  exact h i (by omega)
theorem duoAt_drop (l : List PairT) (k i : Nat) : duoAt (l.drop k) i = duoAt l (k + i) := by simp [duoAt, List.getD]
theorem add_two (a : Addr) (k i : Nat) : (a.add (k * 2)).add (i * 2) = a.add ((k + i) * 2) := by
  unfold Addr.add
  by_cases hk : k * 2 = 0
  · have : k = 0 := by omega
    subst this; simp
  · by_cases hi : i * 2 = 0
    · have : i = 0 := by omega
      subst this; simp
    · have h3 : ¬ (k + i) * 2 = 0 := by omega
      simp only [hk, hi, h3, if_false]
      congr 1
      omega
theorem Prs.tail {w : World} {a : Addr} {l : List PairT} (h : Prs w (some a) l) (k : Nat) : Prs w (some (a.add (k * 2))) (l.drop k) := fun i hi => by
  rw [List.length_drop] at hi
  obtain ⟨a', ha, hc, hd⟩ := h (k + i) (by omega)
  injection ha with ha
  subst ha
  refine ⟨_, rfl, ?_⟩
  rw [duoAt_drop, add_two]
  exact ⟨hc, hd⟩

/-- 'append([]api.Pair{}, l...)': a row of the call's own that holds the same, also where l is of none. -/
theorem wpList_copy_prs {ops : Array Oper} {rest : List Oper} {o : Oper} {a : Act} {Q : Exit → Act → World → Prop} (hgd : o.guard = none) (s x : Operand)
    (ho : o.op = .call { callee := .builtin .append, args := #[s, x], argTypes := #[22, 22] }) (W : World) (hs : a.eval s = .slice (some ⟨W.heap.size, 0, none⟩) 0 0)
    (A : Option Addr) (c len : Nat) (hx : a.eval x = .slice A len c) (l : List PairT) (hlen : l.length = len) (hT : Prs W A l) (hl : len ≤ 5000000)
    (h : ∀ A' c' w', w'.ownsRow W.heap.size 62 2 (.slice A' len c') len (duosC l) → Below W.heap.size W w' → wpList Tryd.prog ops Q rest (a.put o.dst (.slice A' len c')) w') : wpList Tryd.prog ops Q (o :: rest) a (W.alloc (.cells #[] 62)) := by
  obtain ⟨i0, hi, hz0, hz1, hz2⟩ := info_parts Tryd.infoPair
  have hown : (W.alloc (.cells #[] 62)).ownsRow W.heap.size 62 2 (.slice (some ⟨W.heap.size, 0, none⟩) 0 0) 0 [] := World.ownsRow_lit W #[] 0 (Nat.le_refl _) (by unfold maxLen; omega) rfl
  by_cases h0 : len = 0
  · subst h0
    have hnil : l = [] := List.eq_nil_of_length_eq_zero hlen
    subst hnil
    refine wpList_plain hgd fun K hK => ?_
    have hr : (Builtin.append_ #[22, 22] o.type #[.slice (some ⟨W.heap.size, 0, none⟩) 0 0, .slice A 0 c]).run Tryd.prog (W.alloc (.cells #[] 62)) = .ok (.slice (some ⟨W.heap.size, 0, none⟩) 0 0) (W.alloc (.cells #[] 62)) := by
      cases A <;> simp [Builtin.append_, run_underlying Tryd.underlying22, sizeOf, typeInfo, hi, Builtin.lenOf, Builtin.firstCells, storeCells, loadCells, loadCellsFrom]
    unfold Oper.wp execOp
    simp only [ho, resolve, invoke, builtin, Sem.run_bind, Sem.run_pure, Result.andThen_ok, List.map_toArray, List.map_cons, List.map_nil, hs, hx, hr]
    exact hK _ _ (h _ _ _ hown (below_al _ _))
  · obtain ⟨a', rfl, _⟩ := hT 0 (by omega)
    refine wpList_append_lies _ hgd s x _ ho W.heap.size 62 i0 _ 2 32 Tryd.underlying22 hi hz0 hz1 hz2 rfl (by omega) (.slice (some ⟨W.heap.size, 0, none⟩) 0 0) 0 [] hs hown a' len c (duosC l) hx (by rw [duosC_length, hlen]) (prs_news (hT.below (below_al W (.cells #[] 62)))) (duos_one l) (by omega) (by unfold maxLen; omega) (by omega) (by simp) (W.heap.size + 1) (by simp) ?_
    intro g' cap' w2 hown2 hgrow hat hlt2
    rw [Nat.zero_add] at hown2 ⊢
    exact h _ _ _ (by simpa using hown2) ((below_al W _).grown hgrow (by simp) (by intro q hq; simp [Value.ownBlock] at hq; omega))

/-- 'append(s, l...)', s in a row of the call's own, l of some or of none (but somewhere). -/
theorem wp_app_prs {o : Oper} {a : Act} {K : Act → World → Prop} {Q : Exit → Act → World → Prop} (s x : Operand)
    (ho : o.op = .call { callee := .builtin .append, args := #[s, x], argTypes := #[22, 22] }) (W : World) (base g c n : Nat) (hs : a.eval s = .slice (some ⟨g, 0, none⟩) n c) (l : List PairT)
    (hown : W.ownsRow base 62 2 (.slice (some ⟨g, 0, none⟩) n c) n (duosC l)) (b : Addr) (m cm : Nat) (hx : a.eval x = .slice (some b) m cm) (k : List PairT) (hm : k.length = m) (hT : Prs W (some b) k) (hl : n + m ≤ 5000000) (hb : base ≤ W.heap.size)
    (h : ∀ A' c' w', w'.ownsRow base 62 2 (.slice A' (n + m) c') (n + m) (duosC (l ++ k)) → Below base W w' → K (a.put o.dst (.slice A' (n + m) c')) w') : o.wp Tryd.prog a W K Q := by
  obtain ⟨i0, hi, hz0, hz1, hz2⟩ := info_parts Tryd.infoPair
  by_cases h0 : m = 0
  · subst h0
    have hnil : k = [] := List.eq_nil_of_length_eq_zero hm
    subst hnil
    obtain ⟨hw, hcap⟩ : (∃ cur, W.heap[g]? = some (.cells cur 62 (0, 0))) ∧ n ≤ c := by
      rcases hown.2 with ⟨h1, _⟩ | ⟨g', cap, cur, h1, _, h3, h4, _⟩
      · cases h1
      · injection h1 with h1 _ h2
        injection h1 with h1
        injection h1 with h1
        subst h1 h2
        exact ⟨⟨cur, h3⟩, h4⟩
    have hr : (Builtin.append_ #[22, 22] o.type #[.slice (some ⟨g, 0, none⟩) n c, .slice (some b) 0 cm]).run Tryd.prog W = .ok (.slice (some ⟨g, 0, none⟩) n c) W := by
      simp [Builtin.append_, run_underlying Tryd.underlying22, sizeOf, typeInfo, hi, Builtin.lenOf, Builtin.firstCells, storeCells, loadCells, loadCellsFrom, hcap]
    unfold Oper.wp execOp
    simp only [ho, resolve, invoke, builtin, Sem.run_bind, Sem.run_pure, Result.andThen_ok, List.map_toArray, List.map_cons, List.map_nil, hs, hx, hr]
    exact h _ _ _ (by simpa using hown) ⟨rfl, rfl, rfl, Nat.le_refl _, fun _ _ => rfl⟩
  · refine wp_append_lies _ s x _ ho base 62 i0 _ 2 32 Tryd.underlying22 hi hz0 hz1 hz2 rfl (by omega) (.slice (some ⟨g, 0, none⟩) n c) n (duosC l) hs hown b m cm (duosC k) hx (by rw [duosC_length, hm]) (prs_news hT) (duos_one k) (by omega) (by unfold maxLen; omega) (by omega) hb W.heap.size rfl ?_
    intro g' cap' w2 hown2 hgrow hat hlt2
    exact h _ _ _ (by rw [duosC_app]; exact hown2) ((Below.refl _ _).grown hgrow hb (fun q hq => (hown.lt q hq).1))

end Go.Proofs.YtbhlennolghjmaaDoor

/-
  Which texts stand ahead, kept in a map that the call has made: a look-up, a new key.
-/
namespace Go.Proofs.YtbhlennolghjmaaDoor
open Go.RowKit Go.Maps
open Go.WideMaps (keyOf_string_mk)

theorem text_law : Keyed Tryd.prog 9 := string_keyed Tryd.underlying9
theorem czero_bool (w : World) : (zeroValue 4).run Tryd.prog w = .ok (.bool false) w := by kernel_rfl
set_option maxRecDepth 100000 in
theorem cplain_bool_inv {v : Value} {z : DataW Unit × List MemPlace} (h : plainElem Tryd.prog 4 v = some z) : ∃ x, v = .bool x ∧ z = (.lit (.bool x), []) := by
  unfold plainElem at h
  rw [Tryd.underlying4] at h
  cases v <;> simp at h
  rename_i x
  exact ⟨x, rfl, h.symm⟩
theorem data_inj {x y : ByteArray} (h : x.data.toList = y.data.toList) : x = y := by
  rw [ByteArray.ext_iff]
  exact Array.toList_inj.1 h

/-- The map in block m has just these texts as keys, each with true. -/
def Ahead (w : World) (m : Nat) (ts : List ByteArray) : Prop :=
  ∃ D : DataW Unit, w.ownsMap Tryd.prog 9 (plainElem Tryd.prog 4) m ts.length D ∧ ∀ s : ByteArray, D.atKey (.string s.data.toList) (.lit (.bool false)) = .lit (.bool (memB s ts))

theorem Ahead.below {w w' : World} {m : Nat} {ts : List ByteArray} (h : Ahead w m ts) (hb : Below w.heap.size w w') : Ahead w' m ts := by
  obtain ⟨D, ⟨es, clock, ho, hr⟩, h2⟩ := h
  exact ⟨D, ⟨es, clock, obj_below ho hb, hr⟩, h2⟩
theorem ahead_new (w : World) : Ahead (w.alloc (.map #[] 0)) w.heap.size [] :=
  ⟨.map [], World.ownsMap_made w _ _ _, fun z => by simp [DataW.atKey, memB]⟩
set_option maxRecDepth 100000 in
theorem ahead_look {w : World} {m : Nat} {ts : List ByteArray} (h : Ahead w m ts) {s : ByteArray} (hs : s.size ≤ maxLen) :
    (Instr.lookup 118 (.map (some m)) (.string s) false).run Tryd.prog w = .ok (.bool (memB s ts)) w := by
  obtain ⟨D, hown, hat⟩ := h
  obtain ⟨v, ps, hrun, hv⟩ := hown.lookup text_law Tryd.underlying118 (czero_bool w) (plainElem_bool Tryd.underlying4 false) (keyOf_string_mk Tryd.underlying9 hs)
  obtain ⟨x, rfl, hx⟩ := cplain_bool_inv hv
  rw [hat s] at hx
  injection hx with hx
  injection hx with hx
  injection hx with hx
  rw [hrun, ← hx]
set_option maxRecDepth 100000 in
theorem ahead_put {w : World} {m : Nat} {ts : List ByteArray} (h : Ahead w m ts) {s : ByteArray} (hs : s.size ≤ maxLen) (hl : ts.length ≤ 5000000) :
    ∃ w', (Instr.mapUpdate 118 (.map (some m)) (.string s) (.bool true)).run Tryd.prog w = .ok () w' ∧ Ahead w' m (ts ++ [s]) ∧ w.grownBy w' (some m) := by
  obtain ⟨D, hown, hat⟩ := h
  obtain ⟨w', hrun, hown', hg⟩ := hown.update text_law Tryd.underlying118 (by unfold maxLen; omega) (keyOf_string_mk Tryd.underlying9 hs) (plainElem_bool Tryd.underlying4 true)
  refine ⟨w', hrun, ⟨_, by rw [List.length_append]; exact hown', fun y => ?_⟩, hg⟩
  by_cases hy : y = s
  · subst hy
    rw [atKey_put_same hown.isMap (text_law.key (keyOf_string_mk Tryd.underlying9 hs)), memB_yes (by simp)]
  · rw [atKey_put_other (fun e => hy (by injection e with e; exact data_inj e)), hat y]
    have e : memB y (ts ++ [s]) = memB y ts := by simp [memB, Ne.symm hy]
    rw [e]

end Go.Proofs.YtbhlennolghjmaaDoor

/-
  What Apply and great, and the document's find, Apply and Same answer: for every list, in every world.
-/
namespace Go.Proofs.YtbhlennolghjmaaDoor
open Go.RowKit

set_option maxRecDepth 100000 in
set_option maxHeartbeats 1600000 in
theorem capply_any (A : Option Addr) (cap : Nat) (l : List PairT) (t : ByteArray) (w : World) (hI : Prs w A l) (hn : l.length ≤ 5000000) :
    Calls Tryd.prog 104 #[.slice A l.length cap, .string t] w fun e w' => e = .returned (.tuple #[.string (appS l t), .bool (appB l t)]) ∧ Below w.heap.size w w' := by
  have HI := Lib.hid hI
  clear hI
  generalize hlen : l.length = len at *
  have HLEN := Lib.hid hlen
  clear hlen
  go_enter Tryd.func104, Tryd.ntmps104
  go_wp2
  go_loopw [10] (fun i wr => ∃ k : Nat, k ≤ len ∧ i = .int .i64 (k : Int) ∧ (∀ j, j < k → (duoAt l j).1 ≠ t) ∧ Below w.heap.size w wr) (fun i _ => len - (intOf i).toNat)
  case atStart => exact ⟨0, Nat.zero_le _, rfl, fun j hj => by omega, Below.refl _ _⟩
  case round =>
    obtain ⟨k, hk, rfl, hno, hb⟩ := hrel
    have HNO := Lib.hid hno
    have HB := Lib.hid hb
    clear hno hb
    by_cases hlt : k < len
    · obtain ⟨a, s, v, rfl, hx, hc, hd⟩ := (HI.out.below HB.out).at_ (i := k) (by have := HLEN.out; omega)
      have HX := Lib.hid hx
      clear hx
      by_cases hst : s = t
      · subst hst
        have HF := Lib.hid (app_hit (by have := HLEN.out; omega) HNO.out (by rw [HX.out]))
        rw [HX.out] at HF
        dsimp only at HF
        go_wp2
        go_ret2
        exact ⟨by rw [HF.out.1, HF.out.2]; rfl, hbt HB.out (below_al _ _)⟩
      · have hzt := duo_ne hst
        have HST := Lib.hid hst
        clear hst
        go_wp2
        go_roundw
        case rel =>
          refine ⟨k + 1, by omega, by go_num, fun j hj => ?_, hbt HB.out (below_al _ _)⟩
          rcases Nat.lt_or_ge j k with h | h
          · exact HNO.out j h
          · obtain rfl : j = k := by omega
            rw [HX.out]; exact HST.out
        case measure => simp [intOf]; omega
    · have HF := Lib.hid (app_miss (l := l) (t := t) (fun j hj => HNO.out j (by have := HLEN.out; omega)))
      go_wp2
      go_ret2
      exact ⟨by rw [HF.out.1, HF.out.2]; rfl, HB.out⟩

set_option maxRecDepth 100000 in
set_option maxHeartbeats 1600000 in
theorem cfind_any (A : Option Addr) (cap : Nat) (l : List PairT) (n : Nat) (t : ByteArray) (w : World) (hI : Prs w A l) (hn : n ≤ l.length) (hl : l.length ≤ 5000000) :
    Calls Tryd.prog 79 #[.slice A l.length cap, .int .i64 (n : Int), .string t] w fun e w' => e = .returned (.int .i64 (fstJ (l.take n) t)) ∧ w = w' := by
  have HI := Lib.hid hI
  clear hI
  generalize hlen : l.length = len at *
  have HLEN := Lib.hid hlen
  clear hlen
  go_enter Tryd.func79, Tryd.ntmps79
  go_wp2
  go_loop [7] (fun i => ∃ k : Nat, k ≤ n ∧ i = .int .i64 (k : Int) ∧ (∀ j, j < k → (duoAt l j).1 ≠ t)) (fun i => n - (intOf i).toNat)
  case atStart => exact ⟨0, Nat.zero_le _, rfl, fun j hj => by omega⟩
  case round =>
    obtain ⟨k, hk, rfl, hno⟩ := hrel
    have HNO := Lib.hid hno
    clear hno
    by_cases hlt : k < n
    · obtain ⟨a, s, v, rfl, hx, hc, hd⟩ := HI.out.at_ (i := k) (by have := HLEN.out; omega)
      have hkl : k < len := by omega
      have HX := Lib.hid hx
      clear hx
      by_cases hst : s = t
      · have HF := Lib.hid (fstJ_hit (l := l) (by rw [HLEN.out]; exact hn) hlt HNO.out (by rw [HX.out]; exact hst))
        subst hst
        go_wp2
        go_ret
        exact ⟨by rw [HF.out]; rfl, rfl⟩
      · have hzt := duo_ne hst
        have HST := Lib.hid hst
        clear hst
        go_wp2
        go_round
        case rel =>
          refine ⟨k + 1, by omega, by go_num, fun j hj => ?_⟩
          rcases Nat.lt_or_ge j k with h | h
          · exact HNO.out j h
          · obtain rfl : j = k := by omega
            rw [HX.out]; exact HST.out
        case measure => simp [intOf]; omega
    · have HF := Lib.hid (fstJ_miss (l := l) (t := t) (n := n) (by rw [HLEN.out]; exact hn) (fun j hj => HNO.out j (by omega)))
      go_wp2
      go_ret
      exact ⟨by rw [HF.out]; rfl, rfl⟩

theorem fstJ_cases (l : List PairT) (t : ByteArray) : (fstJ l t = -1 ∧ appS l t = ⟨#[]⟩ ∧ appB l t = false) ∨ ∃ k : Nat, k < l.length ∧ fstJ l t = (k : Int) ∧ appS l t = (duoAt l k).2 ∧ appB l t = true := by
  unfold fstJ appS appB
  cases h : fstI l t
  · exact Or.inl ⟨rfl, rfl, rfl⟩
  · rename_i k
    exact Or.inr ⟨k, (fst_some h).1, rfl, rfl, rfl⟩
set_option maxRecDepth 100000 in
set_option maxHeartbeats 1600000 in
theorem crapply_any (A : Option Addr) (cap : Nat) (l : List PairT) (t : ByteArray) (w : World) (hI : Prs w A l) (hl : l.length ≤ 5000000) :
    Calls Tryd.prog 76 #[.slice A l.length cap, .string t] w fun e w' => e = .returned (.tuple #[.string (appS l t), .bool (appB l t)]) ∧ w = w' := by
  have HF := Lib.hid (cfind_any A cap l l.length t w hI (Nat.le_refl _) hl)
  rw [List.take_of_length_le (Nat.le_refl _)] at HF
  rcases fstJ_cases l t with ⟨h1, h2, h3⟩ | ⟨k, hk, h1, h2, h3⟩
  · rw [h1] at HF
    rw [h2, h3]
    clear h1 h2 h3
    generalize l.length = len at *
    go_enter Tryd.func76, Tryd.ntmps76
    go_wp2_with fail
    refine HF.out.mono ?_
    rintro e w1 ⟨rfl, rfl⟩
    go_wp2
    go_ret2
    exact ⟨rfl, rfl⟩
  · rw [h1] at HF
    rw [h2, h3]
    obtain ⟨a, s, v, rfl, hx, hc, hd⟩ := hI.at_ hk
    rw [hx]
    clear h1 h2 h3 hx
    have hlt : ¬ (k : Int) < 0 := by omega
    generalize l.length = len at *
    go_enter Tryd.func76, Tryd.ntmps76
    go_wp2_with fail
    refine HF.out.mono ?_
    rintro e w1 ⟨rfl, rfl⟩
    go_wp2
    go_ret2
    exact ⟨rfl, rfl⟩
set_option maxRecDepth 100000 in
set_option maxHeartbeats 1600000 in
theorem csame_yes (A B : Option Addr) (ca cb : Nat) (l : List PairT) (w : World) (hA : Prs w A l) (hB : Prs w B l) (hl : l.length ≤ 5000000) :
    Calls Tryd.prog 36 #[.slice A l.length ca, .slice B l.length cb] w fun e w' => e = .returned (.bool true) ∧ Below w.heap.size w w' := by
  have HA := Lib.hid hA
  have HB := Lib.hid hB
  clear hA hB
  generalize hlen : l.length = len at *
  have HLEN := Lib.hid hlen
  clear hlen
  go_enter Tryd.func36, Tryd.ntmps36
  go_wp2
  go_loopw [5] (fun i wr => ∃ k : Nat, k ≤ len ∧ i = .int .i64 (k : Int) ∧ Below w.heap.size w wr) (fun i _ => len - (intOf i).toNat)
  case atStart => exact ⟨0, Nat.zero_le _, rfl, Below.refl _ _⟩
  case round =>
    obtain ⟨k, hk, rfl, hb⟩ := hrel
    have HW := Lib.hid hb
    clear hb
    by_cases hlt : k < len
    · obtain ⟨a, rfl, hc, hd⟩ := HA.out.below HW.out k (by have := HLEN.out; omega)
      obtain ⟨b, rfl, he, hf⟩ := HB.out.below HW.out k (by have := HLEN.out; omega)
      generalize duoAt l k = x at *
      obtain ⟨s, v⟩ := x
      dsimp only at hc hd he hf
      go_wp2_with fail
      go_quiet (fail)
      go_wp2
      go_roundw
      case rel => exact ⟨k + 1, by omega, by go_num, hbt HW.out (below_drewN _ _)⟩
      case measure => simp [intOf]; omega
    · go_wp2
      go_ret
      exact ⟨rfl, HW.out⟩

end Go.Proofs.YtbhlennolghjmaaDoor

/-
  What Check and the document's Check answer: for every list, in every world.
-/
namespace Go.Proofs.YtbhlennolghjmaaDoor
open Go.RowKit Go.Maps

/-- What the sizes of a list's texts may be. -/
def Fit2 (l : List PairT) : Prop := ∀ x ∈ l, x.1.size ≤ maxLen ∧ x.2.size ≤ maxLen
theorem Fit2.at_ {l : List PairT} (h : Fit2 l) {k : Nat} (hk : k < l.length) : (duoAt l k).1.size ≤ maxLen ∧ (duoAt l k).2.size ≤ maxLen := by rw [duoAt_get hk]; exact h _ (List.getElem_mem hk)
theorem Fit2.turn {l : List PairT} (h : Fit2 l) : Fit2 (turnL l) := by
  intro x hx
  simp only [turnL, List.mem_map] at hx
  obtain ⟨y, hy, rfl⟩ := hx
  exact ⟨(h y hy).2, (h y hy).1⟩
theorem Fit2.rot {l : List PairT} (h : Fit2 l) (k : Nat) : Fit2 (rotL k l) := fun x hx => h x ((rot_perm k l).mem_iff.1 hx)

set_option maxRecDepth 100000 in
set_option maxHeartbeats 1600000 in
theorem ccheck_long (A : Option Addr) (cap n : Nat) (w : World) (hn : 256 < n) (hm : n ≤ maxLen) :
    Calls Tryd.prog 53 #[.slice A n cap] w fun e w' => e = .returned (.tuple #[.int .i64 5, .int .i64 256]) ∧ Below w.heap.size w w' := by
  unfold maxLen at hm
  have t : decide ((256 : Int) < (n : Int)) = true := by simp; omega
  clear hn
  go_enter Tryd.func53, Tryd.ntmps53
  go_wp2
  go_ret2
  exact ⟨rfl, Below.refl _ _⟩
set_option maxRecDepth 100000 in
set_option maxHeartbeats 3200000 in
theorem ccheck_short (A : Option Addr) (cap : Nat) (l : List PairT) (w : World) (hI : Prs w A l) (hn : l.length ≤ 256) (hf : Fit2 l) :
    Calls Tryd.prog 53 #[.slice A l.length cap] w fun e w' => e = .returned (.tuple #[.int .i64 ((tabN l).1 : Int), .int .i64 ((tabN l).2 : Int)]) ∧ Below w.heap.size w w' := by
  have hmm := @run_makeMap Tryd.prog
  have HI := Lib.hid hI
  have HF := Lib.hid hf
  have HN := Lib.hid hn
  have t : decide ((256 : Int) < (l.length : Int)) = false := by simp; omega
  have hn' : (l.length : Int) < 1000 := by omega
  clear hI hf hn
  generalize hlen : l.length = len at *
  have HLEN := Lib.hid hlen
  clear hlen
  go_enter Tryd.func53, Tryd.ntmps53
  go_wp2
  clear t
  go_loopw [13] (fun i wr => ∃ k : Nat, k ≤ len ∧ i = .int .i64 (k : Int) ∧ (∀ j, j < k → (duoAt l j).1 ∉ froms (l.take j)) ∧ Ahead wr w.heap.size (froms (l.take k)) ∧ Below w.heap.size w wr) (fun i _ => len - (intOf i).toNat)
  case atStart => exact ⟨0, Nat.zero_le _, rfl, fun j hj => by omega, ahead_new w, below_al _ _⟩
  case round =>
    obtain ⟨k, hk, rfl, hno, hseen, hb⟩ := hrel
    have HNO := Lib.hid hno
    have HB := Lib.hid hb
    have HS := Lib.hid hseen
    clear hno hb hseen
    by_cases hlt : k < len
    · have hkl : k < l.length := by have := HLEN.out; omega
      obtain ⟨a, s, v, rfl, hx, hc, hd⟩ := (HI.out.below HB.out).at_ hkl
      have hfk := HF.out.at_ hkl
      have HTS := Lib.hid (froms_step hkl)
      have HTL := Lib.hid (froms_take_len (l := l) (k := k) (by omega))
      have HBD := Lib.hid (fun h => tab_bad (l := l) (k := k) (by rw [HLEN.out]; exact HN.out) hkl HNO.out h)
      rw [hx] at hfk HTS HBD
      dsimp only at hfk HTS HBD
      have HX := Lib.hid hx
      have HZ := Lib.hid hfk.1
      clear hx hfk hkl
      have HS1 := Lib.hid (HS.out.below (below_al wr (.cells #[.string s, .string v] 62)))
      have hlk := ahead_look HS1.out HZ.out
      by_cases hm : s ∈ froms (l.take k)
      · rw [memB_yes hm] at hlk
        have HE := Lib.hid (HBD.out hm)
        clear hm
        go_wp2
        go_ret2
        exact ⟨by rw [HE.out]; rfl, hbt HB.out (below_al _ _)⟩
      · have HM := Lib.hid hm
        rw [memB_no hm] at hlk
        clear hm
        obtain ⟨w3, hrun, hS3, hg3⟩ := ahead_put HS1.out HZ.out (by have := HTL.out; omega)
        have HS3 := Lib.hid hS3
        have HB3 := Lib.hid ((hbt HB.out (below_al wr (.cells #[.string s, .string v] 62))).grown hg3 (hbt HB.out (below_al wr _)).size (fun q hq => by cases hq; exact Nat.le_refl _))
        clear hS3 hg3
        go_wp2
        go_roundw
        case rel =>
          refine ⟨k + 1, by omega, by go_num, fun j hj => ?_, by rw [HTS.out]; exact HS3.out, HB3.out⟩
          rcases Nat.lt_or_ge j k with h | h
          · exact HNO.out j h
          · obtain rfl : j = k := by omega
            rw [HX.out]; exact HM.out
        case measure => simp [intOf]; omega
    · have HC := Lib.hid (tab_ok (l := l) (by rw [HLEN.out]; exact HN.out) (fun j hj => HNO.out j (by have := HLEN.out; omega)))
      go_wp2
      go_ret2
      exact ⟨by rw [HC.out]; rfl, HB.out⟩
theorem ccheck_any (A : Option Addr) (cap : Nat) (l : List PairT) (w : World) (hI : Prs w A l) (hm : l.length ≤ maxLen) (hf : Fit2 l) :
    Calls Tryd.prog 53 #[.slice A l.length cap] w fun e w' => e = .returned (.tuple #[.int .i64 ((tabN l).1 : Int), .int .i64 ((tabN l).2 : Int)]) ∧ Below w.heap.size w w' := by
  by_cases h : 256 < l.length
  · rw [tab_great h]; exact ccheck_long A cap _ w h hm
  · exact ccheck_short A cap l w hI (by omega) hf
set_option maxRecDepth 100000 in
set_option maxHeartbeats 1600000 in
theorem crcheck_long (A : Option Addr) (cap n : Nat) (w : World) (hn : 256 < n) (hm : n ≤ maxLen) :
    Calls Tryd.prog 57 #[.slice A n cap] w fun e w' => e = .returned (.tuple #[.int .i64 5, .int .i64 256]) ∧ w = w' := by
  unfold maxLen at hm
  have t : decide ((256 : Int) < (n : Int)) = true := by simp; omega
  clear hn
  go_enter Tryd.func57, Tryd.ntmps57
  go_wp2
  go_ret2
  exact ⟨rfl, rfl⟩
set_option maxRecDepth 100000 in
set_option maxHeartbeats 3200000 in
theorem crcheck_short (A : Option Addr) (cap : Nat) (l : List PairT) (w : World) (hI : Prs w A l) (hn : l.length ≤ 256) :
    Calls Tryd.prog 57 #[.slice A l.length cap] w fun e w' => e = .returned (.tuple #[.int .i64 ((tabN l).1 : Int), .int .i64 ((tabN l).2 : Int)]) ∧ w = w' := by
  have HI := Lib.hid hI
  have HN := Lib.hid hn
  have HH := Lib.hid (fun (k : Nat) (t : ByteArray) (h : k ≤ l.length) => cfind_any A cap l k t w hI h (by omega))
  have t : decide ((256 : Int) < (l.length : Int)) = false := by simp; omega
  have hn' : (l.length : Int) < 1000 := by omega
  clear hI hn
  generalize hlen : l.length = len at *
  have HLEN := Lib.hid hlen
  clear hlen
  go_enter Tryd.func57, Tryd.ntmps57
  go_wp2
  clear t
  go_loop [4] (fun i => ∃ k : Nat, k ≤ len ∧ i = .int .i64 (k : Int) ∧ (∀ j, j < k → (duoAt l j).1 ∉ froms (l.take j))) (fun i => len - (intOf i).toNat)
  case atStart => exact ⟨0, Nat.zero_le _, rfl, fun j hj => by omega⟩
  case round =>
    obtain ⟨k, hk, rfl, hno⟩ := hrel
    have HNO := Lib.hid hno
    clear hno
    by_cases hlt : k < len
    · have hkl : k < l.length := by have := HLEN.out; omega
      obtain ⟨a, s, v, rfl, hx, hc, hd⟩ := HI.out.at_ hkl
      have HBD := Lib.hid (fun h => tab_bad (l := l) (k := k) (by rw [HLEN.out]; exact HN.out) hkl HNO.out h)
      rw [hx] at HBD
      dsimp only at HBD
      have HX := Lib.hid hx
      have HC := Lib.hid (HH.out k s (by omega))
      clear hx hkl
      by_cases hm : s ∈ froms (l.take k)
      · have HE := Lib.hid (HBD.out hm)
        have hj := fstJ_ahead.2 hm
        clear hm
        generalize fstJ (l.take k) s = q at *
        have hq : decide ((0 : Int) ≤ q) = true := by simpa using hj
        clear hj
        go_wp2_with fail
        refine HC.out.mono ?_
        rintro e w1 ⟨rfl, rfl⟩
        go_wp2
        go_ret2
        exact ⟨by rw [HE.out]; rfl, rfl⟩
      · have HM := Lib.hid hm
        have hj : ¬ 0 ≤ fstJ (l.take k) s := fun h => hm (fstJ_ahead.1 h)
        clear hm
        generalize fstJ (l.take k) s = q at *
        have hq : decide ((0 : Int) ≤ q) = false := by simpa using hj
        clear hj
        go_wp2_with fail
        refine HC.out.mono ?_
        rintro e w1 ⟨rfl, rfl⟩
        go_wp2
        go_round
        case rel =>
          refine ⟨k + 1, by omega, by go_num, fun j hj => ?_⟩
          rcases Nat.lt_or_ge j k with h | h
          · exact HNO.out j h
          · obtain rfl : j = k := by omega
            rw [HX.out]; exact HM.out
        case measure => simp [intOf]; omega
    · have HC := Lib.hid (tab_ok (l := l) (by rw [HLEN.out]; exact HN.out) (fun j hj => HNO.out j (by have := HLEN.out; omega)))
      go_wp2
      go_ret2
      exact ⟨by rw [HC.out]; rfl, rfl⟩
theorem crcheck_any (A : Option Addr) (cap : Nat) (l : List PairT) (w : World) (hI : Prs w A l) (hm : l.length ≤ maxLen) :
    Calls Tryd.prog 57 #[.slice A l.length cap] w fun e w' => e = .returned (.tuple #[.int .i64 ((tabN l).1 : Int), .int .i64 ((tabN l).2 : Int)]) ∧ w = w' := by
  by_cases h : 256 < l.length
  · rw [tab_great h]; exact crcheck_long A cap _ w h hm
  · exact crcheck_short A cap l w hI (by omega)

end Go.Proofs.YtbhlennolghjmaaDoor

/-
  What Turn and the document's Turn and Copy answer: a row of the call's own; for every list of up to 5,000,000 pairs, in every world.
-/
namespace Go.Proofs.YtbhlennolghjmaaDoor
open Go.RowKit

/-- A row of the call's own is a slice. -/
theorem pown_slice {w : World} {base e size n : Nat} {v : Value} {xs : List Value} (h : w.ownsRow base e size v n xs) : ∃ A c, v = .slice A n c := by
  rcases h.2 with ⟨hv, h0⟩ | ⟨g, cap, cur, hv, _⟩
  · subst h0; exact ⟨none, 0, hv⟩
  · exact ⟨some ⟨g, 0, none⟩, cap, hv⟩
set_option maxRecDepth 100000 in
set_option maxHeartbeats 1600000 in
theorem ccopy_any (A : Option Addr) (cap : Nat) (l : List PairT) (w : World) (hI : Prs w A l) (hn : l.length ≤ 5000000) :
    Calls Tryd.prog 30 #[.slice A l.length cap] w fun e w' => ∃ A' c', e = .returned (.slice A' l.length c') ∧ w'.ownsRow w.heap.size 62 2 (.slice A' l.length c') l.length (duosC l) ∧ Below w.heap.size w w' := by
  have HI := Lib.hid hI
  clear hI
  generalize hlen : l.length = len at *
  have HLEN := Lib.hid hlen
  clear hlen
  go_enter Tryd.func30, Tryd.ntmps30
  go_wp2_with (at_builtin; refine wpList_copy_prs rfl _ _ rfl w rfl A cap len rfl l HLEN.out HI.out (by omega) ?_; intro A' c' w1 hown1 hb1)
  have HO1 := Lib.hid hown1
  have HB1 := Lib.hid hb1
  clear hown1 hb1
  go_wp2
  go_ret
  exact ⟨A', c', rfl, HO1.out, HB1.out⟩
set_option maxRecDepth 100000 in
set_option maxHeartbeats 3200000 in
theorem cturn_own (A : Option Addr) (cap : Nat) (l : List PairT) (w : World) (hI : Prs w A l) (hn : l.length ≤ 5000000) :
    Calls Tryd.prog 38 #[.slice A l.length cap] w fun e w' => ∃ A' c', e = .returned (.slice A' l.length c') ∧ w'.ownsRow w.heap.size 62 2 (.slice A' l.length c') l.length (duosC (turnL l)) ∧ Below w.heap.size w w' := by
  obtain ⟨i0, hi, hz0, hz1, hz2⟩ := info_parts Tryd.infoPair
  have HI := Lib.hid hI
  clear hI
  generalize hlen : l.length = len at *
  have HLEN := Lib.hid hlen
  clear hlen
  go_enter Tryd.func38, Tryd.ntmps38
  go_wp2_with (at_make; refine wpList_make_own _ rfl _ _ 22 rfl w.heap.size 62 i0 (.agg #[.string ⟨#[]⟩, .string ⟨#[]⟩]) 2 Tryd.underlying22 hi hz0 hz1 _ _ _ len rfl rfl (by omega) ?b2 ?b3 ?b4 ?_)
  case b2 => rw [hz2]; omega
  case b3 => unfold maxLen; omega
  case b4 => exact Nat.le_refl _
  intro w0 hown0 hgrow0
  have HO0 := Lib.hid hown0
  have HB0 := Lib.hid ((Below.refl w.heap.size w).grown hgrow0 (Nat.le_refl _) (fun q hq => by cases hq))
  clear hown0 hgrow0
  go_wp2
  go_loopw [3, 11] (fun v i wr => ∃ k : Nat, k ≤ len ∧ i = .int .i64 (k : Int) ∧ wr.ownsRow w.heap.size 62 2 v k (duosC (turnL (l.take k))) ∧ Below w.heap.size w wr) (fun _ i _ => len - (intOf i).toNat)
  case atStart => exact ⟨0, Nat.zero_le _, rfl, HO0.out, HB0.out⟩
  case round =>
    obtain ⟨k, hk, rfl, hown, hb⟩ := hrel
    have HO := Lib.hid hown
    have HB := Lib.hid hb
    clear hown hb HO0 HB0
    by_cases hlt : k < len
    · have hkl : k < l.length := by have := HLEN.out; omega
      obtain ⟨a, s, t, rfl, hx, hc, hd⟩ := (HI.out.below HB.out).at_ hkl
      have HST := Lib.hid (turn_step hkl)
      rw [hx] at HST
      have HO1 := Lib.hid ((HO.out.alloc (.cells #[.string s, .string t] 62)).alloc (.cells #[.string t, .string s] 62))
      have HB1 := Lib.hid (hbt (hbt HB.out (below_al wr (.cells #[.string s, .string t] 62))) (below_al _ (.cells #[.string t, .string s] 62)))
      have HZ1 : Hid (w.heap.size ≤ ((wr.alloc (.cells #[.string s, .string t] 62)).alloc (.cells #[.string t, .string s] 62)).heap.size) := HB1.out.size
      have HN1 := Lib.hid (heap_al (wr.alloc (.cells #[.string s, .string t] 62)) (.cells #[.string t, .string s] 62) (wr.heap.size + 1) (by simp))
      clear hx hkl
      go_wp2_with (at_builtin; refine wpList_append_lies _ rfl _ _ _ rfl w.heap.size 62 i0 _ 2 32 Tryd.underlying22 hi hz0 hz1 hz2 rfl (by omega) _ k (duosC (turnL (l.take k))) rfl HO1.out ⟨wr.heap.size + 1, 0, none⟩ 1 1 (duoC (t, s)) rfl rfl (World.news_of_block (cs := #[.string t, .string s]) (t := 62) (fr := (0, 0)) HN1.out) (by simp [duoC, Value.oneCell']) (by omega) (by unfold maxLen; omega) (by omega) HZ1.out (wr.heap.size + 1 + 1) (by simp) ?_; intro g' cap' w4 hown4 hgrow4 hat4 hlt4)
      have HO4 := Lib.hid hown4
      have HB4 := Lib.hid (HB1.out.grown hgrow4 HZ1.out (fun q hq => (HO1.out.lt q hq).1))
      clear hown4 hgrow4 hat4 hlt4
      go_wp2
      go_roundw
      case rel => exact ⟨k + 1, by omega, by go_num, by rw [HST.out, duosC_snoc]; exact HO4.out, HB4.out⟩
      case measure => simp [intOf]; omega
    · have hkl : k = len := by omega
      subst hkl
      have HE : Hid (turnL (l.take k) = turnL l) := by show _ = _; rw [duo_all (by rw [HLEN.out]; exact Nat.le_refl _)]
      rw [HE.out] at HO
      obtain ⟨A', c', rfl⟩ := pown_slice HO.out
      go_wp2
      go_ret
      exact ⟨A', c', rfl, HO.out, HB.out⟩
theorem cturn_any (A : Option Addr) (cap : Nat) (l : List PairT) (w : World) (hI : Prs w A l) (hn : l.length ≤ 5000000) :
    Calls Tryd.prog 38 #[.slice A l.length cap] w fun e w' => ∃ A' c', e = .returned (.slice A' l.length c') ∧ Prs w' A' (turnL l) ∧ Below w.heap.size w w' :=
  (cturn_own A cap l w hI hn).mono fun _ _ ⟨A', c', he, ho, hb⟩ => ⟨A', c', he, prs_row ho (turn_len l).symm, hb⟩
set_option maxRecDepth 100000 in
set_option maxHeartbeats 3200000 in
theorem crturn_own (A : Option Addr) (cap : Nat) (l : List PairT) (w : World) (hI : Prs w A l) (hn : l.length ≤ 5000000) :
    Calls Tryd.prog 39 #[.slice A l.length cap] w fun e w' => ∃ A' c', e = .returned (.slice A' l.length c') ∧ w'.ownsRow w.heap.size 62 2 (.slice A' l.length c') l.length (duosC (turnL l)) ∧ Below w.heap.size w w' := by
  obtain ⟨i0, hi, hz0, hz1, hz2⟩ := info_parts Tryd.infoPair
  have HI := Lib.hid hI
  have HO0 : Hid ((w.alloc (.cells #[] 62)).ownsRow w.heap.size 62 2 (.slice (some ⟨w.heap.size, 0, none⟩) 0 0) 0 []) := World.ownsRow_lit w #[] 0 (Nat.le_refl _) (by unfold maxLen; omega) rfl
  clear hI
  generalize hlen : l.length = len at *
  have HLEN := Lib.hid hlen
  clear hlen
  go_enter Tryd.func39, Tryd.ntmps39
  go_wp2
  go_loopw [3, 4] (fun v i wr => ∃ k : Nat, k ≤ len ∧ i = .int .i64 (k : Int) ∧ wr.ownsRow w.heap.size 62 2 v k (duosC (turnL (l.take k))) ∧ Below w.heap.size w wr) (fun _ i _ => len - (intOf i).toNat)
  case atStart => exact ⟨0, Nat.zero_le _, rfl, HO0.out, below_al _ _⟩
  case round =>
    obtain ⟨k, hk, rfl, hown, hb⟩ := hrel
    have HO := Lib.hid hown
    have HB := Lib.hid hb
    clear hown hb HO0
    by_cases hlt : k < len
    · have hkl : k < l.length := by have := HLEN.out; omega
      obtain ⟨a, s, t, rfl, hx, hc, hd⟩ := (HI.out.below HB.out).at_ hkl
      have HST := Lib.hid (turn_step hkl)
      rw [hx] at HST
      have HC : Hid (∀ u, Below w.heap.size w u → u.cell? (a.add (k * 2)) = some (.string s) ∧ u.cell? ⟨(a.add (k * 2)).block, (a.add (k * 2)).off + 1, none⟩ = some (.string t)) := fun u hu => by
        obtain ⟨a', ha, h1, h2⟩ := HI.out.below hu k hkl
        injection ha with ha
        subst ha
        rw [hx] at h1 h2
        exact ⟨h1, h2⟩
      have HO1 := Lib.hid (HO.out.alloc (.cells #[.string t, .string s] 62))
      have HB1 := Lib.hid (hbt HB.out (below_al wr (.cells #[.string t, .string s] 62)))
      have HZ1 : Hid (w.heap.size ≤ (wr.alloc (.cells #[.string t, .string s] 62)).heap.size) := HB1.out.size
      clear hx hkl hc hd
      go_wp2_with fail
      refine wp_region_noPanic ?_
      refine wp_region_held_drew (S := (fun u => Below w.heap.size w u)) (by kernel_rfl) (HB.out.drew) (fun hS => ?_)
      refine gv 0 (v := ?_) (fun u hu => ?_) hS ?_
      rotate_left
      · ((obtain ⟨c0, c1⟩ := HC.out _ hu); go_simp; try (with_reducible rfl))
      try simp only [puts]
      refine gv 1 (v := ?_) (fun u hu => ?_) hS ?_
      rotate_left
      · ((obtain ⟨c0, c1⟩ := HC.out _ hu); go_simp; try (with_reducible rfl))
      try simp only [puts]
      refine gv 2 (v := ?_) (fun u hu => ?_) hS ?_
      rotate_left
      · ((obtain ⟨c0, c1⟩ := HC.out _ hu); go_simp; try (with_reducible rfl))
      try simp only [puts]
      refine gv 3 (v := ?_) (fun u hu => ?_) hS ?_
      rotate_left
      · ((obtain ⟨c0, c1⟩ := HC.out _ hu); go_simp; try (with_reducible rfl))
      try simp only [puts]
      refine gv 4 (v := ?_) (fun u hu => ?_) hS ?_
      rotate_left
      · ((obtain ⟨c0, c1⟩ := HC.out _ hu); go_simp; try (with_reducible rfl))
      try simp only [puts]
      refine gv 5 (v := ?_) (fun u hu => ?_) hS ?_
      rotate_left
      · ((obtain ⟨c0, c1⟩ := HC.out _ hu); go_simp; try (with_reducible rfl))
      try simp only [puts]
      refine gv 6 (v := ?_) (fun u hu => ?_) hS ?_
      rotate_left
      · ((obtain ⟨c0, c1⟩ := HC.out _ hu); go_simp; try (with_reducible rfl))
      try simp only [puts]
      refine gv 7 (v := ?_) (fun u hu => ?_) hS ?_
      rotate_left
      · ((obtain ⟨c0, c1⟩ := HC.out _ hu); go_simp; try (with_reducible rfl))
      try simp only [puts]
      refine gv 8 (v := ?_) (fun u hu => ?_) hS ?_
      rotate_left
      · ((obtain ⟨c0, c1⟩ := HC.out _ hu); go_simp; try (with_reducible rfl))
      try simp only [puts]
      refine gv 9 (v := ?_) (fun u hu => ?_) hS ?_
      rotate_left
      · ((obtain ⟨c0, c1⟩ := HC.out _ hu); go_simp; try (with_reducible rfl))
      try simp only [puts]
      refine gv 10 (v := ?_) (fun u hu => ?_) hS ?_
      rotate_left
      · ((obtain ⟨c0, c1⟩ := HC.out _ hu); go_simp; try (with_reducible rfl))
      try simp only [puts]
      refine gv 11 (v := ?_) (fun u hu => ?_) hS ?_
      rotate_left
      · ((obtain ⟨c0, c1⟩ := HC.out _ hu); go_simp; try (with_reducible rfl))
      try simp only [puts]
      refine only (i := 12) rfl (by kernel_rfl) (by rfl) (fun K hK => ?_)
      go_simp
      refine hK.out _ _ HB1.out.drew ?_
      clear hK
      try simp only [puts]
      refine only (i := 13) rfl (by kernel_rfl) (by rfl) (fun K hK => ?_)
      refine wp_append_lies _ _ _ _ (by rfl) w.heap.size 62 i0 _ 2 32 Tryd.underlying22 hi hz0 hz1 hz2 rfl (by omega) _ k (duosC (turnL (l.take k))) (by rfl) (HO1.out.drew) ⟨wr.heap.size, 0, none⟩ 1 1 (duoC (t, s)) (by rfl) (by rfl) (World.news_of_block (cs := #[.string t, .string s]) (t := 62) (fr := (0, 0)) (heap_alloc_new wr _)) (by simp [duoC, Value.oneCell']) (by omega) (by unfold maxLen; omega) (by omega) (by exact HZ1.out) (wr.heap.size + 1) (by simp) ?_
      intro g' cap' w4 hown4 hgrow4 hat4 hlt4
      have HO4 := Lib.hid hown4
      have HB4 := Lib.hid (HB1.out.drew.grown hgrow4 (by exact HZ1.out) (fun q hq => (HO1.out.lt q hq).1))
      clear hown4 hgrow4 hat4 hlt4
      refine hK.out _ _ HB4.out ?_
      clear hK
      try simp only [puts]
      clear hS
      have hS : Below w.heap.size w w4 := HB4.out
      refine gv 14 (v := ?_) (fun u hu => ?_) hS ?_
      rotate_left
      · ((obtain ⟨c0, c1⟩ := HC.out _ hu); go_simp; try (with_reducible rfl))
      try simp only [puts]
      refine wpAnyH_done (by kernel_rfl) (NoPanic.normal ?_) _
      clear hS
      go_wp2
      go_roundw
      case rel => exact ⟨k + 1, by omega, by go_num, by rw [HST.out, duosC_snoc]; exact HO4.out, HB4.out⟩
      case measure => simp [intOf]; omega
    · have hkl : k = len := by omega
      subst hkl
      have HE : Hid (turnL (l.take k) = turnL l) := by show _ = _; rw [duo_all (by rw [HLEN.out]; exact Nat.le_refl _)]
      rw [HE.out] at HO
      obtain ⟨A', c', rfl⟩ := pown_slice HO.out
      go_wp2
      go_ret
      exact ⟨A', c', rfl, HO.out, HB.out⟩
theorem crturn_any (A : Option Addr) (cap : Nat) (l : List PairT) (w : World) (hI : Prs w A l) (hn : l.length ≤ 5000000) :
    Calls Tryd.prog 39 #[.slice A l.length cap] w fun e w' => ∃ A' c', e = .returned (.slice A' l.length c') ∧ Prs w' A' (turnL l) ∧ Below w.heap.size w w' :=
  (crturn_own A cap l w hI hn).mono fun _ _ ⟨A', c', he, ho, hb⟩ => ⟨A', c', he, prs_row ho (turn_len l).symm, hb⟩

end Go.Proofs.YtbhlennolghjmaaDoor

/-
  What Bijective and the document's Bijective answer: for every list, in every world.
-/
namespace Go.Proofs.YtbhlennolghjmaaDoor
open Go.RowKit

theorem turn_maxlen {l : List PairT} (h : l.length ≤ maxLen) : (turnL l).length ≤ maxLen := by rw [turn_len]; exact h
set_option maxRecDepth 100000 in
set_option maxHeartbeats 1600000 in
theorem cbij_any (A : Option Addr) (cap : Nat) (l : List PairT) (w : World) (hI : Prs w A l) (hm : l.length ≤ maxLen) (hf : Fit2 l) :
    Calls Tryd.prog 28 #[.slice A l.length cap] w fun e w' => e = .returned (.bool (bijB l)) ∧ Below w.heap.size w w' := by
  have HC := Lib.hid (ccheck_any A cap l w hI hm hf)
  by_cases h : (tabN l).1 = 0
  · have hl := (tab_zero.1 h).1
    have HT := Lib.hid (fun W h => cturn_any A cap l W h (by omega))
    have HD := Lib.hid (fun W B c h => ccheck_any B c (turnL l) W h (turn_maxlen hm) hf.turn)
    have HR : Hid (bijB l = decide ((tabN (turnL l)).1 = 0)) := by show _ = _; simp [bijB, h]
    have HI := Lib.hid hI
    rw [turn_len] at HD
    rw [HR.out]
    rw [h] at HC
    clear h hI hm hf HR
    generalize (tabN l).2 = y at *
    generalize (tabN (turnL l)).1 = q at *
    generalize (tabN (turnL l)).2 = z at *
    generalize l.length = len at *
    have hq : ((q : Int) == 0) = decide (q = 0) := by by_cases h : q = 0 <;> simp [h]
    rw [← hq]
    clear hq hl
    go_enter Tryd.func28, Tryd.ntmps28
    go_wp2_with fail
    refine HC.out.mono ?_
    rintro e w1 ⟨rfl, hb1⟩
    have HB1 := Lib.hid hb1
    clear hb1
    go_wp2_with fail
    refine (HT.out _ (HI.out.below HB1.out)).mono ?_
    rintro e w2 ⟨B, c, rfl, hT, hb2⟩
    have HP2 := Lib.hid hT
    have HB2 := Lib.hid (hbt HB1.out hb2)
    clear hT hb2
    go_wp2_with fail
    refine (HD.out _ _ _ HP2.out).mono ?_
    rintro e w3 ⟨rfl, hb3⟩
    have HB3 := Lib.hid (hbt HB2.out hb3)
    clear hb3
    go_wp2
    go_ret
    exact ⟨rfl, HB3.out⟩
  · have HR : Hid (bijB l = false) := by show _ = _; simp [bijB, h]
    rw [HR.out]
    have h' : (((tabN l).1 : Int) != 0) = true := by simp; omega
    generalize (tabN l).1 = x at *
    generalize (tabN l).2 = y at *
    generalize l.length = len at *
    clear h HR hf hm hI
    go_enter Tryd.func28, Tryd.ntmps28
    go_wp2_with fail
    refine HC.out.mono ?_
    rintro e w1 ⟨rfl, hb1⟩
    go_wp2
    go_ret
    exact ⟨rfl, hb1⟩
set_option maxRecDepth 100000 in
set_option maxHeartbeats 1600000 in
theorem crbij_any (A : Option Addr) (cap : Nat) (l : List PairT) (w : World) (hI : Prs w A l) (hl : l.length ≤ 400) :
    Calls Tryd.prog 33 #[.slice A l.length cap] w fun e w' => e = .returned (.bool (bijB l)) ∧ Below w.heap.size w w' := by
  have HC := Lib.hid (crcheck_any A cap l w hI (by unfold maxLen; omega))
  have HT := Lib.hid (fun W h => crturn_any A cap l W h (by omega))
  have HD := Lib.hid (fun W B c h => crcheck_any B c (turnL l) W h (by rw [turn_len]; unfold maxLen; omega))
  have HI := Lib.hid hI
  rw [turn_len] at HD
  clear hI
  have HR : Hid (bijB l = (decide ((tabN l).1 = 0) && decide ((tabN (turnL l)).1 = 0))) := rfl
  rw [HR.out]
  clear HR
  generalize (tabN l).1 = x at *
  generalize (tabN l).2 = y at *
  generalize (tabN (turnL l)).1 = q at *
  generalize (tabN (turnL l)).2 = z at *
  generalize l.length = len at *
  clear hl
  by_cases hx : x = 0
  · subst hx
    have hq : ((q : Int) == 0) = decide (q = 0) := by by_cases h : q = 0 <;> simp [h]
    have HQ := Lib.hid hq
    clear hq
    go_enter Tryd.func33, Tryd.ntmps33
    go_wp2_with fail
    refine HC.out.mono ?_
    rintro e w1 ⟨rfl, rfl⟩
    go_wp2_with fail
    refine (HT.out _ HI.out).mono ?_
    rintro e w2 ⟨B, c, rfl, hT, hb2⟩
    have HP2 := Lib.hid hT
    have HB2 := Lib.hid hb2
    clear hT hb2
    go_wp2_with fail
    refine (HD.out _ _ _ HP2.out).mono ?_
    rintro e w3 ⟨rfl, rfl⟩
    go_wp2
    go_ret
    exact ⟨by rw [← HQ.out]; rfl, HB2.out⟩
  · have hx' : ((x : Int) == 0) = false := by simp; omega
    have HX : Hid ((decide (x = 0) && decide (q = 0)) = false) := by show _ = _; simp [hx]
    rw [HX.out]
    clear hx
    go_enter Tryd.func33, Tryd.ntmps33
    go_wp2_with fail
    refine HC.out.mono ?_
    rintro e w1 ⟨rfl, rfl⟩
    go_wp2_with fail
    refine (HT.out _ HI.out).mono ?_
    rintro e w2 ⟨B, c, rfl, hT, hb2⟩
    have HP2 := Lib.hid hT
    have HB2 := Lib.hid hb2
    clear hT hb2
    go_wp2_with fail
    refine (HD.out _ _ _ HP2.out).mono ?_
    rintro e w3 ⟨rfl, rfl⟩
    go_wp2
    go_ret
    exact ⟨rfl, HB2.out⟩

end Go.Proofs.YtbhlennolghjmaaDoor
