/-
  Texts of one family, laid together: SchMath, SchOf, SchCheck, SchFind, SchSet, SchCopy.
-/
import Derived.Test.YtnbllngljgmebaaDoorPackSpc
import Derived.Test.YtnbllngljgmebaaDoorFldMath
import Derived.Test.YtnbllngljgmebaaDoorPackBase
import Derived.Deep.AppendLies
import Derived.Laws.OwnMore
import Derived.Test.YtnbllngljgmebaaDoorPackFld

/-
  Schemas, over lists of specs alone: what is wrong with one, which spec a field has, which numbers there are, which specs are left. (Plain functions.)
-/
namespace Go.Proofs.YtnbllngljgmebaaDoor
open Go.Lib

abbrev Sp := Int × Int × Int × Int × Int
def noSp : Sp := (0, 0, 0, 0, 0)
def spAt (l : List Sp) (i : Nat) : Sp := l.getD i noSp
def spkS (x : Sp) : Int := spk x.1 x.2.1 x.2.2.1 x.2.2.2.1 x.2.2.2.2
def nosOf (l : List Sp) : List Int := l.map Prod.fst

theorem spAt_get {l : List Sp} {i : Nat} (h : i < l.length) : spAt l i = l[i] := by simp [spAt, List.getD, h]
theorem spAt_zero (x : Sp) (r : List Sp) : spAt (x :: r) 0 = x := rfl
theorem spAt_succ (x : Sp) (r : List Sp) (i : Nat) : spAt (x :: r) (i + 1) = spAt r i := by simp [spAt, List.getD]
theorem drop_sp {l : List Sp} {k : Nat} (h : k < l.length) : l.drop k = spAt l k :: l.drop (k + 1) := by rw [spAt_get h]; exact List.drop_eq_getElem_cons h
theorem take_sp {l : List Sp} {k : Nat} (h : k < l.length) : l.take (k + 1) = l.take k ++ [spAt l k] := by rw [spAt_get h, List.take_succ_eq_append_getElem h]
theorem drop_end {l : List Sp} {k : Nat} (h : l.length ≤ k) : l.drop k = [] := List.drop_eq_nil_of_le h
theorem nos_snoc (l : List Sp) (x : Sp) : nosOf (l ++ [x]) = nosOf l ++ [x.1] := by simp [nosOf]
theorem nos_length (l : List Sp) : (nosOf l).length = l.length := by simp [nosOf]

/-- What is wrong with a list of specs, from the place i on, behind the number last. -/
def schL : Int → Nat → List Sp → Int × Int
  | _, _, [] => (0, 0)
  | last, i, x :: r => if spkS x ≠ 0 then (spkS x, (i : Int)) else if x.1 ≤ last then (11, (i : Int)) else schL x.1 (i + 1) r
theorem schL_bad {last : Int} {i : Nat} {x : Sp} {r : List Sp} (h : spkS x ≠ 0) : schL last i (x :: r) = (spkS x, (i : Int)) := by rw [schL, if_pos h]
theorem schL_order {last : Int} {i : Nat} {x : Sp} {r : List Sp} (h : spkS x = 0) (h2 : x.1 ≤ last) : schL last i (x :: r) = (11, (i : Int)) := by rw [schL, if_neg (by simp [h]), if_pos h2]
theorem schL_ok {last : Int} {i : Nat} {x : Sp} {r : List Sp} (h : spkS x = 0) (h2 : ¬ x.1 ≤ last) : schL last i (x :: r) = schL x.1 (i + 1) r := by rw [schL, if_neg (by simp [h]), if_neg h2]
/-- What is wrong with a schema, and with which of its specs. -/
def schN (st v : Int) (l : List Sp) : Int × Int := if st ≠ 1 ∧ st ≠ 2 then (1, -1) else if v < 0 ∨ 9 < v then (7, -1) else schL 0 0 l
theorem schN_style {st v : Int} {l : List Sp} (h : st ≠ 1 ∧ st ≠ 2) : schN st v l = (1, -1) := by unfold schN; rw [if_pos h]
theorem schN_version {st v : Int} {l : List Sp} (h : ¬ (st ≠ 1 ∧ st ≠ 2)) (h2 : v < 0 ∨ 9 < v) : schN st v l = (7, -1) := by unfold schN; rw [if_neg h, if_pos h2]
theorem schN_list {st v : Int} {l : List Sp} (h : ¬ (st ≠ 1 ∧ st ≠ 2)) (h2 : ¬ (v < 0 ∨ 9 < v)) : schN st v l = schL 0 0 l := by unfold schN; rw [if_neg h, if_neg h2]

/-- Right specs, by rising numbers. -/
def Rise : Int → List Sp → Prop
  | _, [] => True
  | last, x :: r => spkS x = 0 ∧ last < x.1 ∧ Rise x.1 r
theorem schL_zero : ∀ (l : List Sp) (last : Int) (i : Nat), (schL last i l).1 = 0 ↔ Rise last l
  | [], last, i => by simp [schL, Rise]
  | x :: r, last, i => by
    by_cases h : spkS x = 0
    · by_cases h2 : x.1 ≤ last
      · rw [schL_order h h2]
        simp only [Rise]
        constructor
        · intro e; exact absurd e (by decide)
        · intro e; omega
      · rw [schL_ok h h2, schL_zero r x.1 (i + 1)]
        simp only [Rise]
        constructor
        · intro e; exact ⟨h, by omega, e⟩
        · intro e; exact e.2.2
    · rw [schL_bad h]
      simp only [Rise]
      constructor
      · intro e; exact absurd e h
      · intro e; exact absurd e.1 h
theorem Rise.weak : ∀ {l : List Sp} {a b : Int}, Rise a l → b ≤ a → Rise b l
  | [], _, _, _, _ => trivial
  | _ :: _, _, _, h, hb => ⟨h.1, by have := h.2.1; omega, h.2.2⟩
theorem Rise.filter (p : Sp → Bool) : ∀ {l : List Sp} {a : Int}, Rise a l → Rise a (l.filter p)
  | [], _, _ => trivial
  | x :: r, a, h => by
    rw [List.filter_cons]
    split
    · exact ⟨h.1, h.2.1, Rise.filter p h.2.2⟩
    · exact (Rise.filter p h.2.2).weak (by have := h.2.1; omega)
theorem right_filter {st v : Int} {l : List Sp} (p : Sp → Bool) (h : (schN st v l).1 = 0) : (schN st v (l.filter p)).1 = 0 := by
  by_cases h1 : st ≠ 1 ∧ st ≠ 2
  · rw [schN_style h1] at h; exact absurd h (by decide)
  by_cases h2 : v < 0 ∨ 9 < v
  · rw [schN_version h1 h2] at h; exact absurd h (by decide)
  rw [schN_list h1 h2] at h ⊢
  rw [schL_zero] at h ⊢
  exact h.filter p
theorem right_rise {st v : Int} {l : List Sp} (h : (schN st v l).1 = 0) : Rise 0 l := by
  by_cases h1 : st ≠ 1 ∧ st ≠ 2
  · rw [schN_style h1] at h; exact absurd h (by decide)
  by_cases h2 : v < 0 ∨ 9 < v
  · rw [schN_version h1 h2] at h; exact absurd h (by decide)
  rw [schN_list h1 h2, schL_zero] at h
  exact h
theorem Rise.above : ∀ {l : List Sp} {a : Int}, Rise a l → ∀ x ∈ l, a < x.1
  | [], _, _, x, hx => by simp at hx
  | y :: r, a, h, x, hx => by
    rcases List.mem_cons.1 hx with rfl | hx
    · exact h.2.1
    · have := Rise.above h.2.2 x hx
      have := h.2.1
      omega
theorem Rise.right : ∀ {l : List Sp} {a : Int}, Rise a l → ∀ x ∈ l, spkS x = 0
  | [], _, _, x, hx => by simp at hx
  | y :: r, a, h, x, hx => by
    rcases List.mem_cons.1 hx with rfl | hx
    · exact h.1
    · exact Rise.right h.2.2 x hx
theorem spk_no {n c f lo hi : Int} (h : spk n c f lo hi = 0) : 2 ≤ n ∧ n ≤ 128 := by
  by_cases h1 : n < 2 ∨ 128 < n
  · rw [spk_arg h1] at h; exact absurd h (by decide)
  · omega
theorem Rise.most {l : List Sp} {a : Int} (h : Rise a l) : ∀ x ∈ l, 2 ≤ x.1 ∧ x.1 ≤ 128 := fun x hx => spk_no (h.right x hx)

/-- Which spec a field has: its place; -1: none. -/
def fndI (no : Int) : Nat → List Sp → Int
  | _, [] => -1
  | i, x :: r => if x.1 = no then (i : Int) else fndI no (i + 1) r
/-- The spec itself. -/
def fndP (no : Int) : List Sp → Sp × Bool
  | [] => (noSp, false)
  | x :: r => if x.1 = no then (x, true) else fndP no r
theorem fndI_hit {no : Int} {i : Nat} {x : Sp} {r : List Sp} (h : x.1 = no) : fndI no i (x :: r) = (i : Int) := by rw [fndI, if_pos h]
theorem fndI_miss {no : Int} {i : Nat} {x : Sp} {r : List Sp} (h : x.1 ≠ no) : fndI no i (x :: r) = fndI no (i + 1) r := by rw [fndI, if_neg h]
theorem fndP_hit {no : Int} {x : Sp} {r : List Sp} (h : x.1 = no) : fndP no (x :: r) = (x, true) := by rw [fndP, if_pos h]
theorem fndP_miss {no : Int} {x : Sp} {r : List Sp} (h : x.1 ≠ no) : fndP no (x :: r) = fndP no r := by rw [fndP, if_neg h]
theorem fnd_rel (no : Int) : ∀ (l : List Sp) (i : Nat), (fndP no l = (noSp, false) ∧ fndI no i l = -1) ∨ (∃ k, k < l.length ∧ fndI no i l = ((i + k : Nat) : Int) ∧ fndP no l = (spAt l k, true))
  | [], i => .inl ⟨rfl, rfl⟩
  | x :: r, i => by
    by_cases h : x.1 = no
    · exact .inr ⟨0, by simp, by rw [fndI_hit h]; rfl, by rw [fndP_hit h]; rfl⟩
    · rw [fndI_miss h, fndP_miss h]
      rcases fnd_rel no r (i + 1) with h1 | ⟨k, h1, h2, h3⟩
      · exact .inl h1
      · exact .inr ⟨k + 1, by simp; omega, by rw [h2]; congr 1; omega, by rw [h3, spAt_succ]⟩
theorem Rise.find : ∀ {l : List Sp} {a : Int}, Rise a l → ∀ k, k < l.length → fndP (spAt l k).1 l = (spAt l k, true)
  | [], _, _, k, hk => by simp at hk
  | x :: r, a, h, 0, _ => fndP_hit rfl
  | x :: r, a, h, k + 1, hk => by
    have hk' : k < r.length := by simpa using hk
    have hab := Rise.above h.2.2 (spAt r k) (by rw [spAt_get hk']; exact List.getElem_mem hk')
    rw [spAt_succ, fndP_miss (by omega)]
    exact Rise.find h.2.2 k hk'

/-- How many numbers a set of rising ones has. -/
def RiseI : Int → List Int → Prop
  | _, [] => True
  | a, x :: r => a < x ∧ RiseI x r
theorem RiseI.above : ∀ {l : List Int} {a : Int}, RiseI a l → ∀ x ∈ l, a < x
  | [], _, _, x, hx => by simp at hx
  | y :: r, a, h, x, hx => by
    rcases List.mem_cons.1 hx with rfl | hx
    · exact h.1
    · have := RiseI.above h.2 x hx
      have := h.1
      omega
theorem Rise.nos : ∀ {l : List Sp} {a : Int}, Rise a l → RiseI a (nosOf l)
  | [], _, _ => trivial
  | _ :: _, _, h => ⟨h.2.1, Rise.nos h.2.2⟩
theorem count_rise : ∀ (d a : Nat) (l : List Int), RiseI ((a : Int) - 1) l → (∀ x ∈ l, x < ((a + d : Nat) : Int)) → ((List.range' a d).filter (fun k : Nat => decide ((k : Int) ∈ l))).length = l.length
  | 0, a, [], _, _ => by simp
  | 0, a, x :: r, h1, h2 => by
    have := h1.1
    have := h2 x (by simp)
    omega
  | d + 1, a, [], _, _ => by simp
  | d + 1, a, x :: r, h1, h2 => by
    have hx := h1.1
    rw [List.range'_succ, List.filter_cons]
    by_cases e : x = (a : Int)
    · have hm : decide ((a : Int) ∈ x :: r) = true := by simp [e]
      rw [if_pos hm, List.length_cons, List.length_cons]
      congr 1
      have ih := count_rise d (a + 1) r (by rw [show ((a + 1 : Nat) : Int) - 1 = x by omega]; exact h1.2) (fun y hy => by have := h2 y (by simp [hy]); omega)
      rw [← ih]
      congr 1
      apply List.filter_congr
      intro k hk
      rw [List.mem_range'_1] at hk
      have hk2 : (k : Int) ≠ x := by omega
      simp [hk2]
    · have hm : ¬ decide ((a : Int) ∈ x :: r) = true := by
        intro hc
        have hc := of_decide_eq_true hc
        rcases List.mem_cons.1 hc with h | h
        · omega
        · have := RiseI.above h1.2 _ h
          omega
      rw [if_neg hm]
      exact count_rise d (a + 1) (x :: r) ⟨by omega, h1.2⟩ (fun y hy => by have := h2 y hy; omega)
theorem rise_len {l : List Sp} (h : Rise 0 l) : onesCount (ofH (nosOf l)) + onesCount (ofL (nosOf l)) = l.length := by
  rw [← listN_len, ← nos_length l, ← count_rise 128 1 (nosOf l) h.nos (fun x hx => by
    simp only [nosOf, List.mem_map] at hx
    obtain ⟨y, hy, rfl⟩ := hx
    have := h.most y hy
    omega)]
  unfold listN
  congr 1
  apply List.filter_congr
  intro k hk
  rw [List.mem_range'_1] at hk
  rw [has_of, decide_eq_decide]
  exact ⟨fun e => e.1, fun e => ⟨e, by omega, by omega⟩⟩
theorem rise_all {l : List Sp} (h : Rise 0 l) : l.filter (fun x => hasN (ofH (nosOf l)) (ofL (nosOf l)) x.1) = l := by
  apply List.filter_eq_self.2
  intro x hx
  have := h.most x hx
  rw [has_of]
  exact decide_eq_true ⟨List.mem_map_of_mem hx, by omega, by omega⟩

/-- The specs that are left. -/
def keepL (h lo : Nat) (l : List Sp) : List Sp := l.filter (fun x => hasN h lo x.1)
theorem keep_snoc (h lo : Nat) (l : List Sp) (x : Sp) : keepL h lo (l ++ [x]) = keepL h lo l ++ (if hasN h lo x.1 = true then [x] else []) := by
  unfold keepL
  rw [List.filter_append, List.filter_cons, List.filter_nil]
theorem keep_length (h lo : Nat) (l : List Sp) : (keepL h lo l).length ≤ l.length := List.length_filter_le _ _
theorem keep_part (h lo : Nat) (l : List Sp) (k : Nat) : (keepL h lo (l.take k)).length ≤ l.length := Nat.le_trans (keep_length _ _ _) (by simp; omega)
theorem of_nos {l : List Sp} {k : Nat} (hk : k < l.length) : ofH (nosOf (l.take (k + 1))) = ofH (nosOf (l.take k)) ||| aH (spAt l k).1 ∧ ofL (nosOf (l.take (k + 1))) = ofL (nosOf (l.take k)) ||| aL (spAt l k).1 := by
  rw [take_sp hk, nos_snoc]
  exact of_snoc _ _

theorem sp_ext {l m : List Sp} (hlen : l.length = m.length) (h : ∀ j, j < l.length → spAt l j = spAt m j) : l = m := by
  apply List.ext_getElem hlen
  intro i h1 h2
  have := h i h1
  rw [spAt_get h1, spAt_get h2] at this
  exact this
/-- Are two schemas the same? -/
def sameS (st v : Int) (l : List Sp) (st' v' : Int) (l' : List Sp) : Bool := decide (st = st' ∧ v = v' ∧ l = l')
theorem same_comm (st v : Int) (l : List Sp) (st' v' : Int) (l' : List Sp) : sameS st v l st' v' l' = sameS st' v' l' st v l := by
  unfold sameS
  rw [decide_eq_decide]
  constructor
  · rintro ⟨h1, h2, h3⟩; exact ⟨h1.symm, h2.symm, h3.symm⟩
  · rintro ⟨h1, h2, h3⟩; exact ⟨h1.symm, h2.symm, h3.symm⟩
theorem same_refl (st v : Int) (l : List Sp) : sameS st v l st v l = true := by simp [sameS]

end Go.Proofs.YtnbllngljgmebaaDoor

/-
  Slices of specs: one that is read, a row of the call's own, a copy; a schema's block.
-/
namespace Go.Proofs.YtnbllngljgmebaaDoor
open Go.RowKit

def spC (x : Sp) : List Value := [.int .i64 x.1, .int .i64 x.2.1, .int .i64 x.2.2.1, .int .i64 x.2.2.2.1, .int .i64 x.2.2.2.2]
def spsC (l : List Sp) : List Value := l.flatMap spC
abbrev spV (x : Sp) : Value := .agg #[.int .i64 x.1, .int .i64 x.2.1, .int .i64 x.2.2.1, .int .i64 x.2.2.2.1, .int .i64 x.2.2.2.2]
/-- The five cells of a spec at an address. -/
def SpAt (w : World) (p : Addr) (x : Sp) : Prop :=
  w.cell? p = some (.int .i64 x.1) ∧ w.cell? ⟨p.block, p.off + 1, none⟩ = some (.int .i64 x.2.1) ∧ w.cell? ⟨p.block, p.off + 2, none⟩ = some (.int .i64 x.2.2.1) ∧
  w.cell? ⟨p.block, p.off + 3, none⟩ = some (.int .i64 x.2.2.2.1) ∧ w.cell? ⟨p.block, p.off + 4, none⟩ = some (.int .i64 x.2.2.2.2)
/-- A slice that holds these specs. -/
def Spl (w : World) (A : Option Addr) (l : List Sp) : Prop := ∀ i, i < l.length → ∃ a, A = some a ∧ SpAt w (a.add (i * 5)) (spAt l i)
theorem Spl.below {w w' : World} {A : Option Addr} {l : List Sp} (h : Spl w A l) (hb : Below w.heap.size w w') : Spl w' A l := fun i hi => by
  obtain ⟨a, ha, h0, h1, h2, h3, h4⟩ := h i hi
  refine ⟨a, ha, ?_, ?_, ?_, ?_, ?_⟩
  · rw [hb.cell (block_lt_of_cell h0)]; exact h0
  · rw [hb.cell (block_lt_of_cell h1)]; exact h1
  · rw [hb.cell (block_lt_of_cell h2)]; exact h2
  · rw [hb.cell (block_lt_of_cell h3)]; exact h3
  · rw [hb.cell (block_lt_of_cell h4)]; exact h4
theorem Spl.at_ {w : World} {A : Option Addr} {l : List Sp} (h : Spl w A l) {i : Nat} (hi : i < l.length) : ∃ a n c f lo hi', A = some a ∧ spAt l i = (n, c, f, lo, hi') ∧
    w.cell? (a.add (i * 5)) = some (.int .i64 n) ∧ w.cell? ⟨(a.add (i * 5)).block, (a.add (i * 5)).off + 1, none⟩ = some (.int .i64 c) ∧ w.cell? ⟨(a.add (i * 5)).block, (a.add (i * 5)).off + 2, none⟩ = some (.int .i64 f) ∧
    w.cell? ⟨(a.add (i * 5)).block, (a.add (i * 5)).off + 3, none⟩ = some (.int .i64 lo) ∧ w.cell? ⟨(a.add (i * 5)).block, (a.add (i * 5)).off + 4, none⟩ = some (.int .i64 hi') := by
  obtain ⟨a, ha, h0, h1, h2, h3, h4⟩ := h i hi
  exact ⟨a, _, _, _, _, _, ha, rfl, h0, h1, h2, h3, h4⟩
theorem spl_nil (w : World) (A : Option Addr) : Spl w A [] := fun i hi => by simp at hi

theorem Tryd.infoSpec : (Tryd.prog.info? 67).map (fun i => (i.zero, i.size, i.bytes)) = some (some (.agg #[.int .i64 0, .int .i64 0, .int .i64 0, .int .i64 0, .int .i64 0]), 5, 40) := by kernel_rfl
theorem spsC_length (l : List Sp) : (spsC l).length = l.length * 5 := by
  induction l with
  | nil => rfl
  | cons x r ih => simp only [spsC, List.flatMap_cons, List.length_append, List.length_cons, spC, List.length_nil] at *; omega
theorem spsC_snoc (l : List Sp) (x : Sp) : spsC (l ++ [x]) = spsC l ++ spC x := by simp [spsC]
theorem spsC_at : ∀ (l : List Sp) (i : Nat), i < l.length → ∀ r, r < 5 → (spsC l)[i * 5 + r]? = (spC (spAt l i))[r]?
  | [], i, h => by simp at h
  | x :: r, 0, _ => fun j hj => by
    have e : spsC (x :: r) = spC x ++ spsC r := by simp [spsC]
    rw [e, spAt_zero, Nat.zero_mul, Nat.zero_add, List.getElem?_append_left (by simpa [spC] using hj)]
  | x :: r, i + 1, h => fun j hj => by
    have ih := spsC_at r i (by simpa using h) j hj
    have e : spsC (x :: r) = spC x ++ spsC r := by simp [spsC]
    rw [e, spAt_succ, List.getElem?_append_right (by simp [spC]; omega), show (i + 1) * 5 + j - (spC x).length = i * 5 + j by simp [spC]; omega]
    exact ih
/-- What a row of the call's own holds, as a slice that is read. -/
theorem spl_own {w : World} {base n : Nat} {v : Value} {l : List Sp} (h : w.ownsRow base 67 5 v n (spsC l)) (hn : n = l.length) : ∃ A cap, v = .slice A l.length cap ∧ Spl w A l := by
  subst hn
  rcases h.2 with ⟨hv, h0⟩ | ⟨g, cap, cur, hv, _⟩
  · have : l = [] := List.eq_nil_of_length_eq_zero h0
    subst this
    exact ⟨none, 0, hv, spl_nil _ _⟩
  · refine ⟨some ⟨g, 0, none⟩, cap, hv, fun i hi => ⟨_, rfl, ?_⟩⟩
    subst hv
    have e1 : (⟨g, 0, none⟩ : Addr).add (i * 5) = ⟨g, i * 5, none⟩ := by rw [Addr.add_lit, Nat.zero_add]
    rw [e1]
    have hc := spsC_at l i hi
    exact ⟨(h.cellAt (i * 5) (by omega)).trans (hc 0 (by omega)), (h.cellAt (i * 5 + 1) (by omega)).trans (hc 1 (by omega)), (h.cellAt (i * 5 + 2) (by omega)).trans (hc 2 (by omega)), (h.cellAt (i * 5 + 3) (by omega)).trans (hc 3 (by omega)), (h.cellAt (i * 5 + 4) (by omega)).trans (hc 4 (by omega))⟩
theorem sowns_below {w w' : World} {base e size n : Nat} {v : Value} {xs : List Value} (h : w.ownsRow base e size v n xs) (hb : Below w.heap.size w w') : w'.ownsRow base e size v n xs := by
  refine ⟨h.1, ?_⟩
  rcases h.2 with h1 | ⟨g', cap, cur, h1, h2, h3, h4⟩
  · exact .inl h1
  · exact .inr ⟨g', cap, cur, h1, h2, obj_below h3 hb, h4⟩
theorem add_off (a : Addr) (q r : Nat) (hr : 0 < r) : a.add (q + r) = ⟨(a.add q).block, (a.add q).off + r, none⟩ := by
  unfold Addr.add
  have hr0 : r ≠ 0 := by omega
  by_cases hq : q = 0
  · subst hq; simp [hr0]
  · simp [hq]; omega
/-- A slice's cells, one behind the other. -/
theorem spl_news {w : World} {a : Addr} {l : List Sp} (h : Spl w (some a) l) : ∀ j u, (spsC l)[j]? = some u → w.cell? (a.add j) = some u := by
  intro j u hu
  have hj := (List.getElem?_eq_some_iff.1 hu).1
  rw [spsC_length] at hj
  obtain ⟨a', ha, h0, h1, h2, h3, h4⟩ := h (j / 5) (by omega)
  injection ha with ha
  subst ha
  have hat := spsC_at l (j / 5) (by omega) (j % 5) (by omega)
  have ej : j = j / 5 * 5 + j % 5 := by omega
  rw [← ej, hu] at hat
  generalize j / 5 = q at *
  have hr : j % 5 < 5 := by omega
  generalize j % 5 = r at *
  subst ej
  match r, hr with
  | 0, _ => rw [Nat.add_zero, h0]; exact hat.symm
  | 1, _ => rw [add_off _ _ _ (by omega), h1]; exact hat.symm
  | 2, _ => rw [add_off _ _ _ (by omega), h2]; exact hat.symm
  | 3, _ => rw [add_off _ _ _ (by omega), h3]; exact hat.symm
  | 4, _ => rw [add_off _ _ _ (by omega), h4]; exact hat.symm
theorem sps_one (l : List Sp) : ∀ u ∈ spsC l, u.oneCell' = true := by
  intro u hu
  simp only [spsC, List.mem_flatMap, spC] at hu
  obtain ⟨x, _, hx⟩ := hu
  simp at hx
  rcases hx with rfl | rfl | rfl | rfl | rfl <;> rfl
theorem spl_copy {w : World} {base g c n : Nat} {l : List Sp} (h : w.ownsRow base 67 5 (.slice (some ⟨g, 0, none⟩) n c) n (spsC l)) (hn : n = l.length) : Spl w (some ⟨g, 0, none⟩) l := by
  obtain ⟨A, cap, hv, ht⟩ := spl_own h hn
  injection hv with h1 h2 h3
  subst h1
  exact ht

/-- 'append([]api.Spec{}, l...)', at a step of a region that draws its order: a slice of the call's own that holds the same, also where l is of none. -/
theorem wp_copy_spl {o : Oper} {a : Act} {K : Act → World → Prop} {Q : Exit → Act → World → Prop} (s x : Operand)
    (ho : o.op = .call { callee := .builtin .append, args := #[s, x], argTypes := #[22, 22] }) (U : World) (B g : Nat) (hs : a.eval s = .slice (some ⟨g, 0, none⟩) 0 0)
    (hown : U.ownsRow B 67 5 (.slice (some ⟨g, 0, none⟩) 0 0) 0 []) (hB : B ≤ U.heap.size)
    (A : Option Addr) (c len : Nat) (hx : a.eval x = .slice A len c) (l : List Sp) (hlen : l.length = len) (hT : Spl U A l) (hl : len ≤ 5000000)
    (h : ∀ A' c' w', Spl w' A' l → (∀ a, A' = some a → a.block = g ∨ a.block = U.heap.size) → (∀ W : World, Below W.heap.size W U → W.heap.size ≤ g → Below W.heap.size W w') → K (a.put o.dst (.slice A' len c')) w') : o.wp Tryd.prog a U K Q := by
  obtain ⟨i0, hi, hz0, hz1, hz2⟩ := info_parts Tryd.infoSpec
  by_cases h0 : len = 0
  · subst h0
    have hnil : l = [] := List.eq_nil_of_length_eq_zero hlen
    subst hnil
    have hr : (Builtin.append_ #[22, 22] o.type #[.slice (some ⟨g, 0, none⟩) 0 0, .slice A 0 c]).run Tryd.prog U = .ok (.slice (some ⟨g, 0, none⟩) 0 0) U := by
      cases A <;> simp [Builtin.append_, run_underlying Tryd.underlying22, sizeOf, typeInfo, hi, Builtin.lenOf, Builtin.firstCells, storeCells, loadCells, loadCellsFrom]
    unfold Oper.wp execOp
    simp only [ho, resolve, invoke, builtin, Sem.run_bind, Sem.run_pure, Result.andThen_ok, List.map_toArray, List.map_cons, List.map_nil, hs, hx, hr]
    exact h _ _ _ (spl_nil _ _) (fun a ha => by injection ha with ha; subst ha; exact .inl rfl) (fun W hW _ => hW)
  · obtain ⟨a', rfl, _⟩ := hT 0 (by omega)
    refine wp_append_lies _ s x _ ho B 67 i0 _ 5 40 Tryd.underlying22 hi hz0 hz1 hz2 rfl (by omega) (.slice (some ⟨g, 0, none⟩) 0 0) 0 [] hs hown a' len c (spsC l) hx (by rw [spsC_length, hlen]) (spl_news hT) (sps_one l) (by omega) (by unfold maxLen; omega) (by omega) hB U.heap.size rfl ?_
    intro g' cap' w2 hown2 hgrow hat hlt2
    rw [Nat.zero_add] at hown2 ⊢
    have hblk : ∀ q : Addr, (some ⟨g', 0, none⟩ : Option Addr) = some q → q.block = g ∨ q.block = U.heap.size := by
      intro q hq
      injection hq with hq
      subst hq
      rcases hat with he | he
      · left; simp [Value.ownBlock] at he; exact he.symm
      · exact .inr he
    exact h _ _ _ (spl_copy (by simpa using hown2) hlen.symm) hblk (fun W hW hg => hW.grown hgrow hW.size (by intro q hq; simp [Value.ownBlock] at hq; omega))

theorem obj_cells3 {u : World} {g : Nat} {a b c : Value} {t : TypeId} (h : u.heap[g]? = some (.cells #[a, b, c] t)) :
    u.cell? ⟨g, 0, none⟩ = some a ∧ u.cell? ⟨g, 1, none⟩ = some b ∧ u.cell? ⟨g, 2, none⟩ = some c :=
  ⟨cell_of_row u g 0 _ t _ h, cell_of_row u g 1 _ t _ h, cell_of_row u g 2 _ t _ h⟩
theorem obj_warm3 {u : World} {g : Nat} {a b c : Value} {t : TypeId} (h : u.heap[g]? = some (.cells #[a, b, c] t)) :
    u.frozen? ⟨g, 0, none⟩ = false ∧ u.frozen? ⟨g, 1, none⟩ = false ∧ u.frozen? ⟨g, 2, none⟩ = false :=
  ⟨frozen_of_row u g 0 _ t h, frozen_of_row u g 1 _ t h, frozen_of_row u g 2 _ t h⟩
theorem obj_warm5 {u : World} {g : Nat} {a b c d e : Value} {t : TypeId} (h : u.heap[g]? = some (.cells #[a, b, c, d, e] t)) :
    u.frozen? ⟨g, 0, none⟩ = false ∧ u.frozen? ⟨g, 1, none⟩ = false ∧ u.frozen? ⟨g, 2, none⟩ = false ∧ u.frozen? ⟨g, 3, none⟩ = false ∧ u.frozen? ⟨g, 4, none⟩ = false :=
  ⟨frozen_of_row u g 0 _ t h, frozen_of_row u g 1 _ t h, frozen_of_row u g 2 _ t h, frozen_of_row u g 3 _ t h, frozen_of_row u g 4 _ t h⟩
theorem obj_set3 {u : World} {g : Nat} {a b c : Value} {t : TypeId} (h : u.heap[g]? = some (.cells #[a, b, c] t)) (x y z : Value) : (((u.setCell ⟨g, 0, none⟩ x).setCell ⟨g, 1, none⟩ y).setCell ⟨g, 2, none⟩ z).heap[g]? = some (.cells #[x, y, z] t) :=
  heap_setCell_same _ g 2 _ t z (heap_setCell_same _ g 1 _ t y (heap_setCell_same u g 0 _ t x h))
theorem obj_set5 {u : World} {g : Nat} {a b c d e : Value} {t : TypeId} (h : u.heap[g]? = some (.cells #[a, b, c, d, e] t)) (x y z p q : Value) :
    (((((u.setCell ⟨g, 0, none⟩ x).setCell ⟨g, 1, none⟩ y).setCell ⟨g, 2, none⟩ z).setCell ⟨g, 3, none⟩ p).setCell ⟨g, 4, none⟩ q).heap[g]? = some (.cells #[x, y, z, p, q] t) :=
  heap_setCell_same _ g 4 _ t q (heap_setCell_same _ g 3 _ t p (heap_setCell_same _ g 2 _ t z (heap_setCell_same _ g 1 _ t y (heap_setCell_same u g 0 _ t x h))))
theorem below_set3 {w u : World} {p : Nat} (h : Below w.heap.size w u) (hp : w.heap.size ≤ p) (x y z : Value) : Below w.heap.size w (((u.setCell ⟨p, 0, none⟩ x).setCell ⟨p, 1, none⟩ y).setCell ⟨p, 2, none⟩ z) :=
  ((h.setCell (p := ⟨p, 0, none⟩) hp x).setCell (p := ⟨p, 1, none⟩) hp y).setCell (p := ⟨p, 2, none⟩) hp z
theorem below_set5 {w u : World} {g : Nat} (h : Below w.heap.size w u) (hp : w.heap.size ≤ g) (x y z p q : Value) : Below w.heap.size w (((((u.setCell ⟨g, 0, none⟩ x).setCell ⟨g, 1, none⟩ y).setCell ⟨g, 2, none⟩ z).setCell ⟨g, 3, none⟩ p).setCell ⟨g, 4, none⟩ q) :=
  ((((h.setCell (p := ⟨g, 0, none⟩) hp x).setCell (p := ⟨g, 1, none⟩) hp y).setCell (p := ⟨g, 2, none⟩) hp z).setCell (p := ⟨g, 3, none⟩) hp p).setCell (p := ⟨g, 4, none⟩) hp q

theorem obj_set5_other {u : World} {g q : Nat} {O : Obj} (h : u.heap[q]? = some O) (hq : q ≠ g) (x y z p r : Value) : (((((u.setCell ⟨g, 0, none⟩ x).setCell ⟨g, 1, none⟩ y).setCell ⟨g, 2, none⟩ z).setCell ⟨g, 3, none⟩ p).setCell ⟨g, 4, none⟩ r).heap[q]? = some O := by
  rw [heap_setCell_other _ _ _ _ hq, heap_setCell_other _ _ _ _ hq, heap_setCell_other _ _ _ _ hq, heap_setCell_other _ _ _ _ hq, heap_setCell_other _ _ _ _ hq]
  exact h
/-- A row's cells, as a slice of specs. -/
theorem spl_row {u : World} {g : Nat} {cs : Array Value} {t : TypeId} {l : List Sp} (h : u.heap[g]? = some (.cells cs t)) (hc : cs.toList = spsC l) : Spl u (some ⟨g, 0, none⟩) l := by
  intro i hi
  refine ⟨_, rfl, ?_⟩
  rw [show (⟨g, 0, none⟩ : Addr).add (i * 5) = ⟨g, i * 5, none⟩ from by rw [Addr.add_lit, Nat.zero_add]]
  have hat := spsC_at l i hi
  have hcell : ∀ j, u.cell? ⟨g, j, none⟩ = (spsC l)[j]? := fun j => by rw [cell_of_row u g j _ t _ h, ← hc]; simp
  exact ⟨(hcell (i * 5)).trans (hat 0 (by omega)), (hcell (i * 5 + 1)).trans (hat 1 (by omega)), (hcell (i * 5 + 2)).trans (hat 2 (by omega)), (hcell (i * 5 + 3)).trans (hat 3 (by omega)), (hcell (i * 5 + 4)).trans (hat 4 (by omega))⟩

/-- Results: a struct's block, then a slot. -/
theorem results_cell_row1 {P : Program} {fn : Func} {p u : Tmp} {ty : TypeId} (h : fn.results = #[.cell p ty, .tmp u]) (tmps : Array Value) (w : World) (g : Nat) (t : TypeId) (cs : Array Value) (fr : Nat × Nat) (d : TypeDesc)
    (hp : tmps.getD p undef = .pointer (some ⟨g, 0, none⟩)) (hg : w.heap[g]? = some (.cells cs t fr))
    (hu : P.underlying ty = some d) (hd : (match d with | .struct _ | .array _ _ => true | _ => false) = true) (hi : (P.info? ty).map (·.size) = some cs.size) :
    (results fn tmps).run P w = .ok (.tuple #[.agg cs, tmps.getD u undef]) w := by
  have hp' : tmps[p]?.getD undef = .pointer (some ⟨g, 0, none⟩) := by simpa using hp
  simp [results, h, hp', asAddr, run_loadVar_row w g t ty cs fr d hg hu hd hi]

/-- A schema in a block. -/
def Box (u : World) (g : Nat) (st v : Int) (A : Option Addr) (len cap : Nat) : Prop := u.heap[g]? = some (.cells #[.int .i64 st, .int .i64 v, .slice A len cap] 24)
theorem Box.below {u u' : World} {g : Nat} {st v : Int} {A : Option Addr} {len cap : Nat} (h : Box u g st v A len cap) (hb : Below u.heap.size u u') : Box u' g st v A len cap := obj_below h hb
theorem box_new (w : World) (st v : Int) (A : Option Addr) (len cap : Nat) : Box (w.alloc (.cells #[.int .i64 st, .int .i64 v, .slice A len cap] 24)) w.heap.size st v A len cap := heap_alloc_new _ _

end Go.Proofs.YtnbllngljgmebaaDoor

/-
  What Check, the document's Check and its Right answer: for every schema of up to 1000 specs, in every world.
-/
namespace Go.Proofs.YtnbllngljgmebaaDoor
open Go.RowKit

set_option maxRecDepth 100000 in
set_option maxHeartbeats 800000 in
theorem schk_style (st v : Int) (A : Option Addr) (len cap : Nat) (w : World) (h : st ≠ 1 ∧ st ≠ 2) :
    Calls Tryd.prog 27 #[.agg #[.int .i64 st, .int .i64 v, .slice A len cap]] w fun e w' => e = .returned (.tuple #[.int .i64 1, .int .i64 (-1)]) ∧ Below w.heap.size w w' := by
  have t1 : (st != 1) = true := by simpa using h.1
  have t2 : (st != 2) = true := by simpa using h.2
  clear h
  go_enter Tryd.func27, Tryd.ntmps27
  go_wp2
  go_ret2
  exact ⟨rfl, below_al _ _⟩
set_option maxRecDepth 100000 in
set_option maxHeartbeats 800000 in
theorem schk_version (st v : Int) (A : Option Addr) (len cap : Nat) (w : World) (hst : st = 1 ∨ st = 2) (h : v < 0 ∨ 9 < v) :
    Calls Tryd.prog 27 #[.agg #[.int .i64 st, .int .i64 v, .slice A len cap]] w fun e w' => e = .returned (.tuple #[.int .i64 7, .int .i64 (-1)]) ∧ Below w.heap.size w w' := by
  by_cases h1 : v < 0
  · have t1 : decide (v < 0) = true := by simpa using h1
    clear h h1
    rcases hst with rfl | rfl <;>
    · go_enter Tryd.func27, Tryd.ntmps27
      go_wp2
      go_ret2
      exact ⟨rfl, below_al _ _⟩
  · have t1 : decide (v < 0) = false := by simpa using h1
    have t2 : decide (9 < v) = true := by simp; omega
    clear h h1
    rcases hst with rfl | rfl <;>
    · go_enter Tryd.func27, Tryd.ntmps27
      go_wp2
      go_ret2
      exact ⟨rfl, below_al _ _⟩
set_option maxRecDepth 100000 in
set_option maxHeartbeats 3200000 in
theorem schk_list (st v : Int) (A : Option Addr) (cap : Nat) (l : List Sp) (w : World) (hst : st = 1 ∨ st = 2) (hv : ¬ (v < 0 ∨ 9 < v)) (hI : Spl w A l) (hn : l.length ≤ 1000) :
    Calls Tryd.prog 27 #[.agg #[.int .i64 st, .int .i64 v, .slice A l.length cap]] w fun e w' => e = .returned (.tuple #[.int .i64 (schL 0 0 l).1, .int .i64 (schL 0 0 l).2]) ∧ Below w.heap.size w w' := by
  have t1 : decide (v < 0) = false := by simp; omega
  have t2 : decide (9 < v) = false := by simp; omega
  have HI := Lib.hid hI
  clear hI hv
  generalize hlen : l.length = len at *
  have HLEN := Lib.hid hlen
  clear hlen
  generalize hR : schL 0 0 l = R
  have HR0 := Lib.hid hR
  clear hR
  rcases hst with rfl | rfl <;>
  · go_enter Tryd.func27, Tryd.ntmps27
    go_wp2
    go_loopw [4, 29] (fun y i wr => ∃ (k : Nat) (last : Int), k ≤ len ∧ i = .int .i64 (k : Int) ∧ y = .int .i64 last ∧ schL last k (l.drop k) = R ∧ Below w.heap.size w wr) (fun _ i _ => len - (intOf i).toNat)
    case atStart => exact ⟨0, 0, Nat.zero_le _, rfl, rfl, HR0.out, below_al _ _⟩
    case round =>
      obtain ⟨k, last, hk, rfl, rfl, hrest, hb⟩ := hrel
      have HR := Lib.hid hrest
      have HB := Lib.hid hb
      clear hrest hb
      by_cases hlt : k < len
      · have hkl : k < l.length := by have := HLEN.out; omega
        obtain ⟨a, n, c, f, lo, hi, rfl, hx, c0, c1, c2, c3, c4⟩ := (HI.out.below HB.out).at_ hkl
        have HD := Lib.hid (drop_sp hkl)
        rw [hx] at HD
        have HC := Lib.hid (fun W => spcheck_any n c f lo hi W)
        have hzz : spkS (n, c, f, lo, hi) = spk n c f lo hi := rfl
        generalize spk n c f lo hi = z at *
        have HZ := Lib.hid hzz
        clear hzz hx hkl
        by_cases hz : z = 0
        · subst hz
          by_cases ho : n ≤ last
          · have tord : decide (n ≤ last) = true := by simpa using ho
            have HE := Lib.hid (schL_order (last := last) (i := k) (x := (n, c, f, lo, hi)) (r := l.drop (k + 1)) HZ.out ho)
            clear ho
            go_wp2_with fail
            refine (HC.out _).mono ?_
            rintro e w1 ⟨rfl, hb1⟩
            have HB1 := Lib.hid (hbt (hbt HB.out (below_al _ _)) hb1)
            obtain ⟨d0, d1, d2, d3, d4⟩ := obj_cells5 (obj_below (heap_alloc_new wr (.cells #[.int .i64 n, .int .i64 c, .int .i64 f, .int .i64 lo, .int .i64 hi] 67)) hb1)
            clear hb1 c0 c1 c2 c3 c4
            go_wp2
            go_ret2
            exact ⟨by rw [← HR.out, HD.out, HE.out]; rfl, HB1.out⟩
          · have tord : decide (n ≤ last) = false := by simpa using ho
            have HE := Lib.hid (schL_ok (last := last) (i := k) (x := (n, c, f, lo, hi)) (r := l.drop (k + 1)) HZ.out ho)
            clear ho
            go_wp2_with fail
            refine (HC.out _).mono ?_
            rintro e w1 ⟨rfl, hb1⟩
            have HB1 := Lib.hid (hbt (hbt HB.out (below_al _ _)) hb1)
            obtain ⟨d0, d1, d2, d3, d4⟩ := obj_cells5 (obj_below (heap_alloc_new wr (.cells #[.int .i64 n, .int .i64 c, .int .i64 f, .int .i64 lo, .int .i64 hi] 67)) hb1)
            clear hb1 c0 c1 c2 c3 c4
            go_wp2
            go_roundw
            case rel => exact ⟨k + 1, n, by omega, by go_num, rfl, by rw [← HR.out, HD.out, HE.out], HB1.out⟩
            case measure => simp [intOf]; omega
        · have tz : (z == 0) = false := by simpa using hz
          have HE := Lib.hid (schL_bad (last := last) (i := k) (x := (n, c, f, lo, hi)) (r := l.drop (k + 1)) (by rw [HZ.out]; exact hz))
          clear hz
          go_wp2_with fail
          refine (HC.out _).mono ?_
          rintro e w1 ⟨rfl, hb1⟩
          have HB1 := Lib.hid (hbt (hbt HB.out (below_al _ _)) hb1)
          clear hb1 c0 c1 c2 c3 c4
          go_wp2
          go_ret2
          exact ⟨by rw [← HR.out, HD.out, HE.out, HZ.out]; rfl, HB1.out⟩
      · have HE := Lib.hid (drop_end (l := l) (k := k) (by have := HLEN.out; omega))
        go_wp2
        go_ret2
        exact ⟨by rw [← HR.out, HE.out]; rfl, HB.out⟩
theorem schk_any (st v : Int) (A : Option Addr) (cap : Nat) (l : List Sp) (w : World) (hI : Spl w A l) (hn : l.length ≤ 1000) :
    Calls Tryd.prog 27 #[.agg #[.int .i64 st, .int .i64 v, .slice A l.length cap]] w fun e w' => e = .returned (.tuple #[.int .i64 (schN st v l).1, .int .i64 (schN st v l).2]) ∧ Below w.heap.size w w' := by
  by_cases h1 : st ≠ 1 ∧ st ≠ 2
  · rw [schN_style h1]; exact schk_style st v A _ cap w h1
  by_cases h2 : v < 0 ∨ 9 < v
  · rw [schN_version h1 h2]; exact schk_version st v A _ cap w (by omega) h2
  rw [schN_list h1 h2]; exact schk_list st v A cap l w (by omega) h2 hI hn

set_option maxRecDepth 100000 in
set_option maxHeartbeats 800000 in
theorem srefk_style (st v : Int) (A : Option Addr) (len cap : Nat) (w : World) (h : st ≠ 1 ∧ st ≠ 2) :
    Calls Tryd.prog 53 #[.agg #[.int .i64 st, .int .i64 v, .slice A len cap]] w fun e w' => e = .returned (.tuple #[.int .i64 1, .int .i64 (-1)]) ∧ Below w.heap.size w w' := by
  have t1 : (st != 1) = true := by simpa using h.1
  have t2 : (st != 2) = true := by simpa using h.2
  clear h
  go_enter Tryd.func53, Tryd.ntmps53
  go_wp2
  go_ret2
  exact ⟨rfl, below_al _ _⟩
set_option maxRecDepth 100000 in
set_option maxHeartbeats 800000 in
theorem srefk_version (st v : Int) (A : Option Addr) (len cap : Nat) (w : World) (hst : st = 1 ∨ st = 2) (h : v < 0 ∨ 9 < v) :
    Calls Tryd.prog 53 #[.agg #[.int .i64 st, .int .i64 v, .slice A len cap]] w fun e w' => e = .returned (.tuple #[.int .i64 7, .int .i64 (-1)]) ∧ Below w.heap.size w w' := by
  by_cases h1 : v < 0
  · have t1 : decide (v < 0) = true := by simpa using h1
    clear h h1
    rcases hst with rfl | rfl <;>
    · go_enter Tryd.func53, Tryd.ntmps53
      go_wp2
      go_ret2
      exact ⟨rfl, below_al _ _⟩
  · have t1 : decide (v < 0) = false := by simpa using h1
    have t2 : decide (9 < v) = true := by simp; omega
    clear h h1
    rcases hst with rfl | rfl <;>
    · go_enter Tryd.func53, Tryd.ntmps53
      go_wp2
      go_ret2
      exact ⟨rfl, below_al _ _⟩
set_option maxRecDepth 100000 in
set_option maxHeartbeats 3200000 in
theorem srefk_list (st v : Int) (A : Option Addr) (cap : Nat) (l : List Sp) (w : World) (hst : st = 1 ∨ st = 2) (hv : ¬ (v < 0 ∨ 9 < v)) (hI : Spl w A l) (hn : l.length ≤ 1000) :
    Calls Tryd.prog 53 #[.agg #[.int .i64 st, .int .i64 v, .slice A l.length cap]] w fun e w' => e = .returned (.tuple #[.int .i64 (schL 0 0 l).1, .int .i64 (schL 0 0 l).2]) ∧ Below w.heap.size w w' := by
  have t1 : decide (v < 0) = false := by simp; omega
  have t2 : decide (9 < v) = false := by simp; omega
  have HI := Lib.hid hI
  clear hI hv
  generalize hlen : l.length = len at *
  have HLEN := Lib.hid hlen
  clear hlen
  generalize hR : schL 0 0 l = R
  have HR0 := Lib.hid hR
  clear hR
  rcases hst with rfl | rfl
  all_goals
    go_enter Tryd.func53, Tryd.ntmps53
    go_wp2
    go_loopw [4, 5] (fun y i wr => ∃ (k : Nat) (last : Int), k ≤ len ∧ i = .int .i64 (k : Int) ∧ y = .int .i64 last ∧ schL last k (l.drop k) = R ∧ Box wr w.heap.size _ v A len cap ∧ Below w.heap.size w wr) (fun _ i _ => len - (intOf i).toNat)
    case atStart => exact ⟨0, 0, Nat.zero_le _, rfl, rfl, HR0.out, box_new _ _ _ _ _ _, below_al _ _⟩
    case round =>
      obtain ⟨k, last, hk, rfl, rfl, hrest, hbox, hb⟩ := hrel
      have HR := Lib.hid hrest
      have HB := Lib.hid hb
      have HX := Lib.hid hbox
      obtain ⟨b0, b1, b2⟩ := obj_cells3 hbox
      clear hrest hb hbox
      by_cases hlt : k < len
      · have hkl : k < l.length := by have := HLEN.out; omega
        obtain ⟨a, n, c, f, lo, hi, rfl, hx, c0, c1, c2, c3, c4⟩ := (HI.out.below HB.out).at_ hkl
        have HD := Lib.hid (drop_sp hkl)
        rw [hx] at HD
        have HC := Lib.hid (fun W => sprefCheck_any n c f lo hi W)
        have hzz : spkS (n, c, f, lo, hi) = spk n c f lo hi := rfl
        generalize spk n c f lo hi = z at *
        have HZ := Lib.hid hzz
        by_cases hz : z = 0
        · subst hz
          by_cases ho : n ≤ last
          · have tord : decide (n ≤ last) = true := by simpa using ho
            have HE := Lib.hid (schL_order (last := last) (i := k) (x := (n, c, f, lo, hi)) (r := l.drop (k + 1)) HZ.out ho)
            clear ho
            go_wp2_with fail
            refine (HC.out _).mono ?_
            rintro e w1 ⟨rfl, hb1⟩
            have HB1 := Lib.hid (hbt HB.out hb1)
            obtain ⟨_, n', c', f', lo', hi', e1, hx', d0, d1, d2, d3, d4⟩ := (HI.out.below HB1.out).at_ hkl
            injection e1 with e1
            subst e1
            rw [hx] at hx'
            simp only [Prod.mk.injEq] at hx'
            obtain ⟨rfl, rfl, rfl, rfl, rfl⟩ := hx'
            obtain ⟨g0, g1, g2⟩ := obj_cells3 (HX.out.below hb1)
            clear hb1 c0 c1 c2 c3 c4 b0 b1 b2 hzz hx hkl
            go_wp2
            go_ret2
            exact ⟨by rw [← HR.out, HD.out, HE.out]; rfl, HB1.out⟩
          · have tord : decide (n ≤ last) = false := by simpa using ho
            have HE := Lib.hid (schL_ok (last := last) (i := k) (x := (n, c, f, lo, hi)) (r := l.drop (k + 1)) HZ.out ho)
            clear ho
            go_wp2_with fail
            refine (HC.out _).mono ?_
            rintro e w1 ⟨rfl, hb1⟩
            have HB1 := Lib.hid (hbt HB.out hb1)
            have HX1 := Lib.hid (HX.out.below hb1)
            obtain ⟨_, n', c', f', lo', hi', e1, hx', d0, d1, d2, d3, d4⟩ := (HI.out.below HB1.out).at_ hkl
            injection e1 with e1
            subst e1
            rw [hx] at hx'
            simp only [Prod.mk.injEq] at hx'
            obtain ⟨rfl, rfl, rfl, rfl, rfl⟩ := hx'
            obtain ⟨g0, g1, g2⟩ := obj_cells3 HX1.out
            clear hb1 c0 c1 c2 c3 c4 b0 b1 b2 hzz hx hkl
            go_wp2
            go_roundw
            case rel => exact ⟨k + 1, n, by omega, by go_num, rfl, by rw [← HR.out, HD.out, HE.out], HX1.out, HB1.out⟩
            case measure => simp [intOf]; omega
        · have tz : (z == 0) = false := by simpa using hz
          have HE := Lib.hid (schL_bad (last := last) (i := k) (x := (n, c, f, lo, hi)) (r := l.drop (k + 1)) (by rw [HZ.out]; exact hz))
          clear hz hzz hx hkl
          go_wp2_with fail
          refine (HC.out _).mono ?_
          rintro e w1 ⟨rfl, hb1⟩
          have HB1 := Lib.hid (hbt HB.out hb1)
          clear hb1 c0 c1 c2 c3 c4 b0 b1 b2
          go_wp2
          go_ret2
          exact ⟨by rw [← HR.out, HD.out, HE.out, HZ.out]; rfl, HB1.out⟩
      · have HE := Lib.hid (drop_end (l := l) (k := k) (by have := HLEN.out; omega))
        go_wp2
        go_ret2
        exact ⟨by rw [← HR.out, HE.out]; rfl, HB.out⟩
theorem srefk_any (st v : Int) (A : Option Addr) (cap : Nat) (l : List Sp) (w : World) (hI : Spl w A l) (hn : l.length ≤ 1000) :
    Calls Tryd.prog 53 #[.agg #[.int .i64 st, .int .i64 v, .slice A l.length cap]] w fun e w' => e = .returned (.tuple #[.int .i64 (schN st v l).1, .int .i64 (schN st v l).2]) ∧ Below w.heap.size w w' := by
  by_cases h1 : st ≠ 1 ∧ st ≠ 2
  · rw [schN_style h1]; exact srefk_style st v A _ cap w h1
  by_cases h2 : v < 0 ∨ 9 < v
  · rw [schN_version h1 h2]; exact srefk_version st v A _ cap w (by omega) h2
  rw [schN_list h1 h2]; exact srefk_list st v A cap l w (by omega) h2 hI hn
set_option maxRecDepth 100000 in
set_option maxHeartbeats 800000 in
theorem sright_any (st v : Int) (A : Option Addr) (cap : Nat) (l : List Sp) (w : World) (hI : Spl w A l) (hn : l.length ≤ 1000) :
    Calls Tryd.prog 32 #[.agg #[.int .i64 st, .int .i64 v, .slice A l.length cap]] w fun e w' => e = .returned (.bool (decide ((schN st v l).1 = 0))) ∧ Below w.heap.size w w' := by
  have HC := Lib.hid (fun W hW => srefk_any st v A cap l W hW hn)
  have HI := Lib.hid hI
  clear hI
  generalize (schN st v l).1 = z at *
  generalize (schN st v l).2 = p at *
  generalize hlen : l.length = len at *
  have hz : (z == 0) = decide (z = 0) := by rw [Bool.eq_iff_iff]; simp
  go_enter Tryd.func32, Tryd.ntmps32
  go_wp2_with fail
  refine (HC.out _ (HI.out.below (below_al _ _))).mono ?_
  rintro e w1 ⟨rfl, hb1⟩
  have HB1 := Lib.hid (hbt (below_al _ _) hb1)
  clear hb1
  go_wp2
  go_ret
  exact ⟨by first | (rw [← hz]; rfl) | simp, HB1.out⟩

end Go.Proofs.YtnbllngljgmebaaDoor

/-
  What Find and the document's Find answer: for every schema of up to 1000 specs and every number, in every world.
-/
namespace Go.Proofs.YtnbllngljgmebaaDoor
open Go.RowKit

/-- Room for a spec in a block. -/
def Room5 (u : World) (g : Nat) : Prop := u.heap[g]? = some (.cells #[.int .i64 0, .int .i64 0, .int .i64 0, .int .i64 0, .int .i64 0] 67)
theorem Room5.below {u u' : World} {g : Nat} (h : Room5 u g) (hb : Below u.heap.size u u') : Room5 u' g := obj_below h hb

set_option maxRecDepth 100000 in
set_option maxHeartbeats 3200000 in
theorem sfind_any (st v : Int) (A : Option Addr) (cap : Nat) (l : List Sp) (no : Int) (w : World) (hI : Spl w A l) (hn : l.length ≤ 1000) :
    Calls Tryd.prog 28 #[.agg #[.int .i64 st, .int .i64 v, .slice A l.length cap], .int .i64 no] w fun e w' => e = .returned (.tuple #[spV (fndP no l).1, .bool (fndP no l).2]) ∧ Below w.heap.size w w' := by
  have HI := Lib.hid hI
  clear hI
  generalize hlen : l.length = len at *
  have HLEN := Lib.hid hlen
  clear hlen
  generalize hR : fndP no l = R
  have HR0 := Lib.hid hR
  clear hR
  go_enter Tryd.func28, Tryd.ntmps28
  go_wp2
  go_loopw [11] (fun i wr => ∃ k : Nat, k ≤ len ∧ i = .int .i64 (k : Int) ∧ fndP no (l.drop k) = R ∧ Room5 wr (w.heap.size + 1) ∧ Below w.heap.size w wr) (fun i _ => len - (intOf i).toNat)
  case atStart => exact ⟨0, Nat.zero_le _, rfl, HR0.out, heap_al _ _ _ (by simp), hbt (below_al _ _) (below_al _ _)⟩
  case round =>
    obtain ⟨k, hk, rfl, hrest, hroom, hb⟩ := hrel
    have HR := Lib.hid hrest
    have HB := Lib.hid hb
    have HM := Lib.hid hroom
    clear hrest hb hroom
    by_cases hlt : k < len
    · have hkl : k < l.length := by have := HLEN.out; omega
      obtain ⟨a, n, c, f, lo, hi, rfl, hx, c0, c1, c2, c3, c4⟩ := (HI.out.below HB.out).at_ hkl
      have HD := Lib.hid (drop_sp hkl)
      rw [hx] at HD
      clear hx hkl
      by_cases hz : n = no
      · have tz : (n == no) = true := by simpa using hz
        have HE := Lib.hid (fndP_hit (x := (n, c, f, lo, hi)) (r := l.drop (k + 1)) hz)
        obtain ⟨g0, g1, g2, g3, g4⟩ := obj_warm5 HM.out
        obtain ⟨e0, e1, e2, e3, e4⟩ := obj_cells5 HM.out
        have hsz := obj_lt HM.out
        clear hz
        go_wp2
        refine bodyPost_ret (results_cell_row1 rfl _ _ (w.heap.size + 1) _ _ _ _ rfl ((heap_alloc_old' _ _ _ (by simp; omega)).trans (obj_set5 HM.out _ _ _ _ _)) Tryd.underlying67 rfl (by kernel_rfl)) rfl ?_
        exact ⟨by rw [← HR.out, HD.out, HE.out]; rfl, hbt (below_set5 HB.out (by omega) _ _ _ _ _) (below_al _ _)⟩
      · have tz : (n == no) = false := by simpa using hz
        have HE := Lib.hid (fndP_miss (x := (n, c, f, lo, hi)) (r := l.drop (k + 1)) hz)
        clear hz
        go_wp2
        go_roundw
        case rel => exact ⟨k + 1, by omega, by go_num, by rw [← HR.out, HD.out, HE.out], HM.out.below (below_al _ _), hbt HB.out (below_al _ _)⟩
        case measure => simp [intOf]; omega
    · have HE := Lib.hid (drop_end (l := l) (k := k) (by have := HLEN.out; omega))
      obtain ⟨g0, g1, g2, g3, g4⟩ := obj_warm5 HM.out
      obtain ⟨e0, e1, e2, e3, e4⟩ := obj_cells5 HM.out
      go_wp2
      refine bodyPost_ret (results_cell_row1 rfl _ _ (w.heap.size + 1) _ _ _ _ rfl (obj_set5 HM.out _ _ _ _ _) Tryd.underlying67 rfl (by kernel_rfl)) rfl ?_
      exact ⟨by rw [← HR.out, HE.out]; rfl, below_set5 HB.out (by omega) _ _ _ _ _⟩

set_option maxRecDepth 100000 in
set_option maxHeartbeats 1600000 in
theorem sreffind_any (st v : Int) (A : Option Addr) (cap : Nat) (l : List Sp) (no : Int) (w : World) (hI : Spl w A l) (hn : l.length ≤ 1000) :
    Calls Tryd.prog 33 #[.agg #[.int .i64 st, .int .i64 v, .slice A l.length cap], .int .i64 no] w fun e w' => e = .returned (.int .i64 (fndI no 0 l)) ∧ Below w.heap.size w w' := by
  have HI := Lib.hid (hI.below (below_al w (.cells #[.int .i64 st, .int .i64 v, .slice A l.length cap] 24)))
  clear hI
  generalize hlen : l.length = len at *
  have HLEN := Lib.hid hlen
  clear hlen
  generalize hR : fndI no 0 l = R
  have HR0 := Lib.hid hR
  clear hR
  go_enter Tryd.func33, Tryd.ntmps33
  go_wp2
  go_loop [5] (fun i => ∃ k : Nat, k ≤ len ∧ i = .int .i64 (k : Int) ∧ fndI no k (l.drop k) = R) (fun i => len - (intOf i).toNat)
  case atStart => exact ⟨0, Nat.zero_le _, rfl, HR0.out⟩
  case round =>
    obtain ⟨k, hk, rfl, hrest⟩ := hrel
    have HR := Lib.hid hrest
    clear hrest
    by_cases hlt : k < len
    · have hkl : k < l.length := by have := HLEN.out; omega
      obtain ⟨a, n, c, f, lo, hi, rfl, hx, c0, c1, c2, c3, c4⟩ := HI.out.at_ hkl
      have HD := Lib.hid (drop_sp hkl)
      rw [hx] at HD
      clear hx hkl
      by_cases hz : n = no
      · have tz : (n == no) = true := by simpa using hz
        have HE := Lib.hid (fndI_hit (i := k) (x := (n, c, f, lo, hi)) (r := l.drop (k + 1)) hz)
        clear hz
        go_wp2
        go_ret
        exact ⟨by rw [← HR.out, HD.out, HE.out]; rfl, below_al _ _⟩
      · have tz : (n == no) = false := by simpa using hz
        have HE := Lib.hid (fndI_miss (i := k) (x := (n, c, f, lo, hi)) (r := l.drop (k + 1)) hz)
        clear hz
        go_wp2
        go_round
        case rel => exact ⟨k + 1, by omega, by go_num, by rw [← HR.out, HD.out, HE.out]⟩
        case measure => simp [intOf]; omega
    · have HE := Lib.hid (drop_end (l := l) (k := k) (by have := HLEN.out; omega))
      go_wp2
      go_ret
      exact ⟨by rw [← HR.out, HE.out]; rfl, below_al _ _⟩

end Go.Proofs.YtnbllngljgmebaaDoor

/-
  What Set and the document's Numbers answer: for every schema of up to 1000 specs, in every world.
-/
namespace Go.Proofs.YtnbllngljgmebaaDoor
open Go.RowKit


def zv (z : Int) : Value := .int .i64 z
theorem take_all {l : List Sp} {k : Nat} (h : l.length ≤ k) : l.take k = l := List.take_of_length_le h
theorem nos_part (l : List Sp) (k : Nat) (h : k ≤ l.length) : (nosOf (l.take k)).length = k := by simp [nosOf]; omega
theorem nos_own {w : World} {base g n c : Nat} {zs : List Int} (h : w.ownsRow base 3 1 (.slice (some ⟨g, 0, none⟩) n c) n (zs.map zv)) (hn : zs.length = n) : Ints w (some ⟨g, 0, none⟩) zs := ints_copy h hn


end Go.Proofs.YtnbllngljgmebaaDoor

/-
  What the document's Copy and Restrict answer: for every schema of up to 1000 specs, in every world.
-/
namespace Go.Proofs.YtnbllngljgmebaaDoor
open Go.RowKit

/-- A schema in one block, room for another in a second: what a region keeps. -/
def Copies (w : World) (st v : Int) (A : Option Addr) (len cap : Nat) (u : World) : Prop := Below w.heap.size w u ∧ Box u w.heap.size st v A len cap ∧ ∃ a b c, u.heap[w.heap.size + 1]? = some (.cells #[a, b, c] 24)
theorem Copies.below {w : World} {st v : Int} {A : Option Addr} {len cap : Nat} {u u' : World} (h : Copies w st v A len cap u) (hb : Below u.heap.size u u') : Copies w st v A len cap u' := by
  obtain ⟨h1, h2, a, b, c, h3⟩ := h
  exact ⟨hbt h1 hb, h2.below hb, a, b, c, obj_below h3 hb⟩
theorem Copies.drew {w : World} {st v : Int} {A : Option Addr} {len cap : Nat} {u : World} (h : Copies w st v A len cap u) : Copies w st v A len cap u.drew := ⟨h.1.drew, h.2.1, h.2.2⟩
theorem Copies.store {w : World} {st v : Int} {A : Option Addr} {len cap : Nat} {u : World} (h : Copies w st v A len cap u) (x y z : Value) : Copies w st v A len cap (((u.setCell ⟨w.heap.size + 1, 0, none⟩ x).setCell ⟨w.heap.size + 1, 1, none⟩ y).setCell ⟨w.heap.size + 1, 2, none⟩ z) := by
  obtain ⟨h1, h2, a, b, c, h3⟩ := h
  refine ⟨below_set3 h1 (by omega) _ _ _, ?_, x, y, z, obj_set3 h3 x y z⟩
  unfold Box
  rw [heap_setCell_other _ _ _ _ (by simp), heap_setCell_other _ _ _ _ (by simp), heap_setCell_other _ _ _ _ (by simp)]
  exact h2
theorem copies_new (w : World) (st v : Int) (A : Option Addr) (len cap : Nat) : Copies w st v A len cap ((w.alloc (.cells #[.int .i64 st, .int .i64 v, .slice A len cap] 24)).alloc (.cells #[.int .i64 0, .int .i64 0, .slice none 0 0] 24)) :=
  ⟨hbt (below_al _ _) (below_al _ _), (box_new _ _ _ _ _ _).below (below_al _ _), _, _, _, heap_al _ _ _ (by simp)⟩
theorem spl_set3 {w : World} {A : Option Addr} {l : List Sp} {p : Nat} (h : Spl w A l) (hp : ∀ a, A = some a → a.block ≠ p) (x y z : Value) : Spl (((w.setCell ⟨p, 0, none⟩ x).setCell ⟨p, 1, none⟩ y).setCell ⟨p, 2, none⟩ z) A l := by
  intro i hi
  obtain ⟨a, ha, h0, h1, h2, h3, h4⟩ := h i hi
  have hab : (a.add (i * 5)).block = a.block := by unfold Addr.add; split <;> rfl
  have hc : ∀ q : Addr, q.block = a.block → (((w.setCell ⟨p, 0, none⟩ x).setCell ⟨p, 1, none⟩ y).setCell ⟨p, 2, none⟩ z).cell? q = w.cell? q := fun q hq => World.cell?_of_block (by
    have hne : q.block ≠ p := by rw [hq]; exact hp a ha
    rw [heap_setCell_other _ _ _ _ hne, heap_setCell_other _ _ _ _ hne, heap_setCell_other _ _ _ _ hne])
  exact ⟨a, ha, (hc _ hab).trans h0, (hc ⟨_, (a.add (i * 5)).off + 1, none⟩ hab).trans h1, (hc ⟨_, (a.add (i * 5)).off + 2, none⟩ hab).trans h2, (hc ⟨_, (a.add (i * 5)).off + 3, none⟩ hab).trans h3, (hc ⟨_, (a.add (i * 5)).off + 4, none⟩ hab).trans h4⟩
/-- A slice of specs lies in no block of three cells: a store into one leaves it. -/
theorem spl_store3 {w : World} {A : Option Addr} {l : List Sp} {p : Nat} {a b c : Value} {t : TypeId} (h : Spl w A l) (hg : w.heap[p]? = some (.cells #[a, b, c] t)) (x y z : Value) : Spl (((w.setCell ⟨p, 0, none⟩ x).setCell ⟨p, 1, none⟩ y).setCell ⟨p, 2, none⟩ z) A l := by
  by_cases h0 : l.length = 0
  · intro i hi; omega
  · refine spl_set3 h (fun q hq e => ?_) x y z
    obtain ⟨a', ha, _, _, _, _, h4⟩ := h 0 (by omega)
    rw [hq] at ha
    injection ha with ha
    subst ha
    have hz : (q.add (0 * 5)) = q := by simp [Addr.add]
    rw [hz, e, cell_of_row _ _ _ _ _ _ hg] at h4
    simp at h4
theorem sowns_set3 {w : World} {base e size n p : Nat} {v : Value} {xs : List Value} (h : w.ownsRow base e size v n xs) (hp : p < base) (x y z : Value) : (((w.setCell ⟨p, 0, none⟩ x).setCell ⟨p, 1, none⟩ y).setCell ⟨p, 2, none⟩ z).ownsRow base e size v n xs := by
  refine ⟨h.1, ?_⟩
  rcases h.2 with h1 | ⟨g', cap, cur, h1, h2, h3, h4⟩
  · exact .inl h1
  · refine .inr ⟨g', cap, cur, h1, h2, ?_, h4⟩
    have hne : g' ≠ p := by omega
    rw [heap_setCell_other _ _ _ _ hne, heap_setCell_other _ _ _ _ hne, heap_setCell_other _ _ _ _ hne]
    exact h3
theorem sowns_set1 {w : World} {base e size n p : Nat} {v : Value} {xs : List Value} (h : w.ownsRow base e size v n xs) (hp : p < base) (i : Nat) (x : Value) : (w.setCell ⟨p, i, none⟩ x).ownsRow base e size v n xs := by
  refine ⟨h.1, ?_⟩
  rcases h.2 with h1 | ⟨g', cap, cur, h1, h2, h3, h4⟩
  · exact .inl h1
  · refine .inr ⟨g', cap, cur, h1, h2, ?_, h4⟩
    rw [heap_setCell_other _ _ _ _ (show g' ≠ p by omega)]
    exact h3
theorem spl_own_at {w : World} {base n cap : Nat} {A : Option Addr} {l : List Sp} (h : w.ownsRow base 67 5 (.slice A n cap) n (spsC l)) (hn : n = l.length) : Spl w A l := by
  obtain ⟨A', c', hv, ht⟩ := spl_own h hn
  injection hv with h1 h2 h3
  subst h1
  exact ht

set_option maxRecDepth 100000 in
set_option maxHeartbeats 3200000 in
theorem scopy_any (st v : Int) (A : Option Addr) (cap : Nat) (l : List Sp) (w : World) (hI : Spl w A l) (hn : l.length ≤ 1000) :
    Calls Tryd.prog 31 #[.agg #[.int .i64 st, .int .i64 v, .slice A l.length cap]] w fun e w' => ∃ A' cap', e = .returned (.agg #[.int .i64 st, .int .i64 v, .slice A' l.length cap']) ∧ Spl w' A' l ∧ Below w.heap.size w w' := by
  generalize hlen : l.length = len at *
  have HLEN := Lib.hid hlen
  clear hlen
  have HC := Lib.hid (copies_new w st v A len cap)
  have HI := Lib.hid (hI.below HC.out.1)
  clear hI
  go_enter Tryd.func31, Tryd.ntmps31
  go_wp2_with fail
  generalize (w.alloc (.cells #[.int .i64 st, .int .i64 v, .slice A len cap] 24)).alloc (.cells #[.int .i64 0, .int .i64 0, .slice none 0 0] 24) = U at *
  refine wp_region_noPanic ?_
  refine wp_region_held_drew (S := (Copies w st v A len cap)) (by kernel_rfl) (HC.out.drew) (fun hS => ?_)
  refine gv 0 (v := ?_) (fun u hu => ?_) hS ?_
  rotate_left
  · ((obtain ⟨_, hu2, _⟩ := hu; obtain ⟨c0, c1, c2⟩ := obj_cells3 hu2; clear hu2); go_simp; try (with_reducible rfl))
  try simp only [puts]
  refine gv 1 (v := ?_) (fun u hu => ?_) hS ?_
  rotate_left
  · ((obtain ⟨_, hu2, _⟩ := hu; obtain ⟨c0, c1, c2⟩ := obj_cells3 hu2; clear hu2); go_simp; try (with_reducible rfl))
  try simp only [puts]
  refine gv 2 (v := ?_) (fun u hu => ?_) hS ?_
  rotate_left
  · ((obtain ⟨_, hu2, _⟩ := hu; obtain ⟨c0, c1, c2⟩ := obj_cells3 hu2; clear hu2); go_simp; try (with_reducible rfl))
  try simp only [puts]
  refine gv 3 (v := ?_) (fun u hu => ?_) hS ?_
  rotate_left
  · ((obtain ⟨_, hu2, _⟩ := hu; obtain ⟨c0, c1, c2⟩ := obj_cells3 hu2; clear hu2); go_simp; try (with_reducible rfl))
  try simp only [puts]
  refine gv 5 (v := ?_) (fun u hu => ?_) hS ?_
  rotate_left
  · ((obtain ⟨_, hu2, _⟩ := hu; obtain ⟨c0, c1, c2⟩ := obj_cells3 hu2; clear hu2); go_simp; try (with_reducible rfl))
  try simp only [puts]
  refine gv 6 (v := ?_) (fun u hu => ?_) hS ?_
  rotate_left
  · ((obtain ⟨_, hu2, _⟩ := hu; obtain ⟨c0, c1, c2⟩ := obj_cells3 hu2; clear hu2); go_simp; try (with_reducible rfl))
  try simp only [puts]
  refine only (i := 4) rfl (by kernel_rfl) (by rfl) (fun K hK => ?_)
  go_simp
  refine hK.out _ _ (HC.out.below (below_al _ _)).drew ?_
  clear hK
  try simp only [puts]
  refine only (i := 7) rfl (by kernel_rfl) (by rfl) (fun K hK => ?_)
  refine wp_copy_spl _ _ (by rfl) _ U.heap.size U.heap.size (by rfl) (World.ownsRow_lit U #[] 0 (Nat.le_refl _) (by unfold maxLen; omega) rfl).drew (by simp) A cap len (by rfl) l HLEN.out (HI.out.below (below_al U (.cells #[] 67)).drew) (by omega) ?_
  intro A' c' w2 hT2 hAb hbw
  have hgz := obj_lt HC.out.2.2.choose_spec.choose_spec.choose_spec
  have HAB : Hid (∀ a, A' = some a → a.block ≠ w.heap.size + 1) := fun a ha => by
    have h1 := hAb a ha
    simp at h1
    omega
  have hb2 : Below U.heap.size U w2 := hbw U (below_al U (.cells #[] 67)).drew (Nat.le_refl _)
  have HT2 := Lib.hid hT2
  have hC2 := HC.out.below hb2
  clear hbw hT2 hAb hgz
  refine hK.out _ _ hC2 ?_
  clear hK
  try simp only [puts]
  clear hS
  have hS := hC2
  refine gv 8 (v := ?_) (fun u hu => ?_) hS ?_
  rotate_left
  · ((obtain ⟨_, hu2, _⟩ := hu; obtain ⟨c0, c1, c2⟩ := obj_cells3 hu2; clear hu2); go_simp; try (with_reducible rfl))
  try simp only [puts]
  refine only (i := 9) rfl (by kernel_rfl) (by rfl) (fun K hK => ?_)
  obtain ⟨hS1, hS2, x0, x1, x2, hS3⟩ := id hC2
  obtain ⟨c0, c1, c2⟩ := obj_cells3 hS3
  obtain ⟨f0, f1, f2⟩ := obj_warm3 hS3
  go_simp
  refine hK.out _ _ (hC2.store _ _ _) ?_
  clear hK
  try simp only [puts]
  refine wpAnyH_done (by kernel_rfl) (NoPanic.normal ?_) _
  have HR := Lib.hid (obj_set3 hS3 (.int .i64 st) (.int .i64 v) (.slice A' len c'))
  have HB := Lib.hid (hC2.store (.int .i64 st) (.int .i64 v) (.slice A' len c')).1
  have HT := Lib.hid (spl_set3 HT2.out HAB.out (.int .i64 st) (.int .i64 v) (.slice A' len c'))
  clear hS hC2 hS1 hS2 hS3 c0 c1 c2 f0 f1 f2 hb2
  generalize (((w2.setCell _ _).setCell _ _).setCell _ _) = w4 at *
  go_wp2
  refine bodyPost_ret (results_cell_row rfl _ _ (w.heap.size + 1) _ _ _ _ rfl HR.out Tryd.underlying24 rfl (by kernel_rfl)) rfl ?_
  exact ⟨A', c', rfl, HT.out, HB.out⟩


end Go.Proofs.YtnbllngljgmebaaDoor
