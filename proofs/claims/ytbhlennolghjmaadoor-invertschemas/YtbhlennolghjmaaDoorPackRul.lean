/-
  Texts of one family, laid together: RulMath, RulOf, RulPure, RulCopy, RulRef, RulAwk, RulApp, RulChk, RulDo, RulSize.
-/
import Derived.Test.YtbhlennolghjmaaDoorPackSpc
import Derived.Test.YtbhlennolghjmaaDoorPackSch
import Derived.Test.YtbhlennolghjmaaDoorPackCod
import Derived.Test.YtbhlennolghjmaaDoorPackDig
import Derived.Test.YtbhlennolghjmaaDoorPackBase
import Derived.Test.YtbhlennolghjmaaDoorPackDia

/-
  Rules: what is wrong with one, and what it makes of a text. (Plain functions.)
-/
namespace Go.Proofs.YtbhlennolghjmaaDoor

def noS : ByteArray := ⟨#[]⟩
/-- What is wrong with a spec's value; whether one spec is wider. -/
def rlV (x : Sp) (s : ByteArray) : Int := spv x.1 x.2.1 x.2.2.1 x.2.2.2.1 x.2.2.2.2 s
def rlW (x y : Sp) : Bool := spw x.1 x.2.1 x.2.2.1 x.2.2.2.1 x.2.2.2.2 y.1 y.2.1 y.2.2.1 y.2.2.2.1 y.2.2.2.2
/-- May it be repadded? -/
def rlR (x : Sp) : Bool := (x.2.1 == 1) && (x.2.2.1 == 1)
/-- Of the first pair of which a text isn't a value what is wrong with it. -/
def rlT (x y : Sp) : List PairT → Int
  | [] => 0
  | p :: r => if rlV x p.1 ≠ 0 then rlV x p.1 else if rlV y p.2 ≠ 0 then rlV y p.2 else rlT x y r
theorem rlT_from {x y : Sp} {p : PairT} {r : List PairT} (h : rlV x p.1 ≠ 0) : rlT x y (p :: r) = rlV x p.1 := by rw [rlT, if_pos h]
theorem rlT_to {x y : Sp} {p : PairT} {r : List PairT} (h : rlV x p.1 = 0) (h2 : rlV y p.2 ≠ 0) : rlT x y (p :: r) = rlV y p.2 := by rw [rlT, if_neg (by simp [h]), if_pos h2]
theorem rlT_next {x y : Sp} {p : PairT} {r : List PairT} (h : rlV x p.1 = 0) (h2 : rlV y p.2 = 0) : rlT x y (p :: r) = rlT x y r := by rw [rlT, if_neg (by simp [h]), if_neg (by simp [h2])]
theorem drop_duo {l : List PairT} {k : Nat} (h : k < l.length) : l.drop k = duoAt l k :: l.drop (k + 1) := by rw [duoAt_get h]; exact List.drop_eq_getElem_cons h
theorem rlT_zero {x y : Sp} : ∀ {l : List PairT}, rlT x y l = 0 → ∀ p ∈ l, rlV x p.1 = 0 ∧ rlV y p.2 = 0
  | [], _, p, hp => by simp at hp
  | q :: r, h, p, hp => by
    by_cases h1 : rlV x q.1 = 0
    · by_cases h2 : rlV y q.2 = 0
      · rw [rlT_next h1 h2] at h
        rcases List.mem_cons.1 hp with rfl | hp
        · exact ⟨h1, h2⟩
        · exact rlT_zero h p hp
      · rw [rlT_to h1 h2] at h; exact absurd h h2
    · rw [rlT_from h1] at h; exact absurd h h1

/-- What the Kind asks of the two specs, the text and the pairs. -/
def rlK (k : Int) (x : Sp) (y : Sp) (s : ByteArray) (P : List PairT) : Int :=
  if k = 1 then (if rlW y x then 0 else 6)
  else if k = 2 then 0
  else if k = 3 then rlV y s
  else if k = 4 then (if rlR x && rlR y then 0 else 6)
  else if (tabN P).1 ≠ 0 ∨ P = [] then 15 else rlT x y P
/-- Is there a From, a To, and nothing where nothing stands? -/
def rlA (k f : Int) (a : List Sp) : Bool := if k = 3 then f == 0 else (fndP f a).2
def rlB (k t : Int) (b : List Sp) : Bool := if k = 2 then t == 0 else (fndP t b).2
def rlC (k : Int) (s : ByteArray) (P : List PairT) : Bool := (decide (s = noS) || k == 3) && (decide (P.length = 0) || k == 5)
/-- What is wrong with a rule. -/
def rulN (k f t : Int) (s : ByteArray) (P : List PairT) (a b : List Sp) : Int :=
  if k < 1 ∨ 5 < k then 1 else if rlA k f a = false then 9 else if rlB k t b = false then 9 else if rlC k s P = false then 3 else rlK k (fndP f a).1 (fndP t b).1 s P
theorem rulN_arg {k f t : Int} {s : ByteArray} {P : List PairT} {a b : List Sp} (h : k < 1 ∨ 5 < k) : rulN k f t s P a b = 1 := by unfold rulN; rw [if_pos h]
theorem rulN_from {k f t : Int} {s : ByteArray} {P : List PairT} {a b : List Sp} (h : ¬ (k < 1 ∨ 5 < k)) (h1 : rlA k f a = false) : rulN k f t s P a b = 9 := by unfold rulN; rw [if_neg h, if_pos h1]
theorem rulN_to {k f t : Int} {s : ByteArray} {P : List PairT} {a b : List Sp} (h : ¬ (k < 1 ∨ 5 < k)) (h1 : rlA k f a = true) (h2 : rlB k t b = false) : rulN k f t s P a b = 9 := by unfold rulN; rw [if_neg h, if_neg (by simp [h1]), if_pos h2]
theorem rulN_form {k f t : Int} {s : ByteArray} {P : List PairT} {a b : List Sp} (h : ¬ (k < 1 ∨ 5 < k)) (h1 : rlA k f a = true) (h2 : rlB k t b = true) (h3 : rlC k s P = false) : rulN k f t s P a b = 3 := by unfold rulN; rw [if_neg h, if_neg (by simp [h1]), if_neg (by simp [h2]), if_pos h3]
theorem rulN_kind {k f t : Int} {s : ByteArray} {P : List PairT} {a b : List Sp} (h : ¬ (k < 1 ∨ 5 < k)) (h1 : rlA k f a = true) (h2 : rlB k t b = true) (h3 : rlC k s P = true) : rulN k f t s P a b = rlK k (fndP f a).1 (fndP t b).1 s P := by
  unfold rulN; rw [if_neg h, if_neg (by simp [h1]), if_neg (by simp [h2]), if_neg (by simp [h3])]
theorem rulN_zero {k f t : Int} {s : ByteArray} {P : List PairT} {a b : List Sp} (h : rulN k f t s P a b = 0) : ¬ (k < 1 ∨ 5 < k) ∧ rlA k f a = true ∧ rlB k t b = true ∧ rlC k s P = true ∧ rlK k (fndP f a).1 (fndP t b).1 s P = 0 := by
  by_cases h0 : k < 1 ∨ 5 < k
  · rw [rulN_arg h0] at h; cases h
  · cases h1 : rlA k f a
    · rw [rulN_from h0 h1] at h; cases h
    · cases h2 : rlB k t b
      · rw [rulN_to h0 h1 h2] at h; cases h
      · cases h3 : rlC k s P
        · rw [rulN_form h0 h1 h2 h3] at h; cases h
        · rw [rulN_kind h0 h1 h2 h3] at h
          exact ⟨h0, rfl, rfl, rfl, h⟩

/-- What a rule makes of a text: the number, the text, the error. -/
def rapN (k t : Int) (s : ByteArray) (P : List PairT) (b : List Sp) (u : ByteArray) : Int × ByteArray × Int :=
  if k = 1 then (t, u, 0)
  else if k = 2 then (0, noS, 0)
  else if k = 3 then (t, s, 0)
  else if k = 4 then (if (fndP t b).2 = false then (0, noS, 9) else if padB u.data.toList (fndP t b).1.2.2.2.1 = false then (0, noS, 5) else (t, padS u.data.toList (fndP t b).1.2.2.2.1, 0))
  else if k = 5 then (if appB P u = false then (0, noS, 15) else (t, appS P u, 0))
  else (0, noS, 1)
theorem rap_1 (t : Int) (s : ByteArray) (P : List PairT) (b : List Sp) (u : ByteArray) : rapN 1 t s P b u = (t, u, 0) := rfl
theorem rap_2 (t : Int) (s : ByteArray) (P : List PairT) (b : List Sp) (u : ByteArray) : rapN 2 t s P b u = (0, noS, 0) := rfl
theorem rap_3 (t : Int) (s : ByteArray) (P : List PairT) (b : List Sp) (u : ByteArray) : rapN 3 t s P b u = (t, s, 0) := rfl
theorem rap_4 (t : Int) (s : ByteArray) (P : List PairT) (b : List Sp) (u : ByteArray) : rapN 4 t s P b u = (if (fndP t b).2 = false then (0, noS, 9) else if padB u.data.toList (fndP t b).1.2.2.2.1 = false then (0, noS, 5) else (t, padS u.data.toList (fndP t b).1.2.2.2.1, 0)) := rfl
theorem rap_5 (t : Int) (s : ByteArray) (P : List PairT) (b : List Sp) (u : ByteArray) : rapN 5 t s P b u = (if appB P u = false then (0, noS, 15) else (t, appS P u, 0)) := rfl
theorem rap_else {k : Int} (h : k < 1 ∨ 5 < k) (t : Int) (s : ByteArray) (P : List PairT) (b : List Sp) (u : ByteArray) : rapN k t s P b u = (0, noS, 1) := by
  unfold rapN; rw [if_neg (by omega), if_neg (by omega), if_neg (by omega), if_neg (by omega), if_neg (by omega)]
theorem kind_cases {k : Int} (h : ¬ (k < 1 ∨ 5 < k)) : k = 1 ∨ k = 2 ∨ k = 3 ∨ k = 4 ∨ k = 5 := by omega

/-- More than is played. -/
def rgreatB (s : ByteArray) (P : List PairT) : Bool := decide (1200 < s.size) || decide (300 < P.length) || P.any fun x => decide (1200 < x.1.size) || decide (1200 < x.2.size)
theorem rgreat_text {s : ByteArray} {P : List PairT} (h : 1200 < s.size) : rgreatB s P = true := by simp [rgreatB, h]
theorem rgreat_far {s : ByteArray} {P : List PairT} (h : 300 < P.length) : rgreatB s P = true := by simp [rgreatB, h]
theorem rgreat_hit {s : ByteArray} {P : List PairT} {k : Nat} (hk : k < P.length) (h : 1200 < (duoAt P k).1.size ∨ 1200 < (duoAt P k).2.size) : rgreatB s P = true := by
  have : P.any (fun x => decide (1200 < x.1.size) || decide (1200 < x.2.size)) = true := by
    rw [List.any_eq_true]
    rw [duoAt_get hk] at h
    exact ⟨_, List.getElem_mem hk, by simpa using h⟩
  simp [rgreatB, this]
theorem rgreat_miss {s : ByteArray} {P : List PairT} (hs : s.size ≤ 1200) (hl : P.length ≤ 300) (h : ∀ j, j < P.length → (duoAt P j).1.size ≤ 1200 ∧ (duoAt P j).2.size ≤ 1200) : rgreatB s P = false := by
  have : P.any (fun x => decide (1200 < x.1.size) || decide (1200 < x.2.size)) = false := by
    rw [List.any_eq_false]
    intro x hx
    obtain ⟨k, hk, rfl⟩ := List.getElem_of_mem hx
    have := h k hk
    rw [duoAt_get hk] at this
    simp; omega
  unfold rgreatB
  rw [this, Bool.or_false]
  simp; omega
theorem rgreat_in {s : ByteArray} {P : List PairT} (h : rgreatB s P = false) : s.size ≤ 1200 ∧ P.length ≤ 300 := by
  refine ⟨?_, ?_⟩
  · by_cases hl : 1200 < s.size
    · rw [rgreat_text hl] at h; cases h
    · omega
  · by_cases hl : 300 < P.length
    · rw [rgreat_far hl] at h; cases h
    · omega

end Go.Proofs.YtbhlennolghjmaaDoor

/-
  A rule and two schemas in the first blocks that a call makes; a value in a block.
-/
namespace Go.Proofs.YtbhlennolghjmaaDoor
open Go.RowKit

def RBox (u : World) (g : Nat) (k f t : Int) (s : ByteArray) (B : Option Addr) (n c : Nat) : Prop := u.heap[g]? = some (.cells #[.int .i64 k, .int .i64 f, .int .i64 t, .string s, .slice B n c] 53)
theorem RBox.below {u u' : World} {g : Nat} {k f t : Int} {s : ByteArray} {B : Option Addr} {n c : Nat} (h : RBox u g k f t s B n c) (hb : Below u.heap.size u u') : RBox u' g k f t s B n c := obj_below h hb
/-- A rule and two schemas. -/
def RQ (w : World) (k f t : Int) (s : ByteArray) (B : Option Addr) (n c : Nat) (st v : Int) (A : Option Addr) (la ca : Nat) (st' v' : Int) (A' : Option Addr) (lb cb : Nat) (u : World) : Prop :=
  Below w.heap.size w u ∧ RBox u w.heap.size k f t s B n c ∧ Box u (w.heap.size + 1) st v A la ca ∧ Box u (w.heap.size + 2) st' v' A' lb cb
theorem RQ.below {w : World} {k f t : Int} {s : ByteArray} {B : Option Addr} {n c : Nat} {st v : Int} {A : Option Addr} {la ca : Nat} {st' v' : Int} {A' : Option Addr} {lb cb : Nat} {u u' : World} (h : RQ w k f t s B n c st v A la ca st' v' A' lb cb u) (hb : Below u.heap.size u u') : RQ w k f t s B n c st v A la ca st' v' A' lb cb u' :=
  ⟨hbt h.1 hb, h.2.1.below hb, h.2.2.1.below hb, h.2.2.2.below hb⟩
theorem RQ.drew {w : World} {k f t : Int} {s : ByteArray} {B : Option Addr} {n c : Nat} {st v : Int} {A : Option Addr} {la ca : Nat} {st' v' : Int} {A' : Option Addr} {lb cb : Nat} {u : World} (h : RQ w k f t s B n c st v A la ca st' v' A' lb cb u) : RQ w k f t s B n c st v A la ca st' v' A' lb cb u.drew :=
  ⟨h.1.drew, h.2.1, h.2.2.1, h.2.2.2⟩
theorem rq_new (w : World) (k f t : Int) (s : ByteArray) (B : Option Addr) (n c : Nat) (st v : Int) (A : Option Addr) (la ca : Nat) (st' v' : Int) (A' : Option Addr) (lb cb : Nat) :
    RQ w k f t s B n c st v A la ca st' v' A' lb cb (((w.alloc (.cells #[.int .i64 k, .int .i64 f, .int .i64 t, .string s, .slice B n c] 53)).alloc (.cells #[.int .i64 st, .int .i64 v, .slice A la ca] 28)).alloc (.cells #[.int .i64 st', .int .i64 v', .slice A' lb cb] 28)) :=
  ⟨hbt (hbt (below_al _ _) (below_al _ _)) (below_al _ _), obj_below (obj_below (heap_alloc_new _ _) (below_al _ _)) (below_al _ _), obj_below (heap_al _ _ _ (by simp)) (below_al _ _), heap_al _ _ _ (by simp)⟩
/-- The cells of the three. -/
theorem RQ.cells {w : World} {k f t : Int} {s : ByteArray} {B : Option Addr} {n c : Nat} {st v : Int} {A : Option Addr} {la ca : Nat} {st' v' : Int} {A' : Option Addr} {lb cb : Nat} {u : World} (h : RQ w k f t s B n c st v A la ca st' v' A' lb cb u) :
    (u.cell? ⟨w.heap.size, 0, none⟩ = some (.int .i64 k) ∧ u.cell? ⟨w.heap.size, 1, none⟩ = some (.int .i64 f) ∧ u.cell? ⟨w.heap.size, 2, none⟩ = some (.int .i64 t) ∧ u.cell? ⟨w.heap.size, 3, none⟩ = some (.string s) ∧ u.cell? ⟨w.heap.size, 4, none⟩ = some (.slice B n c)) ∧
    (u.cell? ⟨w.heap.size + 1, 0, none⟩ = some (.int .i64 st) ∧ u.cell? ⟨w.heap.size + 1, 1, none⟩ = some (.int .i64 v) ∧ u.cell? ⟨w.heap.size + 1, 2, none⟩ = some (.slice A la ca)) ∧
    u.cell? ⟨w.heap.size + 2, 0, none⟩ = some (.int .i64 st') ∧ u.cell? ⟨w.heap.size + 2, 1, none⟩ = some (.int .i64 v') ∧ u.cell? ⟨w.heap.size + 2, 2, none⟩ = some (.slice A' lb cb) := by
  obtain ⟨_, h1, h2, h3⟩ := h
  exact ⟨obj_cells5 h1, obj_cells3 h2, obj_cells3 h3⟩
/-- A spec's cells, in every world behind. -/
theorem spl_all {w : World} {A : Option Addr} {l : List Sp} (h : Spl w A l) {p : Nat} (hp : p < l.length) : ∃ a n c f lo hi', A = some a ∧ spAt l p = (n, c, f, lo, hi') ∧ ∀ u, Below w.heap.size w u →
    u.cell? (a.add (p * 5)) = some (.int .i64 n) ∧ u.cell? ⟨(a.add (p * 5)).block, (a.add (p * 5)).off + 1, none⟩ = some (.int .i64 c) ∧ u.cell? ⟨(a.add (p * 5)).block, (a.add (p * 5)).off + 2, none⟩ = some (.int .i64 f) ∧
    u.cell? ⟨(a.add (p * 5)).block, (a.add (p * 5)).off + 3, none⟩ = some (.int .i64 lo) ∧ u.cell? ⟨(a.add (p * 5)).block, (a.add (p * 5)).off + 4, none⟩ = some (.int .i64 hi') := by
  obtain ⟨a, n, c, f, lo, hi', ha, hx, c0, c1, c2, c3, c4⟩ := h.at_ hp
  exact ⟨a, n, c, f, lo, hi', ha, hx, fun u hu => ⟨(hu.cell (block_lt_of_cell c0)).trans c0, (hu.cell (block_lt_of_cell c1)).trans c1, (hu.cell (block_lt_of_cell c2)).trans c2, (hu.cell (block_lt_of_cell c3)).trans c3, (hu.cell (block_lt_of_cell c4)).trans c4⟩⟩
/-- A pair's cells, in every world behind. -/
theorem prs_all {w : World} {A : Option Addr} {l : List PairT} (h : Prs w A l) {p : Nat} (hp : p < l.length) : ∃ a s t, A = some a ∧ duoAt l p = (s, t) ∧ ∀ u, Below w.heap.size w u →
    u.cell? (a.add (p * 2)) = some (.string s) ∧ u.cell? ⟨(a.add (p * 2)).block, (a.add (p * 2)).off + 1, none⟩ = some (.string t) := by
  obtain ⟨a, s, t, ha, hx, c0, c1⟩ := h.at_ hp
  exact ⟨a, s, t, ha, hx, fun u hu => ⟨(hu.cell (block_lt_of_cell c0)).trans c0, (hu.cell (block_lt_of_cell c1)).trans c1⟩⟩
/-- Where a field's spec stands. -/
theorem fnd_cases (no : Int) (l : List Sp) : (fndI no 0 l = -1 ∧ (fndP no l).2 = false) ∨ ∃ k : Nat, k < l.length ∧ fndI no 0 l = (k : Int) ∧ fndP no l = (spAt l k, true) := by
  rcases fnd_rel no l 0 with ⟨h1, h2⟩ | ⟨k, hk, h1, h2⟩
  · exact Or.inl ⟨h2, by rw [h1]⟩
  · exact Or.inr ⟨k, hk, by rw [h1]; simp, h2⟩

end Go.Proofs.YtbhlennolghjmaaDoor

/-
  What follows of rules: what one that may be makes of a value that its field may have; a schema and itself. (Plain functions.)
-/
namespace Go.Proofs.YtbhlennolghjmaaDoor

theorem isO_digit : ∀ c : Fin 256, isO 1 c.val = (decide (48 ≤ c.val) && decide (c.val ≤ 57)) := by decide +kernel
theorem isO_isD (c : UInt8) : isO 1 c.toNat = isD c := by
  have := isO_digit ⟨c.toNat, c.toNat_lt⟩
  exact this
theorem rul_digits {l : List UInt8} (h : allD l = true) : fst 1 l = -1 := by
  refine fst_all ?_
  rw [List.all_eq_true]
  intro c hc
  rw [isO_isD]
  exact List.all_eq_true.1 h c hc
theorem digits_fst {l : List UInt8} (h : ¬ 0 ≤ fst 1 l) : allD l = true := by
  rcases fst_cases 1 l with ⟨_, h2⟩ | ⟨k, _, h2, _⟩
  · unfold allD
    rw [List.all_eq_true] at h2 ⊢
    intro c hc
    rw [← isO_isD]
    exact h2 c hc
  · rw [h2] at h; omega
theorem isD_nought : isD 48 = true := by decide
theorem padL_digits {l : List UInt8} {w : Int} (h : allD l = true) : allD (padL l w) = true := by
  unfold padL allD
  rw [List.all_append, Bool.and_eq_true]
  refine ⟨?_, allD_drop h _⟩
  rw [List.all_eq_true]
  intro c hc
  rw [(List.mem_replicate.1 hc).2]
  exact isD_nought
theorem padL_size {l : List UInt8} {w : Int} : (padL l w).length = w.toNat := by
  unfold padL
  rw [List.length_append, List.length_replicate, List.length_drop]
  omega
theorem padB_in {l : List UInt8} {w : Int} (h : padB l w = true) : allD l = true ∧ 1 ≤ w ∧ w ≤ 999 := by
  unfold padB padA at h
  simp only [Bool.and_eq_true, decide_eq_true_eq] at h
  exact ⟨h.1.1.1.2, h.1.1.2, h.1.2⟩
/-- Digits of a fixed length: what is repadded is a value. -/
theorem rlV_pad {x : Sp} {u : ByteArray} (hs : spkS x = 0) (hr : rlR x = true) (hp : padB u.data.toList x.2.2.2.1 = true) : rlV x (padS u.data.toList x.2.2.2.1) = 0 := by
  obtain ⟨n, c, f, lo, hi⟩ := x
  unfold rlR at hr
  simp only [Bool.and_eq_true, beq_iff_eq] at hr
  obtain ⟨rfl, rfl⟩ := hr
  have hk : spk n 1 1 lo hi = 0 := hs
  obtain ⟨_, h1, h2, h3⟩ := spk_in hk
  have hlen : lo = hi := by
    by_cases e : lo = hi
    · exact e
    · have hn := spk_no hk
      rw [spk_range (by omega) (by decide) (by omega) (by rw [lenB_one ⟨h1, h2, h3⟩]; simpa using e)] at hk
      cases hk
  subst hlen
  obtain ⟨hd, _, _⟩ := padB_in hp
  show spv n 1 1 lo lo (padS u.data.toList lo) = 0
  rw [padS_yes hp]
  have hsz : ((⟨(padL u.data.toList lo).toArray⟩ : ByteArray).size : Int) = lo := by
    show ((padL u.data.toList lo).toArray.size : Int) = lo
    rw [List.size_toArray, padL_size]
    omega
  have hl : (⟨(padL u.data.toList lo).toArray⟩ : ByteArray).data.toList = padL u.data.toList lo := by simp
  refine spv_ok hk (by rw [hsz]; omega) ?_ (by omega)
  rw [hl, rul_digits (padL_digits hd)]
  omega
/-- Digits of as many: they stay. -/
theorem pad_same {x : Sp} {u : ByteArray} (hr : rlR x = true) (hv : rlV x u = 0) : padB u.data.toList x.2.2.2.1 = true ∧ padS u.data.toList x.2.2.2.1 = u := by
  obtain ⟨n, c, f, lo, hi⟩ := x
  unfold rlR at hr
  simp only [Bool.and_eq_true, beq_iff_eq] at hr
  obtain ⟨rfl, rfl⟩ := hr
  have hv' : spv n 1 1 lo hi u = 0 := hv
  obtain ⟨hk, hz, hf, _⟩ := spv_in hv'
  obtain ⟨_, h1, h2, h3⟩ := spk_in hk
  have hlen : lo = hi := by
    by_cases e : lo = hi
    · exact e
    · have hn := spk_no hk
      rw [spk_range (by omega) (by decide) (by omega) (by rw [lenB_one ⟨h1, h2, h3⟩]; simpa using e)] at hk
      cases hk
  subst hlen
  have hul : u.data.toList.length = u.size := by simp
  have hd := digits_fst hf
  have hA : padA u.data.toList lo = true := padA_yes (by omega) (by omega) hd h1 h3
  have hB : padB u.data.toList lo = true := by
    rw [padB_eq hA, show u.data.toList.length - lo.toNat = 0 by omega]
    rfl
  refine ⟨hB, ?_⟩
  show padS u.data.toList lo = u
  rw [padS_yes hB]
  apply bs_ext
  unfold padL
  rw [show lo.toNat - u.data.toList.length = 0 by omega, show u.data.toList.length - lo.toNat = 0 by omega]
  simp

theorem spkS_at {st v : Int} {l : List Sp} (h : (schN st v l).1 = 0) {k : Nat} (hk : k < l.length) : spkS (spAt l k) = 0 := by
  rw [spAt_get hk]
  exact (right_rise h).right _ (List.getElem_mem hk)

/-- P20.3: what a rule that may be makes of a value that From may have. -/
theorem rul_valid {k f t : Int} {s : ByteArray} {P : List PairT} {a b : List Sp} {st' v' : Int} {x : ByteArray} (h : rulN k f t s P a b = 0) (hb : (schN st' v' b).1 = 0)
    (hx : ∀ i : Nat, i < a.length → fndI f 0 a = (i : Int) → fndP f a = (spAt a i, true) → rlV (spAt a i) x = 0) :
    ((rapN k t s P b x).2.2 ≠ 0 ∧ ((k = 4 ∧ (rapN k t s P b x).2.2 = 5) ∨ (k = 5 ∧ (rapN k t s P b x).2.2 = 15)) ∧ (rapN k t s P b x).1 = 0 ∧ (rapN k t s P b x).2.1 = ⟨#[]⟩) ∨
    ((rapN k t s P b x).2.2 = 0 ∧ k = 2 ∧ (rapN k t s P b x).1 = 0 ∧ (rapN k t s P b x).2.1 = ⟨#[]⟩) ∨
    ((rapN k t s P b x).2.2 = 0 ∧ k ≠ 2 ∧ (rapN k t s P b x).1 = t ∧ ∃ j : Nat, j < b.length ∧ fndI t 0 b = (j : Int) ∧ rlV (spAt b j) (rapN k t s P b x).2.1 = 0) := by
  obtain ⟨h0, h1, h2, h3, h4⟩ := rulN_zero h
  have hto : k ≠ 2 → ∃ j : Nat, j < b.length ∧ fndI t 0 b = (j : Int) ∧ fndP t b = (spAt b j, true) := fun hk => by
    unfold rlB at h2
    rw [if_neg hk] at h2
    rcases fnd_cases t b with ⟨_, hn⟩ | hj
    · rw [hn] at h2; cases h2
    · exact hj
  rcases kind_cases h0 with rfl | rfl | rfl | rfl | rfl
  · obtain ⟨j, hj, hji, hjp⟩ := hto (by omega)
    refine Or.inr (Or.inr ⟨rfl, by omega, rfl, j, hj, hji, ?_⟩)
    rw [hjp] at h4
    unfold rlA at h1
    rw [if_neg (by omega)] at h1
    rcases fnd_cases f a with ⟨_, hn⟩ | ⟨i, hi, hii, hip⟩
    · rw [hn] at h1; cases h1
    · rw [hip] at h4
      have hw : rlW (spAt b j) (spAt a i) = true := by
        unfold rlK at h4
        rw [if_pos rfl] at h4
        by_cases e : rlW (spAt b j) (spAt a i) = true
        · exact e
        · rw [if_neg e] at h4; cases h4
      exact spw_keeps hw (hx i hi hii hip)
  · exact Or.inr (Or.inl ⟨rfl, rfl, rfl, rfl⟩)
  · obtain ⟨j, hj, hji, hjp⟩ := hto (by omega)
    refine Or.inr (Or.inr ⟨rfl, by omega, rfl, j, hj, hji, ?_⟩)
    rw [hjp] at h4
    exact h4
  · obtain ⟨j, hj, hji, hjp⟩ := hto (by omega)
    rw [rap_4, hjp]
    by_cases hp : padB x.data.toList (spAt b j).2.2.2.1 = false
    · rw [if_neg (by simp), if_pos hp]
      exact Or.inl ⟨by simp, Or.inl ⟨rfl, rfl⟩, rfl, rfl⟩
    · rw [if_neg (by simp), if_neg hp]
      refine Or.inr (Or.inr ⟨rfl, by omega, rfl, j, hj, hji, ?_⟩)
      rw [hjp] at h4
      have hr : rlR (spAt b j) = true := by
        have h5 : (if rlR (fndP f a).1 && rlR (spAt b j) then (0 : Int) else 6) = 0 := h4
        cases hr : rlR (spAt b j)
        · rw [hr, Bool.and_false] at h5; cases h5
        · rfl
      exact rlV_pad (spkS_at hb hj) hr (by simpa using hp)
  · obtain ⟨j, hj, hji, hjp⟩ := hto (by omega)
    rw [rap_5]
    by_cases hp : appB P x = false
    · rw [if_pos hp]
      exact Or.inl ⟨by simp, Or.inr ⟨rfl, rfl⟩, rfl, rfl⟩
    · rw [if_neg hp]
      refine Or.inr (Or.inr ⟨rfl, by omega, rfl, j, hj, hji, ?_⟩)
      rw [hjp] at h4
      have h5 : (if (tabN P).1 ≠ 0 ∨ P = [] then (15 : Int) else rlT (fndP f a).1 (spAt b j) P) = 0 := h4
      by_cases e : (tabN P).1 ≠ 0 ∨ P = []
      · rw [if_pos e] at h5; cases h5
      · rw [if_neg e] at h5
        exact (rlT_zero h5 _ (app_mem (by simpa using hp))).2

theorem spw_self {n c f lo hi : Int} (h : spk n c f lo hi = 0) : spw n c f lo hi n c f lo hi = true := by
  have hc := (spk_in h).1
  have hw : widC c c = true := by
    unfold widC
    by_cases h5 : c = 5
    · rw [if_pos h5]
    · rw [if_neg h5]
      by_cases h6 : c = 6
      · rw [if_pos (Or.inl h6)]; simp
      · rw [if_neg (by omega)]
        exact wid_all hc hc (fun _ _ h => h)
  simp [spw, h, hw]
/-- From a schema to itself. -/
theorem rul_copy {no : Int} {l : List Sp} {st v : Int} {i : Nat} (hs : (schN st v l).1 = 0) (hi : i < l.length) (hf : fndP no l = (spAt l i, true)) : rulN 1 no no ⟨#[]⟩ [] l l = 0 := by
  rw [rulN_kind (by omega) (by simp [rlA, hf]) (by simp [rlB, hf]) (by simp [rlC, noS])]
  rw [hf]
  have hw : rlW (spAt l i) (spAt l i) = true := spw_self (spkS_at hs hi)
  show (if rlW (spAt l i) (spAt l i) then (0 : Int) else 6) = 0
  rw [if_pos hw]
theorem rul_copy_none {no : Int} {l : List Sp} (hf : (fndP no l).2 = false) : rulN 1 no no ⟨#[]⟩ [] l l = 9 := rulN_from (by omega) (by simp [rlA, hf])
theorem rul_repad {no : Int} {l : List Sp} {i : Nat} (hf : fndP no l = (spAt l i, true)) (hr : rlR (spAt l i) = true) : rulN 4 no no ⟨#[]⟩ [] l l = 0 := by
  rw [rulN_kind (by omega) (by simp [rlA, hf]) (by simp [rlB, hf]) (by simp [rlC, noS])]
  rw [hf]
  show (if rlR (spAt l i) && rlR (spAt l i) then (0 : Int) else 6) = 0
  rw [hr]
  rfl
theorem rap_repad {no : Int} {l : List Sp} {i : Nat} {u : ByteArray} (hf : fndP no l = (spAt l i, true)) (hr : rlR (spAt l i) = true) (hv : rlV (spAt l i) u = 0) : rapN 4 no ⟨#[]⟩ [] l u = (no, u, 0) := by
  obtain ⟨h1, h2⟩ := pad_same hr hv
  rw [rap_4, hf, if_neg (by simp), if_neg (by simp [h1]), h2]

end Go.Proofs.YtbhlennolghjmaaDoor

/-
  What the document's Copy of a rule answers: for every rule of up to 5,000,000 pairs, in every world.
-/
namespace Go.Proofs.YtbhlennolghjmaaDoor
open Go.RowKit

theorem sowns_set5 {w : World} {base e size n p : Nat} {v : Value} {xs : List Value} (h : w.ownsRow base e size v n xs) (hp : p < base) (x y z q r : Value) : (((((w.setCell ⟨p, 0, none⟩ x).setCell ⟨p, 1, none⟩ y).setCell ⟨p, 2, none⟩ z).setCell ⟨p, 3, none⟩ q).setCell ⟨p, 4, none⟩ r).ownsRow base e size v n xs :=
  sowns_set1 (sowns_set1 (sowns_set1 (sowns_set1 (sowns_set1 h hp 0 x) hp 1 y) hp 2 z) hp 3 q) hp 4 r
set_option maxRecDepth 100000 in
set_option maxHeartbeats 3200000 in
theorem rcopy_far (k f t : Int) (s : ByteArray) (B : Option Addr) (cP : Nat) (P : List PairT) (w : World) (hP : Prs w B P) (hn : P.length ≤ 5000000) :
    Calls Tryd.prog 31 #[.agg #[.int .i64 k, .int .i64 f, .int .i64 t, .string s, .slice B P.length cP]] w fun e w' => ∃ B' c', e = .returned (.agg #[.int .i64 k, .int .i64 f, .int .i64 t, .string s, .slice B' P.length c']) ∧ Prs w' B' P ∧ (∀ a, B' = some a → w.heap.size ≤ a.block ∧ a.block < w'.heap.size) ∧ Below w.heap.size w w' := by
  have HC := Lib.hid (fun W h => ccopy_any B cP P W h hn)
  have HPR := Lib.hid (fun (W : World) (base : Nat) (A : Option Addr) (c : Nat) (h : W.ownsRow base _ 2 (.slice A P.length c) P.length (duosC P)) => prs_row h rfl)
  generalize P.length = n at *
  have HBW := Lib.hid (hbt (below_al w (.cells #[.int .i64 k, .int .i64 f, .int .i64 t, .string s, .slice B n cP] 53)) (below_al _ (.cells #[.int .i64 0, .int .i64 0, .int .i64 0, .string ⟨#[]⟩, .slice none 0 0] 53)))
  have HX : Hid (RBox ((w.alloc (.cells #[.int .i64 k, .int .i64 f, .int .i64 t, .string s, .slice B n cP] 53)).alloc (.cells #[.int .i64 0, .int .i64 0, .int .i64 0, .string ⟨#[]⟩, .slice none 0 0] 53)) w.heap.size k f t s B n cP) := obj_below (heap_alloc_new _ _) (below_al _ _)
  have HY : Hid (RBox ((w.alloc (.cells #[.int .i64 k, .int .i64 f, .int .i64 t, .string s, .slice B n cP] 53)).alloc (.cells #[.int .i64 0, .int .i64 0, .int .i64 0, .string ⟨#[]⟩, .slice none 0 0] 53)) (w.heap.size + 1) 0 0 0 ⟨#[]⟩ none 0 0) := heap_al _ _ _ (by simp)
  have HZ : Hid (w.heap.size + 2 = ((w.alloc (.cells #[.int .i64 k, .int .i64 f, .int .i64 t, .string s, .slice B n cP] 53)).alloc (.cells #[.int .i64 0, .int .i64 0, .int .i64 0, .string ⟨#[]⟩, .slice none 0 0] 53)).heap.size) := by show _ = _; simp
  have HP := Lib.hid (hP.below HBW.out)
  clear hP hn
  go_enter Tryd.func31, Tryd.ntmps31
  go_wp2_with fail
  generalize (w.alloc (.cells #[.int .i64 k, .int .i64 f, .int .i64 t, .string s, .slice B n cP] 53)).alloc (.cells #[.int .i64 0, .int .i64 0, .int .i64 0, .string ⟨#[]⟩, .slice none 0 0] 53) = U at *
  refine (HC.out _ HP.out).mono ?_
  rintro e w1 ⟨B', c', rfl, hown, hb1⟩
  have HO1 := Lib.hid hown
  have HX1 := Lib.hid (HX.out.below hb1)
  have HY1 := Lib.hid (HY.out.below hb1)
  have HB1 := Lib.hid (hbt HBW.out hb1)
  clear hown hb1 HX HY HC
  obtain ⟨r0, r1, r2, r3, r4⟩ := obj_cells5 HX1.out
  obtain ⟨g0, g1, g2, g3, g4⟩ := obj_warm5 HX1.out
  have HX2 : Hid (RBox (w1.setCell ⟨w.heap.size, 4, none⟩ (.slice B' n c')) w.heap.size k f t s B' n c') := heap_setCell_same _ _ 4 _ _ _ HX1.out
  have HY2 : Hid (RBox (w1.setCell ⟨w.heap.size, 4, none⟩ (.slice B' n c')) (w.heap.size + 1) 0 0 0 ⟨#[]⟩ none 0 0) := (heap_setCell_other _ _ _ _ (by simp)).trans HY1.out
  obtain ⟨x0, x1, x2, x3, x4⟩ := obj_cells5 HX2.out
  obtain ⟨y0, y1, y2, y3, y4⟩ := obj_cells5 HY2.out
  obtain ⟨z0, z1, z2, z3, z4⟩ := obj_warm5 HY2.out
  have HB2 := Lib.hid (HB1.out.setCell (p := ⟨w.heap.size, 4, none⟩) (Nat.le_refl _) (.slice B' n c'))
  have HO2 := Lib.hid (sowns_set1 HO1.out (by have := HZ.out; omega : w.heap.size < U.heap.size) 4 (.slice B' n c'))
  go_wp2
  refine bodyPost_ret (results_cell_row rfl _ _ (w.heap.size + 1) _ _ _ _ rfl (obj_set5 HY2.out _ _ _ _ _) Tryd.underlying53 rfl (by kernel_rfl)) rfl ?_
  have HO3 := Lib.hid (sowns_set5 (p := w.heap.size + 1) HO2.out (by have := HZ.out; omega) (.int .i64 k) (.int .i64 f) (.int .i64 t) (.string s) (.slice B' n c'))
  exact ⟨B', c', rfl, HPR.out _ _ _ _ HO3.out, fun a ha => by
    have h := HO3.out.lt a.block (by rw [ha]; rfl)
    have := HZ.out
    exact ⟨by omega, h.2⟩, below_set5 HB2.out (by omega) _ _ _ _ _⟩
theorem rcopy_any (k f t : Int) (s : ByteArray) (B : Option Addr) (cP : Nat) (P : List PairT) (w : World) (hP : Prs w B P) (hn : P.length ≤ 5000000) :
    Calls Tryd.prog 31 #[.agg #[.int .i64 k, .int .i64 f, .int .i64 t, .string s, .slice B P.length cP]] w fun e w' => ∃ B' c', e = .returned (.agg #[.int .i64 k, .int .i64 f, .int .i64 t, .string s, .slice B' P.length c']) ∧ Prs w' B' P ∧ Below w.heap.size w w' :=
  (rcopy_far k f t s B cP P w hP hn).mono fun _ _ ⟨B', c', he, hp, _, hb⟩ => ⟨B', c', he, hp, hb⟩

end Go.Proofs.YtbhlennolghjmaaDoor

/-
  What the document's Check of a rule answers: for every rule and schemas of up to 1000 specs, in every world.
-/
namespace Go.Proofs.YtbhlennolghjmaaDoor
open Go.RowKit

set_option maxRecDepth 100000 in
set_option maxHeartbeats 1600000 in
theorem rlref_low (k f t : Int) (s : ByteArray) (B : Option Addr) (n cP : Nat) (st v : Int) (A : Option Addr) (la ca : Nat) (st' v' : Int) (A' : Option Addr) (lb cb : Nat) (w : World) (h : k < 1) : Calls Tryd.prog 77 #[.agg #[.int .i64 k, .int .i64 f, .int .i64 t, .string s, .slice B n cP], .agg #[.int .i64 st, .int .i64 v, .slice A la ca], .agg #[.int .i64 st', .int .i64 v', .slice A' lb cb]] w fun e w' => e = .returned (.int .i64 1) ∧ Below w.heap.size w w' := by
  have t1 : decide (k < 1) = true := by simpa using h
  clear h
  go_enter Tryd.func77, Tryd.ntmps77
  go_wp2
  go_ret
  exact ⟨rfl, hbt (hbt (below_al _ _) (below_al _ _)) (below_al _ _)⟩
set_option maxRecDepth 100000 in
set_option maxHeartbeats 1600000 in
theorem rlref_high (k f t : Int) (s : ByteArray) (B : Option Addr) (n cP : Nat) (st v : Int) (A : Option Addr) (la ca : Nat) (st' v' : Int) (A' : Option Addr) (lb cb : Nat) (w : World) (h : 5 < k) : Calls Tryd.prog 77 #[.agg #[.int .i64 k, .int .i64 f, .int .i64 t, .string s, .slice B n cP], .agg #[.int .i64 st, .int .i64 v, .slice A la ca], .agg #[.int .i64 st', .int .i64 v', .slice A' lb cb]] w fun e w' => e = .returned (.int .i64 1) ∧ Below w.heap.size w w' := by
  have t1 : decide (k < 1) = false := by simp; omega
  have t2 : decide (5 < k) = true := by simpa using h
  clear h
  go_enter Tryd.func77, Tryd.ntmps77
  go_wp2
  go_ret
  exact ⟨rfl, hbt (hbt (below_al _ _) (below_al _ _)) (below_al _ _)⟩
theorem text_some {s : ByteArray} (h : s ≠ ⟨#[]⟩) : s.toList.isEmpty = false := by
  rw [ByteArray.toList_eq]
  cases hd : s.data.toList with
  | nil => exact absurd (by rw [ByteArray.ext_iff]; exact Array.toList_inj.1 (by simpa using hd)) h
  | cons x r => rfl
set_option maxRecDepth 100000 in
set_option maxHeartbeats 6400000 in
theorem rlref_1 (f t : Int) (s : ByteArray) (B : Option Addr) (cP : Nat) (P : List PairT) (st v : Int) (A : Option Addr) (ca : Nat) (a : List Sp) (st' v' : Int) (A' : Option Addr) (cb : Nat) (b : List Sp) (w : World) (hP : Prs w B P) (hA : Spl w A a) (hB : Spl w A' b) (hla : a.length ≤ 1000) (hlb : b.length ≤ 1000) (hlP : P.length ≤ maxLen) (_ : Fit2 P) (_ : s.size ≤ maxLen) : Calls Tryd.prog 77 #[.agg #[.int .i64 1, .int .i64 f, .int .i64 t, .string s, .slice B P.length cP], .agg #[.int .i64 st, .int .i64 v, .slice A a.length ca], .agg #[.int .i64 st', .int .i64 v', .slice A' b.length cb]] w fun e w' => e = .returned (.int .i64 (rulN 1 f t s P a b)) ∧ Below w.heap.size w w' := by
  have HI := Lib.hid (fun W h => sreffind_any st v A ca a f W h hla)
  have HJ := Lib.hid (fun W h => sreffind_any st' v' A' cb b t W h hlb)
  have HQ0 := Lib.hid (rq_new w 1 f t s B P.length cP st v A a.length ca st' v' A' b.length cb)
  have HA := Lib.hid hA
  have HB := Lib.hid hB
  have HP := Lib.hid hP
  have HF0 : Hid (∀ x, rulN 1 f t s P a b = x → rulN 1 f t s P a b = x) := fun _ h => h
  have hnk : ¬ ((1 : Int) < 1 ∨ 5 < (1 : Int)) := by omega
  have HN1 := Lib.hid (fun h => rulN_from (k := 1) (f := f) (t := t) (s := s) (P := P) (a := a) (b := b) hnk h)
  have HN2 := Lib.hid (fun h1 h2 => rulN_to (k := 1) (f := f) (t := t) (s := s) (P := P) (a := a) (b := b) hnk h1 h2)
  have HN3 := Lib.hid (fun h1 h2 h3 => rulN_form (k := 1) (f := f) (t := t) (s := s) (P := P) (a := a) (b := b) hnk h1 h2 h3)
  have HN4 := Lib.hid (fun h1 h2 h3 => rulN_kind (k := 1) (f := f) (t := t) (s := s) (P := P) (a := a) (b := b) hnk h1 h2 h3)
  clear hnk HF0 hP hA hB
  generalize hlenP : P.length = n at *
  generalize hlena : a.length = la at *
  generalize hlenb : b.length = lb at *
  have HLP := Lib.hid hlenP
  have HLA := Lib.hid hlena
  have HLB := Lib.hid hlenb
  clear hlenP hlena hlenb
  unfold maxLen at hlP
  go_enter Tryd.func77, Tryd.ntmps77
  go_wp2_with fail
  generalize ((w.alloc (.cells #[.int .i64 1, .int .i64 f, .int .i64 t, .string s, .slice B n cP] 53)).alloc (.cells #[.int .i64 st, .int .i64 v, .slice A la ca] 28)).alloc (.cells #[.int .i64 st', .int .i64 v', .slice A' lb cb] 28) = U at *
  refine (HI.out _ (HA.out.below HQ0.out.1)).mono ?_
  rintro e w1 ⟨rfl, hb1⟩
  have HQ1 := Lib.hid (HQ0.out.below hb1)
  clear hb1
  obtain ⟨⟨r0, r1, r2, r3, r4⟩, ⟨a0, a1, a2⟩, b0, b1, b2⟩ := HQ1.out.cells
  go_wp2_with fail
  refine (HJ.out _ (HB.out.below HQ1.out.1)).mono ?_
  rintro e w2 ⟨rfl, hb2⟩
  have HQ2 := Lib.hid (HQ1.out.below hb2)
  clear hb2 HI HJ HQ0 HQ1
  clear r0 r1 r2 r3 r4 a0 a1 a2 b0 b1 b2
  obtain ⟨⟨r0, r1, r2, r3, r4⟩, ⟨a0, a1, a2⟩, b0, b1, b2⟩ := HQ2.out.cells
  rcases fnd_cases f a with ⟨hi, hi2⟩ | ⟨i, hil, hi, hi2⟩
  · have HE := Lib.hid (HN1.out (by simp [rlA, hi2]))
    rw [hi]
    generalize fndI t 0 b = j at *
    clear hi hi2
    go_wp2
    go_ret
    exact ⟨by rw [HE.out] <;> rfl, HQ2.out.1⟩
  · rw [hi]
    have HRA : Hid (rlA 1 f a = true) := by show _ = _; simp [rlA, hi2]
    have HXA : Hid ((fndP f a).1 = spAt a i) := by show _ = _; rw [hi2]
    have HIL := Lib.hid hil
    have hi63 : i < la := by have := HLA.out; omega
    clear hi hi2 hil
    rcases fnd_cases t b with ⟨hj, hj2⟩ | ⟨j, hjl, hj, hj2⟩
    · have HE := Lib.hid (HN2.out HRA.out (by simp [rlB, hj2]))
      rw [hj]
      clear hj hj2
      go_wp2
      go_ret
      exact ⟨by rw [HE.out] <;> rfl, HQ2.out.1⟩
    · rw [hj]
      have HRB : Hid (rlB 1 t b = true) := by show _ = _; simp [rlB, hj2]
      have HXB : Hid ((fndP t b).1 = spAt b j) := by show _ = _; rw [hj2]
      have HJL := Lib.hid hjl
      have hj63 : j < lb := by have := HLB.out; omega
      clear hj hj2 hjl
      by_cases hs0 : s = ⟨#[]⟩
      · subst hs0
        by_cases hn0 : n = 0
        · subst hn0
          have HRC : Hid (rlC 1 ⟨#[]⟩ P = true) := by show _ = _; simp [rlC, noS, HLP.out]
          have HE4 := Lib.hid (HN4.out HRA.out HRB.out HRC.out)
          obtain ⟨aa, n1, c1, f1, lo1, hi1, rfl, hxa, hca⟩ := spl_all HA.out HIL.out
          obtain ⟨bb, n2, c2, f2, lo2, hi2, rfl, hxb, hcb⟩ := spl_all HB.out HJL.out
          rw [HXA.out, HXB.out, hxa, hxb] at HE4
          have HCA := Lib.hid hca
          have HCB := Lib.hid hcb
          have HW := Lib.hid (fun W => sprefWider_any n2 c2 f2 lo2 hi2 n1 c1 f1 lo1 hi1 W)
          have HE5 : Hid (rlK 1 (n1, c1, f1, lo1, hi1) (n2, c2, f2, lo2, hi2) ⟨#[]⟩ P = if spw n2 c2 f2 lo2 hi2 n1 c1 f1 lo1 hi1 then 0 else 6) := rfl
          generalize spw n2 c2 f2 lo2 hi2 n1 c1 f1 lo1 hi1 = r at *
          clear hca hcb hxa hxb HA HB HXA HXB
          go_wp2_with fail
          clear r0 r1 r2 r3 r4 a0 a1 a2 b0 b1 b2
          refine wp_region_noPanic ?_
          refine wp_region_held_drew (S := (RQ w 1 f t ⟨#[]⟩ B 0 cP st v (some aa) la ca st' v' (some bb) lb cb)) (by kernel_rfl) (HQ2.out.drew) (fun hS => ?_)
          refine gv 0 (v := ?_) (fun u hu => ?_) hS ?_
          rotate_left
          · ((obtain ⟨⟨r0, r1, r2, r3, r4⟩, ⟨a0, a1, a2⟩, b0, b1, b2⟩ := hu.cells; obtain ⟨x0, x1, x2, x3, x4⟩ := HCA.out _ hu.1; obtain ⟨y0, y1, y2, y3, y4⟩ := HCB.out _ hu.1); go_simp; try (with_reducible rfl))
          try simp only [puts]
          refine gv 1 (v := ?_) (fun u hu => ?_) hS ?_
          rotate_left
          · ((obtain ⟨⟨r0, r1, r2, r3, r4⟩, ⟨a0, a1, a2⟩, b0, b1, b2⟩ := hu.cells; obtain ⟨x0, x1, x2, x3, x4⟩ := HCA.out _ hu.1; obtain ⟨y0, y1, y2, y3, y4⟩ := HCB.out _ hu.1); go_simp; try (with_reducible rfl))
          try simp only [puts]
          refine gv 2 (v := ?_) (fun u hu => ?_) hS ?_
          rotate_left
          · ((obtain ⟨⟨r0, r1, r2, r3, r4⟩, ⟨a0, a1, a2⟩, b0, b1, b2⟩ := hu.cells; obtain ⟨x0, x1, x2, x3, x4⟩ := HCA.out _ hu.1; obtain ⟨y0, y1, y2, y3, y4⟩ := HCB.out _ hu.1); go_simp; try (with_reducible rfl))
          try simp only [puts]
          refine gv 3 (v := ?_) (fun u hu => ?_) hS ?_
          rotate_left
          · ((obtain ⟨⟨r0, r1, r2, r3, r4⟩, ⟨a0, a1, a2⟩, b0, b1, b2⟩ := hu.cells; obtain ⟨x0, x1, x2, x3, x4⟩ := HCA.out _ hu.1; obtain ⟨y0, y1, y2, y3, y4⟩ := HCB.out _ hu.1); go_simp; try (with_reducible rfl))
          try simp only [puts]
          refine gv 4 (v := ?_) (fun u hu => ?_) hS ?_
          rotate_left
          · ((obtain ⟨⟨r0, r1, r2, r3, r4⟩, ⟨a0, a1, a2⟩, b0, b1, b2⟩ := hu.cells; obtain ⟨x0, x1, x2, x3, x4⟩ := HCA.out _ hu.1; obtain ⟨y0, y1, y2, y3, y4⟩ := HCB.out _ hu.1); go_simp; try (with_reducible rfl))
          try simp only [puts]
          refine gv 5 (v := ?_) (fun u hu => ?_) hS ?_
          rotate_left
          · ((obtain ⟨⟨r0, r1, r2, r3, r4⟩, ⟨a0, a1, a2⟩, b0, b1, b2⟩ := hu.cells; obtain ⟨x0, x1, x2, x3, x4⟩ := HCA.out _ hu.1; obtain ⟨y0, y1, y2, y3, y4⟩ := HCB.out _ hu.1); go_simp; try (with_reducible rfl))
          try simp only [puts]
          refine gv 6 (v := ?_) (fun u hu => ?_) hS ?_
          rotate_left
          · ((obtain ⟨⟨r0, r1, r2, r3, r4⟩, ⟨a0, a1, a2⟩, b0, b1, b2⟩ := hu.cells; obtain ⟨x0, x1, x2, x3, x4⟩ := HCA.out _ hu.1; obtain ⟨y0, y1, y2, y3, y4⟩ := HCB.out _ hu.1); go_simp; try (with_reducible rfl))
          try simp only [puts]
          refine gv 7 (v := ?_) (fun u hu => ?_) hS ?_
          rotate_left
          · ((obtain ⟨⟨r0, r1, r2, r3, r4⟩, ⟨a0, a1, a2⟩, b0, b1, b2⟩ := hu.cells; obtain ⟨x0, x1, x2, x3, x4⟩ := HCA.out _ hu.1; obtain ⟨y0, y1, y2, y3, y4⟩ := HCB.out _ hu.1); go_simp; try (with_reducible rfl))
          try simp only [puts]
          refine gv 8 (v := ?_) (fun u hu => ?_) hS ?_
          rotate_left
          · ((obtain ⟨⟨r0, r1, r2, r3, r4⟩, ⟨a0, a1, a2⟩, b0, b1, b2⟩ := hu.cells; obtain ⟨x0, x1, x2, x3, x4⟩ := HCA.out _ hu.1; obtain ⟨y0, y1, y2, y3, y4⟩ := HCB.out _ hu.1); go_simp; try (with_reducible rfl))
          try simp only [puts]
          refine gv 9 (v := ?_) (fun u hu => ?_) hS ?_
          rotate_left
          · ((obtain ⟨⟨r0, r1, r2, r3, r4⟩, ⟨a0, a1, a2⟩, b0, b1, b2⟩ := hu.cells; obtain ⟨x0, x1, x2, x3, x4⟩ := HCA.out _ hu.1; obtain ⟨y0, y1, y2, y3, y4⟩ := HCB.out _ hu.1); go_simp; try (with_reducible rfl))
          try simp only [puts]
          refine only_call (i := 10) 35 #[.agg #[.int .i64 n2, .int .i64 c2, .int .i64 f2, .int .i64 lo2, .int .i64 hi2], .agg #[.int .i64 n1, .int .i64 c1, .int .i64 f1, .int .i64 lo1, .int .i64 hi1]] rfl (by kernel_rfl) (by rfl) ((HW.out _).mono fun e w' he => ⟨he.1, hS.below he.2⟩) ?_ ?_
          · (go_simp; try (with_reducible rfl))
          clear hS
          intro w10 hS
          try simp only [puts]
          refine gv 11 (v := ?_) (fun u hu => ?_) hS ?_
          rotate_left
          · ((obtain ⟨⟨r0, r1, r2, r3, r4⟩, ⟨a0, a1, a2⟩, b0, b1, b2⟩ := hu.cells; obtain ⟨x0, x1, x2, x3, x4⟩ := HCA.out _ hu.1; obtain ⟨y0, y1, y2, y3, y4⟩ := HCB.out _ hu.1); go_simp; try (with_reducible rfl))
          try simp only [puts]
          refine wpAnyH_done (by kernel_rfl) (NoPanic.normal ?_) _
          have HQ3 := Lib.hid hS
          clear hS
          cases r
          · go_wp2
            go_ret
            exact ⟨by rw [HE4.out, HE5.out] <;> rfl, HQ3.out.1⟩
          · go_wp2
            go_ret
            exact ⟨by rw [HE4.out, HE5.out] <;> rfl, HQ3.out.1⟩
        · have HE := Lib.hid (HN3.out HRA.out HRB.out (by simp [rlC, HLP.out, hn0]))
          have tn : 0 < n := by omega
          clear hn0
          go_wp2
          go_ret
          exact ⟨by rw [HE.out] <;> rfl, HQ2.out.1⟩
      · have HE := Lib.hid (HN3.out HRA.out HRB.out (by simp [rlC, noS, hs0]))
        have ts : s.toList.isEmpty = false := text_some hs0
        clear hs0
        go_wp2
        go_ret
        exact ⟨by rw [HE.out] <;> rfl, HQ2.out.1⟩
set_option maxRecDepth 100000 in
set_option maxHeartbeats 6400000 in
theorem rlref_2 (f t : Int) (s : ByteArray) (B : Option Addr) (cP : Nat) (P : List PairT) (st v : Int) (A : Option Addr) (ca : Nat) (a : List Sp) (st' v' : Int) (A' : Option Addr) (cb : Nat) (b : List Sp) (w : World) (hP : Prs w B P) (hA : Spl w A a) (hB : Spl w A' b) (hla : a.length ≤ 1000) (hlb : b.length ≤ 1000) (hlP : P.length ≤ maxLen) (_ : Fit2 P) (_ : s.size ≤ maxLen) : Calls Tryd.prog 77 #[.agg #[.int .i64 2, .int .i64 f, .int .i64 t, .string s, .slice B P.length cP], .agg #[.int .i64 st, .int .i64 v, .slice A a.length ca], .agg #[.int .i64 st', .int .i64 v', .slice A' b.length cb]] w fun e w' => e = .returned (.int .i64 (rulN 2 f t s P a b)) ∧ Below w.heap.size w w' := by
  have HI := Lib.hid (fun W h => sreffind_any st v A ca a f W h hla)
  have HJ := Lib.hid (fun W h => sreffind_any st' v' A' cb b t W h hlb)
  have HQ0 := Lib.hid (rq_new w 2 f t s B P.length cP st v A a.length ca st' v' A' b.length cb)
  have HA := Lib.hid hA
  have HB := Lib.hid hB
  have HP := Lib.hid hP
  have HF0 : Hid (∀ x, rulN 2 f t s P a b = x → rulN 2 f t s P a b = x) := fun _ h => h
  have hnk : ¬ ((2 : Int) < 1 ∨ 5 < (2 : Int)) := by omega
  have HN1 := Lib.hid (fun h => rulN_from (k := 2) (f := f) (t := t) (s := s) (P := P) (a := a) (b := b) hnk h)
  have HN2 := Lib.hid (fun h1 h2 => rulN_to (k := 2) (f := f) (t := t) (s := s) (P := P) (a := a) (b := b) hnk h1 h2)
  have HN3 := Lib.hid (fun h1 h2 h3 => rulN_form (k := 2) (f := f) (t := t) (s := s) (P := P) (a := a) (b := b) hnk h1 h2 h3)
  have HN4 := Lib.hid (fun h1 h2 h3 => rulN_kind (k := 2) (f := f) (t := t) (s := s) (P := P) (a := a) (b := b) hnk h1 h2 h3)
  clear hnk HF0 hP hA hB
  generalize hlenP : P.length = n at *
  generalize hlena : a.length = la at *
  generalize hlenb : b.length = lb at *
  have HLP := Lib.hid hlenP
  have HLA := Lib.hid hlena
  have HLB := Lib.hid hlenb
  clear hlenP hlena hlenb
  unfold maxLen at hlP
  go_enter Tryd.func77, Tryd.ntmps77
  go_wp2_with fail
  generalize ((w.alloc (.cells #[.int .i64 2, .int .i64 f, .int .i64 t, .string s, .slice B n cP] 53)).alloc (.cells #[.int .i64 st, .int .i64 v, .slice A la ca] 28)).alloc (.cells #[.int .i64 st', .int .i64 v', .slice A' lb cb] 28) = U at *
  refine (HI.out _ (HA.out.below HQ0.out.1)).mono ?_
  rintro e w1 ⟨rfl, hb1⟩
  have HQ1 := Lib.hid (HQ0.out.below hb1)
  clear hb1
  obtain ⟨⟨r0, r1, r2, r3, r4⟩, ⟨a0, a1, a2⟩, b0, b1, b2⟩ := HQ1.out.cells
  go_wp2_with fail
  refine (HJ.out _ (HB.out.below HQ1.out.1)).mono ?_
  rintro e w2 ⟨rfl, hb2⟩
  have HQ2 := Lib.hid (HQ1.out.below hb2)
  clear hb2 HI HJ HQ0 HQ1
  clear r0 r1 r2 r3 r4 a0 a1 a2 b0 b1 b2
  obtain ⟨⟨r0, r1, r2, r3, r4⟩, ⟨a0, a1, a2⟩, b0, b1, b2⟩ := HQ2.out.cells
  rcases fnd_cases f a with ⟨hi, hi2⟩ | ⟨i, hil, hi, hi2⟩
  · have HE := Lib.hid (HN1.out (by simp [rlA, hi2]))
    rw [hi]
    generalize fndI t 0 b = j at *
    clear hi hi2
    go_wp2
    go_ret
    exact ⟨by rw [HE.out] <;> rfl, HQ2.out.1⟩
  · rw [hi]
    have HRA : Hid (rlA 2 f a = true) := by show _ = _; simp [rlA, hi2]
    have HXA : Hid ((fndP f a).1 = spAt a i) := by show _ = _; rw [hi2]
    have HIL := Lib.hid hil
    have hi63 : i < la := by have := HLA.out; omega
    clear hi hi2 hil
    generalize fndI t 0 b = j at *
    by_cases ht0 : t = 0
    · subst ht0
      have HRB : Hid (rlB 2 0 b = true) := rfl
      by_cases hs0 : s = ⟨#[]⟩
      · subst hs0
        by_cases hn0 : n = 0
        · subst hn0
          have HRC : Hid (rlC 2 ⟨#[]⟩ P = true) := by show _ = _; simp [rlC, noS, HLP.out]
          have HE4 := Lib.hid (HN4.out HRA.out HRB.out HRC.out)
          go_wp2
          go_ret
          exact ⟨by rw [HE4.out] <;> rfl, HQ2.out.1⟩
        · have HE := Lib.hid (HN3.out HRA.out HRB.out (by simp [rlC, HLP.out, hn0]))
          have tn : 0 < n := by omega
          clear hn0
          go_wp2
          go_ret
          exact ⟨by rw [HE.out] <;> rfl, HQ2.out.1⟩
      · have HE := Lib.hid (HN3.out HRA.out HRB.out (by simp [rlC, noS, hs0]))
        have ts : s.toList.isEmpty = false := text_some hs0
        clear hs0
        go_wp2
        go_ret
        exact ⟨by rw [HE.out] <;> rfl, HQ2.out.1⟩
    · have HE := Lib.hid (HN2.out HRA.out (by simp [rlB, ht0]))
      have tt : (t != 0) = true := by simpa using ht0
      clear ht0
      go_wp2
      go_ret
      exact ⟨by rw [HE.out] <;> rfl, HQ2.out.1⟩
set_option maxRecDepth 100000 in
set_option maxHeartbeats 6400000 in
theorem rlref_3s (f t : Int) (s : ByteArray) (B : Option Addr) (cP : Nat) (P : List PairT) (st v : Int) (A : Option Addr) (ca : Nat) (a : List Sp) (st' v' : Int) (A' : Option Addr) (cb : Nat) (b : List Sp) (w : World) (hP : Prs w B P) (hA : Spl w A a) (hB : Spl w A' b) (hla : a.length ≤ 1000) (hlb : b.length ≤ 1000) (hlP : P.length ≤ maxLen) (_ : Fit2 P) (hs : s.size ≤ maxLen) (hts : s.toList.isEmpty = false) : Calls Tryd.prog 77 #[.agg #[.int .i64 3, .int .i64 f, .int .i64 t, .string s, .slice B P.length cP], .agg #[.int .i64 st, .int .i64 v, .slice A a.length ca], .agg #[.int .i64 st', .int .i64 v', .slice A' b.length cb]] w fun e w' => e = .returned (.int .i64 (rulN 3 f t s P a b)) ∧ Below w.heap.size w w' := by
  have HI := Lib.hid (fun W h => sreffind_any st v A ca a f W h hla)
  have HJ := Lib.hid (fun W h => sreffind_any st' v' A' cb b t W h hlb)
  have HQ0 := Lib.hid (rq_new w 3 f t s B P.length cP st v A a.length ca st' v' A' b.length cb)
  have HA := Lib.hid hA
  have HB := Lib.hid hB
  have HP := Lib.hid hP
  have HS := Lib.hid hs
  have HF0 : Hid (∀ x, rulN 3 f t s P a b = x → rulN 3 f t s P a b = x) := fun _ h => h
  have hnk : ¬ ((3 : Int) < 1 ∨ 5 < (3 : Int)) := by omega
  have HN1 := Lib.hid (fun h => rulN_from (k := 3) (f := f) (t := t) (s := s) (P := P) (a := a) (b := b) hnk h)
  have HN2 := Lib.hid (fun h1 h2 => rulN_to (k := 3) (f := f) (t := t) (s := s) (P := P) (a := a) (b := b) hnk h1 h2)
  have HN3 := Lib.hid (fun h1 h2 h3 => rulN_form (k := 3) (f := f) (t := t) (s := s) (P := P) (a := a) (b := b) hnk h1 h2 h3)
  have HN4 := Lib.hid (fun h1 h2 h3 => rulN_kind (k := 3) (f := f) (t := t) (s := s) (P := P) (a := a) (b := b) hnk h1 h2 h3)
  clear hnk HF0 hP hA hB hs
  generalize hlenP : P.length = n at *
  generalize hlena : a.length = la at *
  generalize hlenb : b.length = lb at *
  have HLP := Lib.hid hlenP
  have HLA := Lib.hid hlena
  have HLB := Lib.hid hlenb
  clear hlenP hlena hlenb
  unfold maxLen at hlP
  go_enter Tryd.func77, Tryd.ntmps77
  go_wp2_with fail
  generalize ((w.alloc (.cells #[.int .i64 3, .int .i64 f, .int .i64 t, .string s, .slice B n cP] 53)).alloc (.cells #[.int .i64 st, .int .i64 v, .slice A la ca] 28)).alloc (.cells #[.int .i64 st', .int .i64 v', .slice A' lb cb] 28) = U at *
  refine (HI.out _ (HA.out.below HQ0.out.1)).mono ?_
  rintro e w1 ⟨rfl, hb1⟩
  have HQ1 := Lib.hid (HQ0.out.below hb1)
  clear hb1
  obtain ⟨⟨r0, r1, r2, r3, r4⟩, ⟨a0, a1, a2⟩, b0, b1, b2⟩ := HQ1.out.cells
  go_wp2_with fail
  refine (HJ.out _ (HB.out.below HQ1.out.1)).mono ?_
  rintro e w2 ⟨rfl, hb2⟩
  have HQ2 := Lib.hid (HQ1.out.below hb2)
  clear hb2 HI HJ HQ0 HQ1
  clear r0 r1 r2 r3 r4 a0 a1 a2 b0 b1 b2
  obtain ⟨⟨r0, r1, r2, r3, r4⟩, ⟨a0, a1, a2⟩, b0, b1, b2⟩ := HQ2.out.cells
  generalize fndI f 0 a = i at *
  by_cases hf0 : f = 0
  · subst hf0
    have HRA : Hid (rlA 3 0 a = true) := rfl
    rcases fnd_cases t b with ⟨hj, hj2⟩ | ⟨j, hjl, hj, hj2⟩
    · have HE := Lib.hid (HN2.out HRA.out (by simp [rlB, hj2]))
      rw [hj]
      clear hj hj2
      go_wp2
      go_ret
      exact ⟨by rw [HE.out] <;> rfl, HQ2.out.1⟩
    · rw [hj]
      have HRB : Hid (rlB 3 t b = true) := by show _ = _; simp [rlB, hj2]
      have HXB : Hid ((fndP t b).1 = spAt b j) := by show _ = _; rw [hj2]
      have HJL := Lib.hid hjl
      have hj63 : j < lb := by have := HLB.out; omega
      clear hj hj2 hjl
      by_cases hn0 : n = 0
      · subst hn0
        have HRC : Hid (rlC 3 s P = true) := by show _ = _; simp [rlC, noS, HLP.out]
        have HE4 := Lib.hid (HN4.out HRA.out HRB.out HRC.out)
        obtain ⟨bb, n2, c2, f2, lo2, hi2, rfl, hxb, hcb⟩ := spl_all HB.out HJL.out
        rw [HXB.out, hxb] at HE4
        have HCB := Lib.hid hcb
        have HW := Lib.hid (fun W => sprefValue_any n2 c2 f2 lo2 hi2 s W HS.out)
        have HE5 : Hid (∀ x, rlK 3 x (n2, c2, f2, lo2, hi2) s P = spv n2 c2 f2 lo2 hi2 s) := fun _ => rfl
        generalize spv n2 c2 f2 lo2 hi2 s = r at *
        clear hcb hxb HA HB HXB
        go_wp2_with fail
        clear r0 r1 r2 r3 r4 a0 a1 a2 b0 b1 b2
        refine wp_region_noPanic ?_
        refine wp_region_held_drew (S := (RQ w 3 0 t s B 0 cP st v A la ca st' v' (some bb) lb cb)) (by kernel_rfl) (HQ2.out.drew) (fun hS => ?_)
        refine gv 0 (v := ?_) (fun u hu => ?_) hS ?_
        rotate_left
        · ((obtain ⟨⟨r0, r1, r2, r3, r4⟩, ⟨a0, a1, a2⟩, b0, b1, b2⟩ := hu.cells; obtain ⟨y0, y1, y2, y3, y4⟩ := HCB.out _ hu.1); go_simp; try (with_reducible rfl))
        try simp only [puts]
        refine gv 1 (v := ?_) (fun u hu => ?_) hS ?_
        rotate_left
        · ((obtain ⟨⟨r0, r1, r2, r3, r4⟩, ⟨a0, a1, a2⟩, b0, b1, b2⟩ := hu.cells; obtain ⟨y0, y1, y2, y3, y4⟩ := HCB.out _ hu.1); go_simp; try (with_reducible rfl))
        try simp only [puts]
        refine gv 2 (v := ?_) (fun u hu => ?_) hS ?_
        rotate_left
        · ((obtain ⟨⟨r0, r1, r2, r3, r4⟩, ⟨a0, a1, a2⟩, b0, b1, b2⟩ := hu.cells; obtain ⟨y0, y1, y2, y3, y4⟩ := HCB.out _ hu.1); go_simp; try (with_reducible rfl))
        try simp only [puts]
        refine gv 3 (v := ?_) (fun u hu => ?_) hS ?_
        rotate_left
        · ((obtain ⟨⟨r0, r1, r2, r3, r4⟩, ⟨a0, a1, a2⟩, b0, b1, b2⟩ := hu.cells; obtain ⟨y0, y1, y2, y3, y4⟩ := HCB.out _ hu.1); go_simp; try (with_reducible rfl))
        try simp only [puts]
        refine gv 4 (v := ?_) (fun u hu => ?_) hS ?_
        rotate_left
        · ((obtain ⟨⟨r0, r1, r2, r3, r4⟩, ⟨a0, a1, a2⟩, b0, b1, b2⟩ := hu.cells; obtain ⟨y0, y1, y2, y3, y4⟩ := HCB.out _ hu.1); go_simp; try (with_reducible rfl))
        try simp only [puts]
        refine gv 5 (v := ?_) (fun u hu => ?_) hS ?_
        rotate_left
        · ((obtain ⟨⟨r0, r1, r2, r3, r4⟩, ⟨a0, a1, a2⟩, b0, b1, b2⟩ := hu.cells; obtain ⟨y0, y1, y2, y3, y4⟩ := HCB.out _ hu.1); go_simp; try (with_reducible rfl))
        try simp only [puts]
        refine gv 6 (v := ?_) (fun u hu => ?_) hS ?_
        rotate_left
        · ((obtain ⟨⟨r0, r1, r2, r3, r4⟩, ⟨a0, a1, a2⟩, b0, b1, b2⟩ := hu.cells; obtain ⟨y0, y1, y2, y3, y4⟩ := HCB.out _ hu.1); go_simp; try (with_reducible rfl))
        try simp only [puts]
        refine only_call (i := 7) 95 #[.agg #[.int .i64 n2, .int .i64 c2, .int .i64 f2, .int .i64 lo2, .int .i64 hi2], .string s] rfl (by kernel_rfl) (by rfl) ((HW.out _).mono fun e w' he => ⟨he.1, hS.below he.2⟩) ?_ ?_
        · (go_simp; try (with_reducible rfl))
        clear hS
        intro w7 hS
        try simp only [puts]
        refine gv 8 (v := ?_) (fun u hu => ?_) hS ?_
        rotate_left
        · ((obtain ⟨⟨r0, r1, r2, r3, r4⟩, ⟨a0, a1, a2⟩, b0, b1, b2⟩ := hu.cells; obtain ⟨y0, y1, y2, y3, y4⟩ := HCB.out _ hu.1); go_simp; try (with_reducible rfl))
        try simp only [puts]
        refine wpAnyH_done (by kernel_rfl) (NoPanic.normal ?_) _
        have HQ3 := Lib.hid hS
        clear hS
        go_wp2
        go_ret
        exact ⟨by rw [HE4.out, HE5.out] <;> rfl, HQ3.out.1⟩
      · have HE := Lib.hid (HN3.out HRA.out HRB.out (by simp [rlC, HLP.out, hn0]))
        have tn : 0 < n := by omega
        clear hn0
        go_wp2
        go_ret
        exact ⟨by rw [HE.out] <;> rfl, HQ2.out.1⟩
  · have HE := Lib.hid (HN1.out (by simp [rlA, hf0]))
    have tf : (f != 0) = true := by simpa using hf0
    generalize fndI t 0 b = j at *
    clear hf0
    go_wp2
    go_ret
    exact ⟨by rw [HE.out] <;> rfl, HQ2.out.1⟩
set_option maxRecDepth 100000 in
set_option maxHeartbeats 6400000 in
theorem rlref_3e (f t : Int) (B : Option Addr) (cP : Nat) (P : List PairT) (st v : Int) (A : Option Addr) (ca : Nat) (a : List Sp) (st' v' : Int) (A' : Option Addr) (cb : Nat) (b : List Sp) (w : World) (hP : Prs w B P) (hA : Spl w A a) (hB : Spl w A' b) (hla : a.length ≤ 1000) (hlb : b.length ≤ 1000) (hlP : P.length ≤ maxLen) (_ : Fit2 P)  : Calls Tryd.prog 77 #[.agg #[.int .i64 3, .int .i64 f, .int .i64 t, .string ⟨#[]⟩, .slice B P.length cP], .agg #[.int .i64 st, .int .i64 v, .slice A a.length ca], .agg #[.int .i64 st', .int .i64 v', .slice A' b.length cb]] w fun e w' => e = .returned (.int .i64 (rulN 3 f t ⟨#[]⟩ P a b)) ∧ Below w.heap.size w w' := by
  have HI := Lib.hid (fun W h => sreffind_any st v A ca a f W h hla)
  have HJ := Lib.hid (fun W h => sreffind_any st' v' A' cb b t W h hlb)
  have HQ0 := Lib.hid (rq_new w 3 f t ⟨#[]⟩ B P.length cP st v A a.length ca st' v' A' b.length cb)
  have HA := Lib.hid hA
  have HB := Lib.hid hB
  have HP := Lib.hid hP
  have HF0 : Hid (∀ x, rulN 3 f t ⟨#[]⟩ P a b = x → rulN 3 f t ⟨#[]⟩ P a b = x) := fun _ h => h
  have hnk : ¬ ((3 : Int) < 1 ∨ 5 < (3 : Int)) := by omega
  have HN1 := Lib.hid (fun h => rulN_from (k := 3) (f := f) (t := t) (s := ⟨#[]⟩) (P := P) (a := a) (b := b) hnk h)
  have HN2 := Lib.hid (fun h1 h2 => rulN_to (k := 3) (f := f) (t := t) (s := ⟨#[]⟩) (P := P) (a := a) (b := b) hnk h1 h2)
  have HN3 := Lib.hid (fun h1 h2 h3 => rulN_form (k := 3) (f := f) (t := t) (s := ⟨#[]⟩) (P := P) (a := a) (b := b) hnk h1 h2 h3)
  have HN4 := Lib.hid (fun h1 h2 h3 => rulN_kind (k := 3) (f := f) (t := t) (s := ⟨#[]⟩) (P := P) (a := a) (b := b) hnk h1 h2 h3)
  clear hnk HF0 hP hA hB
  generalize hlenP : P.length = n at *
  generalize hlena : a.length = la at *
  generalize hlenb : b.length = lb at *
  have HLP := Lib.hid hlenP
  have HLA := Lib.hid hlena
  have HLB := Lib.hid hlenb
  clear hlenP hlena hlenb
  unfold maxLen at hlP
  go_enter Tryd.func77, Tryd.ntmps77
  go_wp2_with fail
  generalize ((w.alloc (.cells #[.int .i64 3, .int .i64 f, .int .i64 t, .string ⟨#[]⟩, .slice B n cP] 53)).alloc (.cells #[.int .i64 st, .int .i64 v, .slice A la ca] 28)).alloc (.cells #[.int .i64 st', .int .i64 v', .slice A' lb cb] 28) = U at *
  refine (HI.out _ (HA.out.below HQ0.out.1)).mono ?_
  rintro e w1 ⟨rfl, hb1⟩
  have HQ1 := Lib.hid (HQ0.out.below hb1)
  clear hb1
  obtain ⟨⟨r0, r1, r2, r3, r4⟩, ⟨a0, a1, a2⟩, b0, b1, b2⟩ := HQ1.out.cells
  go_wp2_with fail
  refine (HJ.out _ (HB.out.below HQ1.out.1)).mono ?_
  rintro e w2 ⟨rfl, hb2⟩
  have HQ2 := Lib.hid (HQ1.out.below hb2)
  clear hb2 HI HJ HQ0 HQ1
  clear r0 r1 r2 r3 r4 a0 a1 a2 b0 b1 b2
  obtain ⟨⟨r0, r1, r2, r3, r4⟩, ⟨a0, a1, a2⟩, b0, b1, b2⟩ := HQ2.out.cells
  generalize fndI f 0 a = i at *
  by_cases hf0 : f = 0
  · subst hf0
    have HRA : Hid (rlA 3 0 a = true) := rfl
    rcases fnd_cases t b with ⟨hj, hj2⟩ | ⟨j, hjl, hj, hj2⟩
    · have HE := Lib.hid (HN2.out HRA.out (by simp [rlB, hj2]))
      rw [hj]
      clear hj hj2
      go_wp2
      go_ret
      exact ⟨by rw [HE.out] <;> rfl, HQ2.out.1⟩
    · rw [hj]
      have HRB : Hid (rlB 3 t b = true) := by show _ = _; simp [rlB, hj2]
      have HXB : Hid ((fndP t b).1 = spAt b j) := by show _ = _; rw [hj2]
      have HJL := Lib.hid hjl
      have hj63 : j < lb := by have := HLB.out; omega
      clear hj hj2 hjl
      by_cases hn0 : n = 0
      · subst hn0
        have HRC : Hid (rlC 3 ⟨#[]⟩ P = true) := by show _ = _; simp [rlC, noS, HLP.out]
        have HE4 := Lib.hid (HN4.out HRA.out HRB.out HRC.out)
        obtain ⟨bb, n2, c2, f2, lo2, hi2, rfl, hxb, hcb⟩ := spl_all HB.out HJL.out
        rw [HXB.out, hxb] at HE4
        have HCB := Lib.hid hcb
        have HW := Lib.hid (fun W => sprefValue_any n2 c2 f2 lo2 hi2 ⟨#[]⟩ W (Nat.zero_le _))
        have HE5 : Hid (∀ x, rlK 3 x (n2, c2, f2, lo2, hi2) ⟨#[]⟩ P = spv n2 c2 f2 lo2 hi2 ⟨#[]⟩) := fun _ => rfl
        generalize spv n2 c2 f2 lo2 hi2 ⟨#[]⟩ = r at *
        clear hcb hxb HA HB HXB
        go_wp2_with fail
        clear r0 r1 r2 r3 r4 a0 a1 a2 b0 b1 b2
        refine wp_region_noPanic ?_
        refine wp_region_held_drew (S := (RQ w 3 0 t ⟨#[]⟩ B 0 cP st v A la ca st' v' (some bb) lb cb)) (by kernel_rfl) (HQ2.out.drew) (fun hS => ?_)
        refine gv 0 (v := ?_) (fun u hu => ?_) hS ?_
        rotate_left
        · ((obtain ⟨⟨r0, r1, r2, r3, r4⟩, ⟨a0, a1, a2⟩, b0, b1, b2⟩ := hu.cells; obtain ⟨y0, y1, y2, y3, y4⟩ := HCB.out _ hu.1); go_simp; try (with_reducible rfl))
        try simp only [puts]
        refine gv 1 (v := ?_) (fun u hu => ?_) hS ?_
        rotate_left
        · ((obtain ⟨⟨r0, r1, r2, r3, r4⟩, ⟨a0, a1, a2⟩, b0, b1, b2⟩ := hu.cells; obtain ⟨y0, y1, y2, y3, y4⟩ := HCB.out _ hu.1); go_simp; try (with_reducible rfl))
        try simp only [puts]
        refine gv 2 (v := ?_) (fun u hu => ?_) hS ?_
        rotate_left
        · ((obtain ⟨⟨r0, r1, r2, r3, r4⟩, ⟨a0, a1, a2⟩, b0, b1, b2⟩ := hu.cells; obtain ⟨y0, y1, y2, y3, y4⟩ := HCB.out _ hu.1); go_simp; try (with_reducible rfl))
        try simp only [puts]
        refine gv 3 (v := ?_) (fun u hu => ?_) hS ?_
        rotate_left
        · ((obtain ⟨⟨r0, r1, r2, r3, r4⟩, ⟨a0, a1, a2⟩, b0, b1, b2⟩ := hu.cells; obtain ⟨y0, y1, y2, y3, y4⟩ := HCB.out _ hu.1); go_simp; try (with_reducible rfl))
        try simp only [puts]
        refine gv 4 (v := ?_) (fun u hu => ?_) hS ?_
        rotate_left
        · ((obtain ⟨⟨r0, r1, r2, r3, r4⟩, ⟨a0, a1, a2⟩, b0, b1, b2⟩ := hu.cells; obtain ⟨y0, y1, y2, y3, y4⟩ := HCB.out _ hu.1); go_simp; try (with_reducible rfl))
        try simp only [puts]
        refine gv 5 (v := ?_) (fun u hu => ?_) hS ?_
        rotate_left
        · ((obtain ⟨⟨r0, r1, r2, r3, r4⟩, ⟨a0, a1, a2⟩, b0, b1, b2⟩ := hu.cells; obtain ⟨y0, y1, y2, y3, y4⟩ := HCB.out _ hu.1); go_simp; try (with_reducible rfl))
        try simp only [puts]
        refine gv 6 (v := ?_) (fun u hu => ?_) hS ?_
        rotate_left
        · ((obtain ⟨⟨r0, r1, r2, r3, r4⟩, ⟨a0, a1, a2⟩, b0, b1, b2⟩ := hu.cells; obtain ⟨y0, y1, y2, y3, y4⟩ := HCB.out _ hu.1); go_simp; try (with_reducible rfl))
        try simp only [puts]
        refine only_call (i := 7) 95 #[.agg #[.int .i64 n2, .int .i64 c2, .int .i64 f2, .int .i64 lo2, .int .i64 hi2], .string ⟨#[]⟩] rfl (by kernel_rfl) (by rfl) ((HW.out _).mono fun e w' he => ⟨he.1, hS.below he.2⟩) ?_ ?_
        · (go_simp; try (with_reducible rfl))
        clear hS
        intro w7 hS
        try simp only [puts]
        refine gv 8 (v := ?_) (fun u hu => ?_) hS ?_
        rotate_left
        · ((obtain ⟨⟨r0, r1, r2, r3, r4⟩, ⟨a0, a1, a2⟩, b0, b1, b2⟩ := hu.cells; obtain ⟨y0, y1, y2, y3, y4⟩ := HCB.out _ hu.1); go_simp; try (with_reducible rfl))
        try simp only [puts]
        refine wpAnyH_done (by kernel_rfl) (NoPanic.normal ?_) _
        have HQ3 := Lib.hid hS
        clear hS
        go_wp2
        go_ret
        exact ⟨by rw [HE4.out, HE5.out] <;> rfl, HQ3.out.1⟩
      · have HE := Lib.hid (HN3.out HRA.out HRB.out (by simp [rlC, HLP.out, hn0]))
        have tn : 0 < n := by omega
        clear hn0
        go_wp2
        go_ret
        exact ⟨by rw [HE.out] <;> rfl, HQ2.out.1⟩
  · have HE := Lib.hid (HN1.out (by simp [rlA, hf0]))
    have tf : (f != 0) = true := by simpa using hf0
    generalize fndI t 0 b = j at *
    clear hf0
    go_wp2
    go_ret
    exact ⟨by rw [HE.out] <;> rfl, HQ2.out.1⟩
theorem rlref_3 (f t : Int) (s : ByteArray) (B : Option Addr) (cP : Nat) (P : List PairT) (st v : Int) (A : Option Addr) (ca : Nat) (a : List Sp) (st' v' : Int) (A' : Option Addr) (cb : Nat) (b : List Sp) (w : World) (hP : Prs w B P) (hA : Spl w A a) (hB : Spl w A' b) (hla : a.length ≤ 1000) (hlb : b.length ≤ 1000) (hlP : P.length ≤ maxLen) (hf : Fit2 P) (hs : s.size ≤ maxLen) : Calls Tryd.prog 77 #[.agg #[.int .i64 3, .int .i64 f, .int .i64 t, .string s, .slice B P.length cP], .agg #[.int .i64 st, .int .i64 v, .slice A a.length ca], .agg #[.int .i64 st', .int .i64 v', .slice A' b.length cb]] w fun e w' => e = .returned (.int .i64 (rulN 3 f t s P a b)) ∧ Below w.heap.size w w' := by
  by_cases h : s = ⟨#[]⟩
  · subst h
    exact rlref_3e f t B cP P st v A ca a st' v' A' cb b w hP hA hB hla hlb hlP hf
  · exact rlref_3s f t s B cP P st v A ca a st' v' A' cb b w hP hA hB hla hlb hlP hf hs (text_some h)
set_option maxRecDepth 100000 in
set_option maxHeartbeats 6400000 in
theorem rlref_4 (f t : Int) (s : ByteArray) (B : Option Addr) (cP : Nat) (P : List PairT) (st v : Int) (A : Option Addr) (ca : Nat) (a : List Sp) (st' v' : Int) (A' : Option Addr) (cb : Nat) (b : List Sp) (w : World) (hP : Prs w B P) (hA : Spl w A a) (hB : Spl w A' b) (hla : a.length ≤ 1000) (hlb : b.length ≤ 1000) (hlP : P.length ≤ maxLen) (_ : Fit2 P) (_ : s.size ≤ maxLen) : Calls Tryd.prog 77 #[.agg #[.int .i64 4, .int .i64 f, .int .i64 t, .string s, .slice B P.length cP], .agg #[.int .i64 st, .int .i64 v, .slice A a.length ca], .agg #[.int .i64 st', .int .i64 v', .slice A' b.length cb]] w fun e w' => e = .returned (.int .i64 (rulN 4 f t s P a b)) ∧ Below w.heap.size w w' := by
  have HI := Lib.hid (fun W h => sreffind_any st v A ca a f W h hla)
  have HJ := Lib.hid (fun W h => sreffind_any st' v' A' cb b t W h hlb)
  have HQ0 := Lib.hid (rq_new w 4 f t s B P.length cP st v A a.length ca st' v' A' b.length cb)
  have HA := Lib.hid hA
  have HB := Lib.hid hB
  have HP := Lib.hid hP
  have HF0 : Hid (∀ x, rulN 4 f t s P a b = x → rulN 4 f t s P a b = x) := fun _ h => h
  have hnk : ¬ ((4 : Int) < 1 ∨ 5 < (4 : Int)) := by omega
  have HN1 := Lib.hid (fun h => rulN_from (k := 4) (f := f) (t := t) (s := s) (P := P) (a := a) (b := b) hnk h)
  have HN2 := Lib.hid (fun h1 h2 => rulN_to (k := 4) (f := f) (t := t) (s := s) (P := P) (a := a) (b := b) hnk h1 h2)
  have HN3 := Lib.hid (fun h1 h2 h3 => rulN_form (k := 4) (f := f) (t := t) (s := s) (P := P) (a := a) (b := b) hnk h1 h2 h3)
  have HN4 := Lib.hid (fun h1 h2 h3 => rulN_kind (k := 4) (f := f) (t := t) (s := s) (P := P) (a := a) (b := b) hnk h1 h2 h3)
  clear hnk HF0 hP hA hB
  generalize hlenP : P.length = n at *
  generalize hlena : a.length = la at *
  generalize hlenb : b.length = lb at *
  have HLP := Lib.hid hlenP
  have HLA := Lib.hid hlena
  have HLB := Lib.hid hlenb
  clear hlenP hlena hlenb
  unfold maxLen at hlP
  go_enter Tryd.func77, Tryd.ntmps77
  go_wp2_with fail
  generalize ((w.alloc (.cells #[.int .i64 4, .int .i64 f, .int .i64 t, .string s, .slice B n cP] 53)).alloc (.cells #[.int .i64 st, .int .i64 v, .slice A la ca] 28)).alloc (.cells #[.int .i64 st', .int .i64 v', .slice A' lb cb] 28) = U at *
  refine (HI.out _ (HA.out.below HQ0.out.1)).mono ?_
  rintro e w1 ⟨rfl, hb1⟩
  have HQ1 := Lib.hid (HQ0.out.below hb1)
  clear hb1
  obtain ⟨⟨r0, r1, r2, r3, r4⟩, ⟨a0, a1, a2⟩, b0, b1, b2⟩ := HQ1.out.cells
  go_wp2_with fail
  refine (HJ.out _ (HB.out.below HQ1.out.1)).mono ?_
  rintro e w2 ⟨rfl, hb2⟩
  have HQ2 := Lib.hid (HQ1.out.below hb2)
  clear hb2 HI HJ HQ0 HQ1
  clear r0 r1 r2 r3 r4 a0 a1 a2 b0 b1 b2
  obtain ⟨⟨r0, r1, r2, r3, r4⟩, ⟨a0, a1, a2⟩, b0, b1, b2⟩ := HQ2.out.cells
  rcases fnd_cases f a with ⟨hi, hi2⟩ | ⟨i, hil, hi, hi2⟩
  · have HE := Lib.hid (HN1.out (by simp [rlA, hi2]))
    rw [hi]
    generalize fndI t 0 b = j at *
    clear hi hi2
    go_wp2
    go_ret
    exact ⟨by rw [HE.out] <;> rfl, HQ2.out.1⟩
  · rw [hi]
    have HRA : Hid (rlA 4 f a = true) := by show _ = _; simp [rlA, hi2]
    have HXA : Hid ((fndP f a).1 = spAt a i) := by show _ = _; rw [hi2]
    have HIL := Lib.hid hil
    have hi63 : i < la := by have := HLA.out; omega
    clear hi hi2 hil
    rcases fnd_cases t b with ⟨hj, hj2⟩ | ⟨j, hjl, hj, hj2⟩
    · have HE := Lib.hid (HN2.out HRA.out (by simp [rlB, hj2]))
      rw [hj]
      clear hj hj2
      go_wp2
      go_ret
      exact ⟨by rw [HE.out] <;> rfl, HQ2.out.1⟩
    · rw [hj]
      have HRB : Hid (rlB 4 t b = true) := by show _ = _; simp [rlB, hj2]
      have HXB : Hid ((fndP t b).1 = spAt b j) := by show _ = _; rw [hj2]
      have HJL := Lib.hid hjl
      have hj63 : j < lb := by have := HLB.out; omega
      clear hj hj2 hjl
      by_cases hs0 : s = ⟨#[]⟩
      · subst hs0
        by_cases hn0 : n = 0
        · subst hn0
          have HRC : Hid (rlC 4 ⟨#[]⟩ P = true) := by show _ = _; simp [rlC, noS, HLP.out]
          have HE4 := Lib.hid (HN4.out HRA.out HRB.out HRC.out)
          obtain ⟨aa, n1, c1, f1, lo1, hi1, rfl, hxa, hca⟩ := spl_all HA.out HIL.out
          obtain ⟨bb, n2, c2, f2, lo2, hi2, rfl, hxb, hcb⟩ := spl_all HB.out HJL.out
          rw [HXA.out, HXB.out, hxa, hxb] at HE4
          have HE5 : Hid (rlK 4 (n1, c1, f1, lo1, hi1) (n2, c2, f2, lo2, hi2) ⟨#[]⟩ P = if ((c1 == 1) && (f1 == 1)) && ((c2 == 1) && (f2 == 1)) then 0 else 6) := rfl
          have HV1 := Lib.hid (HQ2.out.below (below_al w2 (.cells #[.int .i64 n1, .int .i64 c1, .int .i64 f1, .int .i64 lo1, .int .i64 hi1] 70)))
          have HV2 := Lib.hid (HV1.out.below (below_al _ (.cells #[.int .i64 n2, .int .i64 c2, .int .i64 f2, .int .i64 lo2, .int .i64 hi2] 70)))
          obtain ⟨x0, x1, x2, x3, x4⟩ := hca _ HQ2.out.1
          obtain ⟨y0, y1, y2, y3, y4⟩ := hcb _ HV1.out.1
          obtain ⟨⟨s0, s1, s2, s3, s4⟩, ⟨p0, p1, p2⟩, q0, q1, q2⟩ := HV1.out.cells
          obtain ⟨z0, z1, z2, z3, z4⟩ := obj_cells5 (obj_below (heap_alloc_new w2 (.cells #[.int .i64 n1, .int .i64 c1, .int .i64 f1, .int .i64 lo1, .int .i64 hi1] 70)) (below_al _ (.cells #[.int .i64 n2, .int .i64 c2, .int .i64 f2, .int .i64 lo2, .int .i64 hi2] 70)))
          clear hca hcb hxa hxb HA HB HXA HXB
          have te : ∀ y : Int, (y == 1) = false → (y != 1) = true := fun y h => by simp [bne, h]
          by_cases k1 : c1 = 1
          · subst k1
            by_cases k2 : f1 = 1
            · subst k2
              by_cases k3 : c2 = 1
              · subst k3
                by_cases k4 : f2 = 1
                · subst k4
                  go_wp2
                  go_ret
                  exact ⟨by rw [HE4.out, HE5.out] <;> rfl, HV2.out.1⟩
                · have t1 : (f2 != 1) = true := by simpa using k4
                  have t0 : (f2 == 1) = false := by simpa using k4
                  clear k4 te
                  go_wp2
                  go_ret
                  exact ⟨by rw [HE4.out, HE5.out] <;> simp [t0], HV2.out.1⟩
              · have t1 : (c2 != 1) = true := by simpa using k3
                have t0 : (c2 == 1) = false := by simpa using k3
                clear k3 te
                go_wp2
                go_ret
                exact ⟨by rw [HE4.out, HE5.out] <;> simp [t0], HV2.out.1⟩
            · have t1 : (f1 != 1) = true := by simpa using k2
              have t0 : (f1 == 1) = false := by simpa using k2
              clear k2 te
              go_wp2
              go_ret
              exact ⟨by rw [HE4.out, HE5.out] <;> simp [t0], HV2.out.1⟩
          · have t1 : (c1 != 1) = true := by simpa using k1
            have HE6 : Hid ((((c1 == 1) && (f1 == 1)) && ((c2 == 1) && (f2 == 1))) = false) := by show _ = _; simp [k1]
            clear k1 te
            go_wp2
            go_ret
            exact ⟨by rw [HE4.out, HE5.out] <;> simp [HE6.out], HV2.out.1⟩
        · have HE := Lib.hid (HN3.out HRA.out HRB.out (by simp [rlC, HLP.out, hn0]))
          have tn : 0 < n := by omega
          clear hn0
          go_wp2
          go_ret
          exact ⟨by rw [HE.out] <;> rfl, HQ2.out.1⟩
      · have HE := Lib.hid (HN3.out HRA.out HRB.out (by simp [rlC, noS, hs0]))
        have ts : s.toList.isEmpty = false := text_some hs0
        clear hs0
        go_wp2
        go_ret
        exact ⟨by rw [HE.out] <;> rfl, HQ2.out.1⟩
set_option maxRecDepth 100000 in
set_option maxHeartbeats 6400000 in
theorem rlref_5 (f t : Int) (s : ByteArray) (B : Option Addr) (cP : Nat) (P : List PairT) (st v : Int) (A : Option Addr) (ca : Nat) (a : List Sp) (st' v' : Int) (A' : Option Addr) (cb : Nat) (b : List Sp) (w : World) (hP : Prs w B P) (hA : Spl w A a) (hB : Spl w A' b) (hla : a.length ≤ 1000) (hlb : b.length ≤ 1000) (hlP : P.length ≤ maxLen) (hf : Fit2 P) (_ : s.size ≤ maxLen) : Calls Tryd.prog 77 #[.agg #[.int .i64 5, .int .i64 f, .int .i64 t, .string s, .slice B P.length cP], .agg #[.int .i64 st, .int .i64 v, .slice A a.length ca], .agg #[.int .i64 st', .int .i64 v', .slice A' b.length cb]] w fun e w' => e = .returned (.int .i64 (rulN 5 f t s P a b)) ∧ Below w.heap.size w w' := by
  have HI := Lib.hid (fun W h => sreffind_any st v A ca a f W h hla)
  have HJ := Lib.hid (fun W h => sreffind_any st' v' A' cb b t W h hlb)
  have HQ0 := Lib.hid (rq_new w 5 f t s B P.length cP st v A a.length ca st' v' A' b.length cb)
  have HA := Lib.hid hA
  have HB := Lib.hid hB
  have HP := Lib.hid hP
  have HT := Lib.hid (fun W h => crcheck_any B cP P W h hlP)
  have HF := Lib.hid hf
  have HTZ := Lib.hid (@tab_zero P)
  have HF0 : Hid (∀ x, rulN 5 f t s P a b = x → rulN 5 f t s P a b = x) := fun _ h => h
  have hnk : ¬ ((5 : Int) < 1 ∨ 5 < (5 : Int)) := by omega
  have HN1 := Lib.hid (fun h => rulN_from (k := 5) (f := f) (t := t) (s := s) (P := P) (a := a) (b := b) hnk h)
  have HN2 := Lib.hid (fun h1 h2 => rulN_to (k := 5) (f := f) (t := t) (s := s) (P := P) (a := a) (b := b) hnk h1 h2)
  have HN3 := Lib.hid (fun h1 h2 h3 => rulN_form (k := 5) (f := f) (t := t) (s := s) (P := P) (a := a) (b := b) hnk h1 h2 h3)
  have HN4 := Lib.hid (fun h1 h2 h3 => rulN_kind (k := 5) (f := f) (t := t) (s := s) (P := P) (a := a) (b := b) hnk h1 h2 h3)
  clear hnk HF0 hP hA hB hf
  generalize hlenP : P.length = n at *
  generalize hlena : a.length = la at *
  generalize hlenb : b.length = lb at *
  have HLP := Lib.hid hlenP
  have HLA := Lib.hid hlena
  have HLB := Lib.hid hlenb
  clear hlenP hlena hlenb
  unfold maxLen at hlP
  go_enter Tryd.func77, Tryd.ntmps77
  go_wp2_with fail
  generalize ((w.alloc (.cells #[.int .i64 5, .int .i64 f, .int .i64 t, .string s, .slice B n cP] 53)).alloc (.cells #[.int .i64 st, .int .i64 v, .slice A la ca] 28)).alloc (.cells #[.int .i64 st', .int .i64 v', .slice A' lb cb] 28) = U at *
  refine (HI.out _ (HA.out.below HQ0.out.1)).mono ?_
  rintro e w1 ⟨rfl, hb1⟩
  have HQ1 := Lib.hid (HQ0.out.below hb1)
  clear hb1
  obtain ⟨⟨r0, r1, r2, r3, r4⟩, ⟨a0, a1, a2⟩, b0, b1, b2⟩ := HQ1.out.cells
  go_wp2_with fail
  refine (HJ.out _ (HB.out.below HQ1.out.1)).mono ?_
  rintro e w2 ⟨rfl, hb2⟩
  have HQ2 := Lib.hid (HQ1.out.below hb2)
  clear hb2 HI HJ HQ0 HQ1
  clear r0 r1 r2 r3 r4 a0 a1 a2 b0 b1 b2
  obtain ⟨⟨r0, r1, r2, r3, r4⟩, ⟨a0, a1, a2⟩, b0, b1, b2⟩ := HQ2.out.cells
  rcases fnd_cases f a with ⟨hi, hi2⟩ | ⟨i, hil, hi, hi2⟩
  · have HE := Lib.hid (HN1.out (by simp [rlA, hi2]))
    rw [hi]
    generalize fndI t 0 b = j at *
    clear hi hi2
    go_wp2
    go_ret
    exact ⟨by rw [HE.out] <;> rfl, HQ2.out.1⟩
  · rw [hi]
    have HRA : Hid (rlA 5 f a = true) := by show _ = _; simp [rlA, hi2]
    have HXA : Hid ((fndP f a).1 = spAt a i) := by show _ = _; rw [hi2]
    have HIL := Lib.hid hil
    have hi63 : i < la := by have := HLA.out; omega
    clear hi hi2 hil
    rcases fnd_cases t b with ⟨hj, hj2⟩ | ⟨j, hjl, hj, hj2⟩
    · have HE := Lib.hid (HN2.out HRA.out (by simp [rlB, hj2]))
      rw [hj]
      clear hj hj2
      go_wp2
      go_ret
      exact ⟨by rw [HE.out] <;> rfl, HQ2.out.1⟩
    · rw [hj]
      have HRB : Hid (rlB 5 t b = true) := by show _ = _; simp [rlB, hj2]
      have HXB : Hid ((fndP t b).1 = spAt b j) := by show _ = _; rw [hj2]
      have HJL := Lib.hid hjl
      have hj63 : j < lb := by have := HLB.out; omega
      clear hj hj2 hjl
      by_cases hs0 : s = ⟨#[]⟩
      · subst hs0
        have HRC : Hid (rlC 5 ⟨#[]⟩ P = true) := by show _ = _; simp [rlC, noS]
        have HE4 := Lib.hid (HN4.out HRA.out HRB.out HRC.out)
        by_cases hn0 : n = 0
        · subst hn0
          have hPn : P = [] := List.eq_nil_of_length_eq_zero HLP.out
          have HE6 : Hid ((tabN P).1 ≠ 0 ∨ P = []) := Or.inr hPn
          have HT0 : Hid (tabN P = (0, 0)) := by show _ = _; rw [hPn]; rfl
          rw [HT0.out] at HT
          clear hPn
          have HE5 : Hid (∀ x y, rlK 5 x y ⟨#[]⟩ P = 15) := fun x y => if_pos HE6.out
          go_wp2_with fail
          refine (HT.out _ (HP.out.below HQ2.out.1)).mono ?_
          rintro e w3 ⟨rfl, rfl⟩
          go_wp2
          go_ret
          exact ⟨by rw [HE4.out, HE5.out] <;> rfl, HQ2.out.1⟩
        · have tn : 0 < n := by omega
          clear hn0
          obtain ⟨aa, n1, c1, f1, lo1, hi1, rfl, hxa, hca⟩ := spl_all HA.out HIL.out
          obtain ⟨bb, n2, c2, f2, lo2, hi2, rfl, hxb, hcb⟩ := spl_all HB.out HJL.out
          rw [HXA.out, HXB.out, hxa, hxb] at HE4
          have HCA := Lib.hid hca
          have HCB := Lib.hid hcb
          have HW := Lib.hid (fun s W h => sprefValue_any n1 c1 f1 lo1 hi1 s W h)
          have HW2 := Lib.hid (fun s W h => sprefValue_any n2 c2 f2 lo2 hi2 s W h)
          have HE5 : Hid (rlK 5 (n1, c1, f1, lo1, hi1) (n2, c2, f2, lo2, hi2) ⟨#[]⟩ P = if (tabN P).1 ≠ 0 ∨ P = [] then 15 else rlT (n1, c1, f1, lo1, hi1) (n2, c2, f2, lo2, hi2) P) := rfl
          clear hca hcb hxa hxb HA HB HXA HXB
          go_wp2_with fail
          refine (HT.out _ (HP.out.below HQ2.out.1)).mono ?_
          rintro e w3 ⟨rfl, rfl⟩
          have tn2 : ((n : Int) == 0) = false := by simp; omega
          by_cases hz : (tabN P).1 = 0
          · have hn256 : n ≤ 256 := (HTZ.out.1 hz).1
            rw [hz]
            generalize (tabN P).2 = y at *
            have HE6 : Hid (¬ ((tabN P).1 ≠ 0 ∨ P = [])) := by
              rintro (h | h)
              · exact h hz
              · rw [h] at HLP; have := HLP.out; simp at this; omega
            rw [if_neg HE6.out] at HE5
            clear hz HE6
            generalize hR : rlT (n1, c1, f1, lo1, hi1) (n2, c2, f2, lo2, hi2) P = R at *
            have HR0 := Lib.hid hR
            clear hR
            go_wp2
            clear r0 r1 r2 r3 r4 a0 a1 a2 b0 b1 b2
            go_loopw [13] (fun i wr => ∃ q : Nat, q ≤ n ∧ i = .int .i64 (q : Int) ∧ RQ w 5 f t ⟨#[]⟩ B n cP st v (some aa) la ca st' v' (some bb) lb cb wr ∧ rlT (n1, c1, f1, lo1, hi1) (n2, c2, f2, lo2, hi2) (P.drop q) = R) (fun i _ => n - (intOf i).toNat)
            case atStart => exact ⟨0, Nat.zero_le _, rfl, HQ2.out, HR0.out⟩
            case round =>
              obtain ⟨q, hq, rfl, hQ, hrest⟩ := hrel
              have HQ3 := Lib.hid hQ
              have HR := Lib.hid hrest
              clear hQ hrest
              obtain ⟨⟨r0, r1, r2, r3, r4⟩, ⟨a0, a1, a2⟩, b0, b1, b2⟩ := HQ3.out.cells
              by_cases hlt : q < n
              · have hql : q < P.length := by have := HLP.out; omega
                obtain ⟨pa, x, y', rfl, hxp, hcp⟩ := prs_all HP.out hql
                have HCP := Lib.hid hcp
                have hfz := HF.out.at_ hql
                rw [hxp] at hfz
                have HZ := Lib.hid hfz
                have HD := Lib.hid (drop_duo hql)
                rw [hxp] at HD
                have HX1 := Lib.hid (fun W => HW.out x W HZ.out.1)
                have HX2 := Lib.hid (fun W => HW2.out y' W HZ.out.2)
                have HV1 := Lib.hid (@rlT_from (n1, c1, f1, lo1, hi1) (n2, c2, f2, lo2, hi2) (x, y') (P.drop (q + 1)))
                have HV2 := Lib.hid (@rlT_to (n1, c1, f1, lo1, hi1) (n2, c2, f2, lo2, hi2) (x, y') (P.drop (q + 1)))
                have HV3 := Lib.hid (@rlT_next (n1, c1, f1, lo1, hi1) (n2, c2, f2, lo2, hi2) (x, y') (P.drop (q + 1)))
                unfold rlV at HV1 HV2 HV3
                dsimp only at HV1 HV2 HV3
                generalize spv n1 c1 f1 lo1 hi1 x = e1 at *
                generalize spv n2 c2 f2 lo2 hi2 y' = e2 at *
                clear hxp hcp hfz hql
                go_wp2_with fail
                clear r0 r1 r2 r3 r4 a0 a1 a2 b0 b1 b2
                refine wp_region_noPanic ?_
                refine wp_region_held_drew (S := (RQ w 5 f t ⟨#[]⟩ (some pa) n cP st v (some aa) la ca st' v' (some bb) lb cb)) (by kernel_rfl) (HQ3.out.drew) (fun hS => ?_)
                refine gv 0 (v := ?_) (fun u hu => ?_) hS ?_
                rotate_left
                · ((obtain ⟨⟨r0, r1, r2, r3, r4⟩, ⟨a0, a1, a2⟩, b0, b1, b2⟩ := hu.cells; obtain ⟨x0, x1, x2, x3, x4⟩ := HCA.out _ hu.1; obtain ⟨z0, z1⟩ := HCP.out _ hu.1); go_simp; try (with_reducible rfl))
                try simp only [puts]
                refine gv 1 (v := ?_) (fun u hu => ?_) hS ?_
                rotate_left
                · ((obtain ⟨⟨r0, r1, r2, r3, r4⟩, ⟨a0, a1, a2⟩, b0, b1, b2⟩ := hu.cells; obtain ⟨x0, x1, x2, x3, x4⟩ := HCA.out _ hu.1; obtain ⟨z0, z1⟩ := HCP.out _ hu.1); go_simp; try (with_reducible rfl))
                try simp only [puts]
                refine gv 2 (v := ?_) (fun u hu => ?_) hS ?_
                rotate_left
                · ((obtain ⟨⟨r0, r1, r2, r3, r4⟩, ⟨a0, a1, a2⟩, b0, b1, b2⟩ := hu.cells; obtain ⟨x0, x1, x2, x3, x4⟩ := HCA.out _ hu.1; obtain ⟨z0, z1⟩ := HCP.out _ hu.1); go_simp; try (with_reducible rfl))
                try simp only [puts]
                refine gv 3 (v := ?_) (fun u hu => ?_) hS ?_
                rotate_left
                · ((obtain ⟨⟨r0, r1, r2, r3, r4⟩, ⟨a0, a1, a2⟩, b0, b1, b2⟩ := hu.cells; obtain ⟨x0, x1, x2, x3, x4⟩ := HCA.out _ hu.1; obtain ⟨z0, z1⟩ := HCP.out _ hu.1); go_simp; try (with_reducible rfl))
                try simp only [puts]
                refine gv 4 (v := ?_) (fun u hu => ?_) hS ?_
                rotate_left
                · ((obtain ⟨⟨r0, r1, r2, r3, r4⟩, ⟨a0, a1, a2⟩, b0, b1, b2⟩ := hu.cells; obtain ⟨x0, x1, x2, x3, x4⟩ := HCA.out _ hu.1; obtain ⟨z0, z1⟩ := HCP.out _ hu.1); go_simp; try (with_reducible rfl))
                try simp only [puts]
                refine gv 5 (v := ?_) (fun u hu => ?_) hS ?_
                rotate_left
                · ((obtain ⟨⟨r0, r1, r2, r3, r4⟩, ⟨a0, a1, a2⟩, b0, b1, b2⟩ := hu.cells; obtain ⟨x0, x1, x2, x3, x4⟩ := HCA.out _ hu.1; obtain ⟨z0, z1⟩ := HCP.out _ hu.1); go_simp; try (with_reducible rfl))
                try simp only [puts]
                refine gv 6 (v := ?_) (fun u hu => ?_) hS ?_
                rotate_left
                · ((obtain ⟨⟨r0, r1, r2, r3, r4⟩, ⟨a0, a1, a2⟩, b0, b1, b2⟩ := hu.cells; obtain ⟨x0, x1, x2, x3, x4⟩ := HCA.out _ hu.1; obtain ⟨z0, z1⟩ := HCP.out _ hu.1); go_simp; try (with_reducible rfl))
                try simp only [puts]
                refine gv 7 (v := ?_) (fun u hu => ?_) hS ?_
                rotate_left
                · ((obtain ⟨⟨r0, r1, r2, r3, r4⟩, ⟨a0, a1, a2⟩, b0, b1, b2⟩ := hu.cells; obtain ⟨x0, x1, x2, x3, x4⟩ := HCA.out _ hu.1; obtain ⟨z0, z1⟩ := HCP.out _ hu.1); go_simp; try (with_reducible rfl))
                try simp only [puts]
                refine gv 8 (v := ?_) (fun u hu => ?_) hS ?_
                rotate_left
                · ((obtain ⟨⟨r0, r1, r2, r3, r4⟩, ⟨a0, a1, a2⟩, b0, b1, b2⟩ := hu.cells; obtain ⟨x0, x1, x2, x3, x4⟩ := HCA.out _ hu.1; obtain ⟨z0, z1⟩ := HCP.out _ hu.1); go_simp; try (with_reducible rfl))
                try simp only [puts]
                refine gv 9 (v := ?_) (fun u hu => ?_) hS ?_
                rotate_left
                · ((obtain ⟨⟨r0, r1, r2, r3, r4⟩, ⟨a0, a1, a2⟩, b0, b1, b2⟩ := hu.cells; obtain ⟨x0, x1, x2, x3, x4⟩ := HCA.out _ hu.1; obtain ⟨z0, z1⟩ := HCP.out _ hu.1); go_simp; try (with_reducible rfl))
                try simp only [puts]
                refine gv 10 (v := ?_) (fun u hu => ?_) hS ?_
                rotate_left
                · ((obtain ⟨⟨r0, r1, r2, r3, r4⟩, ⟨a0, a1, a2⟩, b0, b1, b2⟩ := hu.cells; obtain ⟨x0, x1, x2, x3, x4⟩ := HCA.out _ hu.1; obtain ⟨z0, z1⟩ := HCP.out _ hu.1); go_simp; try (with_reducible rfl))
                try simp only [puts]
                refine only_call (i := 11) 95 #[.agg #[.int .i64 n1, .int .i64 c1, .int .i64 f1, .int .i64 lo1, .int .i64 hi1], .string x] rfl (by kernel_rfl) (by rfl) ((HX1.out _).mono fun e w' he => ⟨he.1, hS.below he.2⟩) ?_ ?_
                · (go_simp; try (with_reducible rfl))
                clear hS
                intro w11 hS
                try simp only [puts]
                refine gv 12 (v := ?_) (fun u hu => ?_) hS ?_
                rotate_left
                · ((obtain ⟨⟨r0, r1, r2, r3, r4⟩, ⟨a0, a1, a2⟩, b0, b1, b2⟩ := hu.cells; obtain ⟨x0, x1, x2, x3, x4⟩ := HCA.out _ hu.1; obtain ⟨z0, z1⟩ := HCP.out _ hu.1); go_simp; try (with_reducible rfl))
                try simp only [puts]
                refine wpAnyH_done (by kernel_rfl) (NoPanic.normal ?_) _
                have HQ4 := Lib.hid hS
                clear hS
                by_cases he1 : e1 = 0
                · subst he1
                  go_wp2_with fail
                  refine wp_region_noPanic ?_
                  refine wp_region_held_drew (S := (RQ w 5 f t ⟨#[]⟩ (some pa) n cP st v (some aa) la ca st' v' (some bb) lb cb)) (by kernel_rfl) (HQ4.out.drew) (fun hS => ?_)
                  refine gv 0 (v := ?_) (fun u hu => ?_) hS ?_
                  rotate_left
                  · ((obtain ⟨⟨r0, r1, r2, r3, r4⟩, ⟨a0, a1, a2⟩, b0, b1, b2⟩ := hu.cells; obtain ⟨x0, x1, x2, x3, x4⟩ := HCB.out _ hu.1; obtain ⟨z0, z1⟩ := HCP.out _ hu.1); go_simp; try (with_reducible rfl))
                  try simp only [puts]
                  refine gv 1 (v := ?_) (fun u hu => ?_) hS ?_
                  rotate_left
                  · ((obtain ⟨⟨r0, r1, r2, r3, r4⟩, ⟨a0, a1, a2⟩, b0, b1, b2⟩ := hu.cells; obtain ⟨x0, x1, x2, x3, x4⟩ := HCB.out _ hu.1; obtain ⟨z0, z1⟩ := HCP.out _ hu.1); go_simp; try (with_reducible rfl))
                  try simp only [puts]
                  refine gv 2 (v := ?_) (fun u hu => ?_) hS ?_
                  rotate_left
                  · ((obtain ⟨⟨r0, r1, r2, r3, r4⟩, ⟨a0, a1, a2⟩, b0, b1, b2⟩ := hu.cells; obtain ⟨x0, x1, x2, x3, x4⟩ := HCB.out _ hu.1; obtain ⟨z0, z1⟩ := HCP.out _ hu.1); go_simp; try (with_reducible rfl))
                  try simp only [puts]
                  refine gv 3 (v := ?_) (fun u hu => ?_) hS ?_
                  rotate_left
                  · ((obtain ⟨⟨r0, r1, r2, r3, r4⟩, ⟨a0, a1, a2⟩, b0, b1, b2⟩ := hu.cells; obtain ⟨x0, x1, x2, x3, x4⟩ := HCB.out _ hu.1; obtain ⟨z0, z1⟩ := HCP.out _ hu.1); go_simp; try (with_reducible rfl))
                  try simp only [puts]
                  refine gv 4 (v := ?_) (fun u hu => ?_) hS ?_
                  rotate_left
                  · ((obtain ⟨⟨r0, r1, r2, r3, r4⟩, ⟨a0, a1, a2⟩, b0, b1, b2⟩ := hu.cells; obtain ⟨x0, x1, x2, x3, x4⟩ := HCB.out _ hu.1; obtain ⟨z0, z1⟩ := HCP.out _ hu.1); go_simp; try (with_reducible rfl))
                  try simp only [puts]
                  refine gv 5 (v := ?_) (fun u hu => ?_) hS ?_
                  rotate_left
                  · ((obtain ⟨⟨r0, r1, r2, r3, r4⟩, ⟨a0, a1, a2⟩, b0, b1, b2⟩ := hu.cells; obtain ⟨x0, x1, x2, x3, x4⟩ := HCB.out _ hu.1; obtain ⟨z0, z1⟩ := HCP.out _ hu.1); go_simp; try (with_reducible rfl))
                  try simp only [puts]
                  refine gv 6 (v := ?_) (fun u hu => ?_) hS ?_
                  rotate_left
                  · ((obtain ⟨⟨r0, r1, r2, r3, r4⟩, ⟨a0, a1, a2⟩, b0, b1, b2⟩ := hu.cells; obtain ⟨x0, x1, x2, x3, x4⟩ := HCB.out _ hu.1; obtain ⟨z0, z1⟩ := HCP.out _ hu.1); go_simp; try (with_reducible rfl))
                  try simp only [puts]
                  refine gv 7 (v := ?_) (fun u hu => ?_) hS ?_
                  rotate_left
                  · ((obtain ⟨⟨r0, r1, r2, r3, r4⟩, ⟨a0, a1, a2⟩, b0, b1, b2⟩ := hu.cells; obtain ⟨x0, x1, x2, x3, x4⟩ := HCB.out _ hu.1; obtain ⟨z0, z1⟩ := HCP.out _ hu.1); go_simp; try (with_reducible rfl))
                  try simp only [puts]
                  refine gv 8 (v := ?_) (fun u hu => ?_) hS ?_
                  rotate_left
                  · ((obtain ⟨⟨r0, r1, r2, r3, r4⟩, ⟨a0, a1, a2⟩, b0, b1, b2⟩ := hu.cells; obtain ⟨x0, x1, x2, x3, x4⟩ := HCB.out _ hu.1; obtain ⟨z0, z1⟩ := HCP.out _ hu.1); go_simp; try (with_reducible rfl))
                  try simp only [puts]
                  refine gv 9 (v := ?_) (fun u hu => ?_) hS ?_
                  rotate_left
                  · ((obtain ⟨⟨r0, r1, r2, r3, r4⟩, ⟨a0, a1, a2⟩, b0, b1, b2⟩ := hu.cells; obtain ⟨x0, x1, x2, x3, x4⟩ := HCB.out _ hu.1; obtain ⟨z0, z1⟩ := HCP.out _ hu.1); go_simp; try (with_reducible rfl))
                  try simp only [puts]
                  refine gv 10 (v := ?_) (fun u hu => ?_) hS ?_
                  rotate_left
                  · ((obtain ⟨⟨r0, r1, r2, r3, r4⟩, ⟨a0, a1, a2⟩, b0, b1, b2⟩ := hu.cells; obtain ⟨x0, x1, x2, x3, x4⟩ := HCB.out _ hu.1; obtain ⟨z0, z1⟩ := HCP.out _ hu.1); go_simp; try (with_reducible rfl))
                  try simp only [puts]
                  refine only_call (i := 11) 95 #[.agg #[.int .i64 n2, .int .i64 c2, .int .i64 f2, .int .i64 lo2, .int .i64 hi2], .string y'] rfl (by kernel_rfl) (by rfl) ((HX2.out _).mono fun e w' he => ⟨he.1, hS.below he.2⟩) ?_ ?_
                  · (go_simp; try (with_reducible rfl))
                  clear hS
                  intro w11 hS
                  try simp only [puts]
                  refine gv 12 (v := ?_) (fun u hu => ?_) hS ?_
                  rotate_left
                  · ((obtain ⟨⟨r0, r1, r2, r3, r4⟩, ⟨a0, a1, a2⟩, b0, b1, b2⟩ := hu.cells; obtain ⟨x0, x1, x2, x3, x4⟩ := HCB.out _ hu.1; obtain ⟨z0, z1⟩ := HCP.out _ hu.1); go_simp; try (with_reducible rfl))
                  try simp only [puts]
                  refine wpAnyH_done (by kernel_rfl) (NoPanic.normal ?_) _
                  have HQ5 := Lib.hid hS
                  clear hS
                  by_cases he2 : e2 = 0
                  · subst he2
                    have HY := Lib.hid (HV3.out trivial rfl)
                    go_wp2
                    go_roundw
                    case rel => exact ⟨q + 1, by omega, by go_num, HQ5.out, by rw [← HR.out, HD.out, HY.out]⟩
                    case measure => simp [intOf]; omega
                  · have HY := Lib.hid (HV2.out trivial he2)
                    have te : (e2 != 0) = true := by simpa using he2
                    clear he2
                    go_wp2
                    go_ret
                    exact ⟨by rw [HE4.out, HE5.out, ← HR.out, HD.out, HY.out] <;> rfl, HQ5.out.1⟩
                · have HY := Lib.hid (HV1.out he1)
                  have te : (e1 != 0) = true := by simpa using he1
                  clear he1
                  go_wp2
                  go_ret
                  exact ⟨by rw [HE4.out, HE5.out, ← HR.out, HD.out, HY.out] <;> rfl, HQ4.out.1⟩
              · have HY : Hid (P.drop q = []) := List.drop_eq_nil_of_le (by have := HLP.out; omega)
                go_wp2
                go_ret
                exact ⟨by rw [HE4.out, HE5.out, ← HR.out, HY.out] <;> rfl, HQ3.out.1⟩
          · have HE6 : Hid ((tabN P).1 ≠ 0 ∨ P = []) := Or.inl hz
            have tz : (((tabN P).1 : Int) != 0) = true := by simp; omega
            generalize (tabN P).1 = x at *
            generalize (tabN P).2 = y at *
            clear hz
            go_wp2
            go_ret
            exact ⟨by rw [HE4.out, HE5.out, if_pos HE6.out] <;> rfl, HQ2.out.1⟩
      · have HE := Lib.hid (HN3.out HRA.out HRB.out (by simp [rlC, noS, hs0]))
        have ts : s.toList.isEmpty = false := text_some hs0
        clear hs0
        go_wp2
        go_ret
        exact ⟨by rw [HE.out] <;> rfl, HQ2.out.1⟩
theorem rlref_any (k : Int) (f t : Int) (s : ByteArray) (B : Option Addr) (cP : Nat) (P : List PairT) (st v : Int) (A : Option Addr) (ca : Nat) (a : List Sp) (st' v' : Int) (A' : Option Addr) (cb : Nat) (b : List Sp) (w : World) (hP : Prs w B P) (hA : Spl w A a) (hB : Spl w A' b) (hla : a.length ≤ 1000) (hlb : b.length ≤ 1000) (hlP : P.length ≤ maxLen) (hf : Fit2 P) (hs : s.size ≤ maxLen) : Calls Tryd.prog 77 #[.agg #[.int .i64 k, .int .i64 f, .int .i64 t, .string s, .slice B P.length cP], .agg #[.int .i64 st, .int .i64 v, .slice A a.length ca], .agg #[.int .i64 st', .int .i64 v', .slice A' b.length cb]] w fun e w' => e = .returned (.int .i64 (rulN k f t s P a b)) ∧ Below w.heap.size w w' := by
  by_cases hk : k < 1 ∨ 5 < k
  · rw [rulN_arg hk]
    rcases hk with h | h
    · exact rlref_low k f t s B _ cP st v A _ ca st' v' A' _ cb w h
    · exact rlref_high k f t s B _ cP st v A _ ca st' v' A' _ cb w h
  · rcases kind_cases hk with rfl | rfl | rfl | rfl | rfl
    · exact rlref_1 f t s B cP P st v A ca a st' v' A' cb b w hP hA hB hla hlb hlP hf hs
    · exact rlref_2 f t s B cP P st v A ca a st' v' A' cb b w hP hA hB hla hlb hlP hf hs
    · exact rlref_3 f t s B cP P st v A ca a st' v' A' cb b w hP hA hB hla hlb hlP hf hs
    · exact rlref_4 f t s B cP P st v A ca a st' v' A' cb b w hP hA hB hla hlb hlP hf hs
    · exact rlref_5 f t s B cP P st v A ca a st' v' A' cb b w hP hA hB hla hlb hlP hf hs

end Go.Proofs.YtbhlennolghjmaaDoor

/-
  The law's awake answers true, in every world that holds the table of kinds, where the program's Check and Apply answer as they are to.
-/
namespace Go.Proofs.YtbhlennolghjmaaDoor
open Go.RowKit

/-- What the program's Check and Apply are to answer. -/
def RChk : Prop := ∀ (k f t : Int) (s : ByteArray) (B : Option Addr) (cP : Nat) (P : List PairT) (st v : Int) (A : Option Addr) (ca : Nat) (a : List Sp) (st' v' : Int) (A' : Option Addr) (cb : Nat) (b : List Sp) (w : World), Kinds w → Prs w B P → Spl w A a → Spl w A' b → a.length ≤ 1000 → b.length ≤ 1000 → P.length ≤ 5000000 → Fit2 P → s.size ≤ maxLen →
  Calls Tryd.prog 63 #[.agg #[.int .i64 k, .int .i64 f, .int .i64 t, .string s, .slice B P.length cP], .agg #[.int .i64 st, .int .i64 v, .slice A a.length ca], .agg #[.int .i64 st', .int .i64 v', .slice A' b.length cb]] w fun e w' => e = .returned (.int .i64 (rulN k f t s P a b)) ∧ Below w.heap.size w w'
def RApp : Prop := ∀ (k f t : Int) (s : ByteArray) (B : Option Addr) (cP : Nat) (P : List PairT) (st v : Int) (A : Option Addr) (ca : Nat) (b : List Sp) (x : ByteArray) (w : World), Kinds w → Prs w B P → Spl w A b → b.length ≤ 1000 → P.length ≤ 5000000 → Fit2 P → s.size ≤ maxLen → x.size ≤ maxLen →
  Calls Tryd.prog 66 #[.agg #[.int .i64 k, .int .i64 f, .int .i64 t, .string s, .slice B P.length cP], .agg #[.int .i64 st, .int .i64 v, .slice A b.length ca], .string x] w fun e w' => e = .returned (.tuple #[.agg #[.int .i64 (rapN k t s P b x).1, .string (rapN k t s P b x).2.1], .int .i64 (rapN k t s P b x).2.2]) ∧ Below w.heap.size w w'

abbrev raX : ByteArray := ⟨#[49, 50, 51, 52, 53, 54]⟩
abbrev raY : ByteArray := ⟨#[48, 48, 48, 48, 48, 48, 49, 50, 51, 52, 53, 54]⟩
abbrev raP : List PairT := [(⟨#[48, 48]⟩, ⟨#[48, 48, 48]⟩)]
theorem raw_told : rapN 4 12 ⟨#[]⟩ [] (refL 1 diaT) raX = (12, raY, 0) ∧ rapN 5 39 ⟨#[]⟩ raP (refL 1 diaT) ⟨#[48, 53]⟩ = (0, ⟨#[]⟩, 15) := by decide +kernel
theorem raw_chk : rulN 4 12 12 ⟨#[]⟩ [] (refL 0 diaT) (refL 1 diaT) = 0 ∧ rulN 5 39 39 ⟨#[]⟩ raP (refL 0 diaT) (refL 1 diaT) = 0 ∧ rulN 1 22 22 ⟨#[]⟩ [] (refL 0 diaT) (refL 1 diaT) = 6 ∧ rulN 2 90 0 ⟨#[]⟩ [] (refL 0 diaT) (refL 1 diaT) = 0 := by decide +kernel
theorem raw_len : (refL 0 diaT).length ≤ 1000 ∧ (refL 1 diaT).length ≤ 1000 := by decide +kernel
theorem raw_fit : Fit2 raP := by
  intro x hx
  simp only [List.mem_singleton] at hx
  subst hx
  exact ⟨by show 2 ≤ _; decide, by show 3 ≤ _; decide⟩
theorem fit2_nil : Fit2 [] := fun x hx => by simp at hx

end Go.Proofs.YtbhlennolghjmaaDoor

/-
  What the document's Apply of a rule, its Great and its Copy answer: for every rule, in every world.
-/
namespace Go.Proofs.YtbhlennolghjmaaDoor
open Go.RowKit

/-- A rule, a schema, and a value's room. -/
def RA (w : World) (k f t : Int) (s : ByteArray) (B : Option Addr) (n c : Nat) (st v : Int) (A : Option Addr) (la ca : Nat) (u : World) : Prop :=
  Below w.heap.size w u ∧ RBox u w.heap.size k f t s B n c ∧ Box u (w.heap.size + 1) st v A la ca ∧ u.heap[w.heap.size + 2]? = some (.cells #[.int .i64 0, .string ⟨#[]⟩] 81)
theorem RA.below {w : World} {k f t : Int} {s : ByteArray} {B : Option Addr} {n c : Nat} {st v : Int} {A : Option Addr} {la ca : Nat} {u u' : World} (h : RA w k f t s B n c st v A la ca u) (hb : Below u.heap.size u u') : RA w k f t s B n c st v A la ca u' :=
  ⟨hbt h.1 hb, h.2.1.below hb, h.2.2.1.below hb, obj_below h.2.2.2 hb⟩
theorem ra_new (w : World) (k f t : Int) (s : ByteArray) (B : Option Addr) (n c : Nat) (st v : Int) (A : Option Addr) (la ca : Nat) :
    RA w k f t s B n c st v A la ca (((w.alloc (.cells #[.int .i64 k, .int .i64 f, .int .i64 t, .string s, .slice B n c] 53)).alloc (.cells #[.int .i64 st, .int .i64 v, .slice A la ca] 28)).alloc (.cells #[.int .i64 0, .string ⟨#[]⟩] 81)) :=
  ⟨hbt (hbt (below_al _ _) (below_al _ _)) (below_al _ _), obj_below (obj_below (heap_alloc_new _ _) (below_al _ _)) (below_al _ _), obj_below (heap_al _ _ _ (by simp)) (below_al _ _), heap_al _ _ _ (by simp)⟩
/-- The cells of the three. -/
theorem RA.cells {w : World} {k f t : Int} {s : ByteArray} {B : Option Addr} {n c : Nat} {st v : Int} {A : Option Addr} {la ca : Nat} {u : World} (h : RA w k f t s B n c st v A la ca u) :
    (u.cell? ⟨w.heap.size, 0, none⟩ = some (.int .i64 k) ∧ u.cell? ⟨w.heap.size, 1, none⟩ = some (.int .i64 f) ∧ u.cell? ⟨w.heap.size, 2, none⟩ = some (.int .i64 t) ∧ u.cell? ⟨w.heap.size, 3, none⟩ = some (.string s) ∧ u.cell? ⟨w.heap.size, 4, none⟩ = some (.slice B n c)) ∧
    (u.cell? ⟨w.heap.size + 1, 0, none⟩ = some (.int .i64 st) ∧ u.cell? ⟨w.heap.size + 1, 1, none⟩ = some (.int .i64 v) ∧ u.cell? ⟨w.heap.size + 1, 2, none⟩ = some (.slice A la ca)) ∧
    u.cell? ⟨w.heap.size + 2, 0, none⟩ = some (.int .i64 0) ∧ u.cell? ⟨w.heap.size + 2, 1, none⟩ = some (.string ⟨#[]⟩) ∧ u.frozen? ⟨w.heap.size + 2, 0, none⟩ = false ∧ u.frozen? ⟨w.heap.size + 2, 1, none⟩ = false := by
  obtain ⟨_, h1, h2, h3⟩ := h
  exact ⟨obj_cells5 h1, obj_cells3 h2, obj_cells h3⟩

set_option maxRecDepth 100000 in
set_option maxHeartbeats 1600000 in
theorem rgreat_long (k f t : Int) (s : ByteArray) (B : Option Addr) (n cP : Nat) (w : World) (hs : s.size ≤ maxLen) (h : 1200 < s.size) : Calls Tryd.prog 52 #[.agg #[.int .i64 k, .int .i64 f, .int .i64 t, .string s, .slice B n cP]] w fun e w' => e = .returned (.bool true) ∧ Below w.heap.size w w' := by
  unfold maxLen at hs
  go_enter Tryd.func52, Tryd.ntmps52
  go_wp2
  go_ret
  exact ⟨rfl, below_al _ _⟩
set_option maxRecDepth 100000 in
set_option maxHeartbeats 1600000 in
theorem rgreat_many (k f t : Int) (s : ByteArray) (B : Option Addr) (n cP : Nat) (w : World) (hs : s.size ≤ 1200) (hn : n ≤ maxLen) (h : 300 < n) : Calls Tryd.prog 52 #[.agg #[.int .i64 k, .int .i64 f, .int .i64 t, .string s, .slice B n cP]] w fun e w' => e = .returned (.bool true) ∧ Below w.heap.size w w' := by
  unfold maxLen at hn
  go_enter Tryd.func52, Tryd.ntmps52
  go_wp2
  go_ret
  exact ⟨rfl, below_al _ _⟩
set_option maxRecDepth 100000 in
set_option maxHeartbeats 3200000 in
theorem rgreat_short (k f t : Int) (s : ByteArray) (B : Option Addr) (cP : Nat) (P : List PairT) (w : World) (hP : Prs w B P) (hs : s.size ≤ 1200) (hn : P.length ≤ 300) (hf : Fit2 P) : Calls Tryd.prog 52 #[.agg #[.int .i64 k, .int .i64 f, .int .i64 t, .string s, .slice B P.length cP]] w fun e w' => e = .returned (.bool (rgreatB s P)) ∧ Below w.heap.size w w' := by
  have HI := Lib.hid hP
  have HF := Lib.hid hf
  have HSS := Lib.hid hs
  clear hP hf
  generalize hlen : P.length = len at *
  have HLEN := Lib.hid hlen
  have HX : Hid (RBox (w.alloc (.cells #[.int .i64 k, .int .i64 f, .int .i64 t, .string s, .slice B len cP] 53)) w.heap.size k f t s B len cP) := heap_alloc_new _ _
  have HBW := Lib.hid (below_al w (.cells #[.int .i64 k, .int .i64 f, .int .i64 t, .string s, .slice B len cP] 53))
  clear hlen
  go_enter Tryd.func52, Tryd.ntmps52
  go_wp2
  generalize w.alloc (.cells #[.int .i64 k, .int .i64 f, .int .i64 t, .string s, .slice B len cP] 53) = U at *
  have HPU := Lib.hid (HI.out.below HBW.out)
  obtain ⟨r0, r1, r2, r3, r4⟩ := obj_cells5 HX.out
  go_loop [3] (fun i => ∃ q : Nat, q ≤ len ∧ i = .int .i64 (q : Int) ∧ (∀ j, j < q → (duoAt P j).1.size ≤ 1200 ∧ (duoAt P j).2.size ≤ 1200)) (fun i => len - (intOf i).toNat)
  case atStart => exact ⟨0, Nat.zero_le _, rfl, fun j hj => by omega⟩
  case round =>
    obtain ⟨q, hq, rfl, hno⟩ := hrel
    have HNO := Lib.hid hno
    clear hno
    by_cases hlt : q < len
    · obtain ⟨a, x, y, rfl, hx, hc, hd⟩ := HPU.out.at_ (i := q) (by have := HLEN.out; omega)
      have hz := HF.out.at_ (k := q) (by have := HLEN.out; omega)
      rw [hx] at hz
      have hz1 : x.size ≤ maxLen := hz.1
      have hz2 : y.size ≤ maxLen := hz.2
      unfold maxLen at hz1 hz2
      have HXX := Lib.hid hx
      clear hx hz
      by_cases h1 : 1200 < x.size
      · have HF := Lib.hid (rgreat_hit (s := s) (P := P) (k := q) (by have := HLEN.out; omega) (by rw [HXX.out]; exact Or.inl h1))
        go_wp2
        go_ret
        exact ⟨by rw [HF.out] <;> rfl, HBW.out⟩
      · by_cases h2 : 1200 < y.size
        · have HF := Lib.hid (rgreat_hit (s := s) (P := P) (k := q) (by have := HLEN.out; omega) (by rw [HXX.out]; exact Or.inr h2))
          go_wp2
          go_ret
          exact ⟨by rw [HF.out] <;> rfl, HBW.out⟩
        · go_wp2
          go_round
          case rel =>
            refine ⟨q + 1, by omega, by go_num, fun j hj => ?_⟩
            rcases Nat.lt_or_ge j q with h | h
            · exact HNO.out j h
            · obtain rfl : j = q := by omega
              rw [HXX.out]; exact ⟨Nat.le_of_not_lt h1, Nat.le_of_not_lt h2⟩
          case measure => simp [intOf]; omega
    · have HF := Lib.hid (rgreat_miss (s := s) (P := P) HSS.out (by rw [HLEN.out]; exact hn) (fun j hj => HNO.out j (by have := HLEN.out; omega)))
      go_wp2
      go_ret
      exact ⟨by rw [HF.out] <;> rfl, HBW.out⟩
theorem rgreat_any (k f t : Int) (s : ByteArray) (B : Option Addr) (cP : Nat) (P : List PairT) (w : World) (hP : Prs w B P) (hs : s.size ≤ maxLen) (hm : P.length ≤ maxLen) (hf : Fit2 P) : Calls Tryd.prog 52 #[.agg #[.int .i64 k, .int .i64 f, .int .i64 t, .string s, .slice B P.length cP]] w fun e w' => e = .returned (.bool (rgreatB s P)) ∧ Below w.heap.size w w' := by
  by_cases h1 : 1200 < s.size
  · rw [rgreat_text h1]; exact rgreat_long k f t s B _ cP w hs h1
  · by_cases h2 : 300 < P.length
    · rw [rgreat_far h2]; exact rgreat_many k f t s B _ cP w (by omega) hm h2
    · exact rgreat_short k f t s B cP P w hP (by omega) (by omega) hf

end Go.Proofs.YtbhlennolghjmaaDoor

/-
  The program's Check of a rule answers as the document asks, for every rule and schemas of up to 1000 specs, in every world that holds the table of kinds.
-/
namespace Go.Proofs.YtbhlennolghjmaaDoor
open Go.RowKit

set_option maxRecDepth 100000 in
set_option maxHeartbeats 1600000 in
theorem repads_any (n c f lo hi : Int) (w : World) : Calls Tryd.prog 98 #[.agg #[.int .i64 n, .int .i64 c, .int .i64 f, .int .i64 lo, .int .i64 hi]] w fun e w' => e = .returned (.bool ((c == 1) && (f == 1))) ∧ Below w.heap.size w w' := by
  by_cases hc : c = 1
  · subst hc
    go_enter Tryd.func98, Tryd.ntmps98
    go_wp2
    go_ret
    exact ⟨by simp, below_al _ _⟩
  · have tc : (c == 1) = false := by simpa using hc
    rw [tc]
    clear hc
    go_enter Tryd.func98, Tryd.ntmps98
    go_wp2
    go_ret
    exact ⟨rfl, below_al _ _⟩
set_option maxRecDepth 100000 in
set_option maxHeartbeats 3200000 in
theorem rtab_no (B : Option Addr) (cP n : Nat) (P : List PairT) (n1 c1 f1 lo1 hi1 n2 c2 f2 lo2 hi2 : Int) (w : World) (hP : Prs w B P) (hn : P.length = n) (hlP : P.length ≤ maxLen) (hf : Fit2 P) (hz : (tabN P).1 ≠ 0 ∨ P = []) :
    Calls Tryd.prog 99 #[.slice B n cP, .agg #[.int .i64 n1, .int .i64 c1, .int .i64 f1, .int .i64 lo1, .int .i64 hi1], .agg #[.int .i64 n2, .int .i64 c2, .int .i64 f2, .int .i64 lo2, .int .i64 hi2]] w fun e w' => e = .returned (.int .i64 15) ∧ Below w.heap.size w w' := by
  have HT := Lib.hid (fun W h => ccheck_any B cP P W h hlP hf)
  have HS0 := Lib.hid (specs_new w n1 c1 f1 lo1 hi1 n2 c2 f2 lo2 hi2)
  have HP := Lib.hid hP
  rw [hn] at HT
  clear hP hf
  by_cases h1 : (tabN P).1 = 0
  · have hP0 : P = [] := by
      rcases hz with h | h
      · exact absurd h1 h
      · exact h
    have hn0 : n = 0 := by rw [← hn, hP0]; rfl
    subst hn0
    rw [h1] at HT
    generalize (tabN P).2 = y at *
    clear hz h1 hP0 hn hlP
    go_enter Tryd.func99, Tryd.ntmps99
    go_wp2_with fail
    refine (HT.out _ (HP.out.below HS0.out.1)).mono ?_
    rintro e w1 ⟨rfl, hb1⟩
    have HB1 := Lib.hid (hbt HS0.out.1 hb1)
    clear hb1
    go_wp2
    go_ret
    exact ⟨rfl, HB1.out⟩
  · have tz : (((tabN P).1 : Int) != 0) = true := by simp; omega
    generalize (tabN P).1 = x at *
    generalize (tabN P).2 = y at *
    clear hz h1 hn hlP
    go_enter Tryd.func99, Tryd.ntmps99
    go_wp2_with fail
    refine (HT.out _ (HP.out.below HS0.out.1)).mono ?_
    rintro e w1 ⟨rfl, hb1⟩
    have HB1 := Lib.hid (hbt HS0.out.1 hb1)
    clear hb1
    go_wp2
    go_ret
    exact ⟨rfl, HB1.out⟩
set_option maxRecDepth 100000 in
set_option maxHeartbeats 6400000 in
theorem rtab_yes (B : Option Addr) (cP n : Nat) (P : List PairT) (n1 c1 f1 lo1 hi1 n2 c2 f2 lo2 hi2 : Int) (w : World) (hK : Kinds w) (hP : Prs w B P) (hn : P.length = n) (hf : Fit2 P) (hz : (tabN P).1 = 0) (h0 : P ≠ []) :
    Calls Tryd.prog 99 #[.slice B n cP, .agg #[.int .i64 n1, .int .i64 c1, .int .i64 f1, .int .i64 lo1, .int .i64 hi1], .agg #[.int .i64 n2, .int .i64 c2, .int .i64 f2, .int .i64 lo2, .int .i64 hi2]] w fun e w' => e = .returned (.int .i64 (rlT (n1, c1, f1, lo1, hi1) (n2, c2, f2, lo2, hi2) P)) ∧ Below w.heap.size w w' := by
  have hl := (tab_zero.1 hz).1
  have HT := Lib.hid (fun W h => ccheck_any B cP P W h (by unfold maxLen; omega) hf)
  have HS0 := Lib.hid (specs_new w n1 c1 f1 lo1 hi1 n2 c2 f2 lo2 hi2)
  have HP := Lib.hid hP
  have HF := Lib.hid hf
  have HK := Lib.hid hK
  have HLP := Lib.hid hn
  have HW := Lib.hid (fun s W k h => spvalue_any n1 c1 f1 lo1 hi1 s W k h)
  have HW2 := Lib.hid (fun s W k h => spvalue_any n2 c2 f2 lo2 hi2 s W k h)
  have hpos : 0 < n := by
    rw [← hn]
    cases P with
    | nil => exact absurd rfl h0
    | cons p r => simp
  have tn : ((n : Int) == 0) = false := by simp; omega
  rw [hn] at HT hl
  rw [hz] at HT
  generalize (tabN P).2 = y at *
  generalize hR : rlT (n1, c1, f1, lo1, hi1) (n2, c2, f2, lo2, hi2) P = R at *
  have HR0 := Lib.hid hR
  clear hP hf hK hn hz h0 hR
  go_enter Tryd.func99, Tryd.ntmps99
  go_wp2_with fail
  refine (HT.out _ (HP.out.below HS0.out.1)).mono ?_
  rintro e w1 ⟨rfl, hb1⟩
  have HS1 := Lib.hid (HS0.out.below hb1)
  clear hb1 HS0 HT
  go_wp2
  go_loopw [27] (fun i wr => ∃ q : Nat, q ≤ n ∧ i = .int .i64 (q : Int) ∧ Specs w n1 c1 f1 lo1 hi1 n2 c2 f2 lo2 hi2 wr ∧ rlT (n1, c1, f1, lo1, hi1) (n2, c2, f2, lo2, hi2) (P.drop q) = R) (fun i _ => n - (intOf i).toNat)
  case atStart => exact ⟨0, Nat.zero_le _, rfl, HS1.out, HR0.out⟩
  case round =>
    obtain ⟨q, hq, rfl, hS, hrest⟩ := hrel
    have HS2 := Lib.hid hS
    have HR := Lib.hid hrest
    clear hS hrest
    by_cases hlt : q < n
    · have hql : q < P.length := by have := HLP.out; omega
      obtain ⟨pa, x, y', rfl, hxp, hcp⟩ := prs_all HP.out hql
      obtain ⟨z0, z1⟩ := hcp _ HS2.out.1
      have hfz := HF.out.at_ hql
      rw [hxp] at hfz
      have HZ := Lib.hid hfz
      have HD := Lib.hid (drop_duo hql)
      rw [hxp] at HD
      have HX1 := Lib.hid (fun W k => HW.out x W k HZ.out.1)
      have HX2 := Lib.hid (fun W k => HW2.out y' W k HZ.out.2)
      have HV1 := Lib.hid (@rlT_from (n1, c1, f1, lo1, hi1) (n2, c2, f2, lo2, hi2) (x, y') (P.drop (q + 1)))
      have HV2 := Lib.hid (@rlT_to (n1, c1, f1, lo1, hi1) (n2, c2, f2, lo2, hi2) (x, y') (P.drop (q + 1)))
      have HV3 := Lib.hid (@rlT_next (n1, c1, f1, lo1, hi1) (n2, c2, f2, lo2, hi2) (x, y') (P.drop (q + 1)))
      unfold rlV at HV1 HV2 HV3
      dsimp only at HV1 HV2 HV3
      generalize spv n1 c1 f1 lo1 hi1 x = e1 at *
      generalize spv n2 c2 f2 lo2 hi2 y' = e2 at *
      have HS3 := Lib.hid (HS2.out.below (below_al wr (.cells #[.string x, .string y'] 62)))
      have HG3 : Hid ((wr.alloc (.cells #[.string x, .string y'] 62)).heap[wr.heap.size]? = some (.cells #[.string x, .string y'] 62)) := heap_alloc_new _ _
      clear hxp hcp hfz hql HS2
      obtain ⟨⟨s0, s1, s2, s3, s4⟩, t0, t1, t2, t3, t4⟩ := HS3.out.cells
      go_wp2_with fail
      clear s0 s1 s2 s3 s4 t0 t1 t2 t3 t4 z0 z1
      generalize wr.alloc (.cells #[.string x, .string y'] 62) = W3 at *
      refine (HX1.out _ (HK.out.below HS3.out.1)).mono ?_
      rintro e w4 ⟨rfl, hb4⟩
      have HS4 := Lib.hid (HS3.out.below hb4)
      have HG4 := Lib.hid (obj_below HG3.out hb4)
      clear hb4 HS3 HG3
      by_cases he1 : e1 = 0
      · subst he1
        obtain ⟨⟨s0, s1, s2, s3, s4⟩, t0, t1, t2, t3, t4⟩ := HS4.out.cells
        obtain ⟨z0, z1, _, _⟩ := obj_cells HG4.out
        go_wp2_with fail
        clear s0 s1 s2 s3 s4 t0 t1 t2 t3 t4 z0 z1
        refine (HX2.out _ (HK.out.below HS4.out.1)).mono ?_
        rintro e w5 ⟨rfl, hb5⟩
        have HS5 := Lib.hid (HS4.out.below hb5)
        clear hb5
        by_cases he2 : e2 = 0
        · subst he2
          have HY := Lib.hid (HV3.out trivial rfl)
          go_wp2
          go_roundw
          case rel => exact ⟨q + 1, by omega, by go_num, HS5.out, by rw [← HR.out, HD.out, HY.out]⟩
          case measure => simp [intOf]; omega
        · have HY := Lib.hid (HV2.out trivial he2)
          have te : (e2 != 0) = true := by simpa using he2
          clear he2
          go_wp2
          go_ret
          exact ⟨by rw [← HR.out, HD.out, HY.out] <;> rfl, HS5.out.1⟩
      · have HY := Lib.hid (HV1.out he1)
        have te : (e1 != 0) = true := by simpa using he1
        clear he1
        go_wp2
        go_ret
        exact ⟨by rw [← HR.out, HD.out, HY.out] <;> rfl, HS4.out.1⟩
    · have HY : Hid (P.drop q = []) := List.drop_eq_nil_of_le (by have := HLP.out; omega)
      go_wp2
      go_ret
      exact ⟨by rw [← HR.out, HY.out] <;> rfl, HS2.out.1⟩

set_option maxRecDepth 100000 in
set_option maxHeartbeats 1600000 in
theorem rend_out (st v : Int) (A : Option Addr) (l ca : Nat) (f : Int) (w : World) : Calls Tryd.prog 85 #[.agg #[.int .i64 st, .int .i64 v, .slice A l ca], .int .i64 f, .bool true] w fun e w' => e = .returned (.tuple #[.agg #[.int .i64 0, .int .i64 0, .int .i64 0, .int .i64 0, .int .i64 0], .bool (f == 0)]) ∧ Below w.heap.size w w' := by
  generalize hz : (f == 0) = z
  go_enter Tryd.func85, Tryd.ntmps85
  go_wp2
  refine bodyPost_ret (results_cell_row1 rfl _ _ (w.heap.size + 1) _ _ _ _ rfl (heap_al _ _ _ (by simp)) Tryd.underlying70 rfl (by kernel_rfl)) rfl ?_
  exact ⟨rfl, hbt (below_al _ _) (below_al _ _)⟩
set_option maxRecDepth 100000 in
set_option maxHeartbeats 1600000 in
theorem rend_in (st v : Int) (A : Option Addr) (l : List Sp) (ca : Nat) (f : Int) (w : World) (hA : Spl w A l) (hl : l.length ≤ 1000) : Calls Tryd.prog 85 #[.agg #[.int .i64 st, .int .i64 v, .slice A l.length ca], .int .i64 f, .bool false] w fun e w' => e = .returned (.tuple #[.agg #[.int .i64 (fndP f l).1.1, .int .i64 (fndP f l).1.2.1, .int .i64 (fndP f l).1.2.2.1, .int .i64 (fndP f l).1.2.2.2.1, .int .i64 (fndP f l).1.2.2.2.2], .bool (fndP f l).2]) ∧ Below w.heap.size w w' := by
  have HI := Lib.hid (fun W h => sfind_any st v A ca l f W h hl)
  have HA := Lib.hid hA
  have HB0 := Lib.hid (hbt (below_al w (.cells #[.int .i64 st, .int .i64 v, .slice A l.length ca] 28)) (below_al _ (.cells #[.int .i64 0, .int .i64 0, .int .i64 0, .int .i64 0, .int .i64 0] 70)))
  have HM0 : Hid (((w.alloc (.cells #[.int .i64 st, .int .i64 v, .slice A l.length ca] 28)).alloc (.cells #[.int .i64 0, .int .i64 0, .int .i64 0, .int .i64 0, .int .i64 0] 70)).heap[w.heap.size + 1]? = some (.cells #[.int .i64 0, .int .i64 0, .int .i64 0, .int .i64 0, .int .i64 0] 70)) := heap_al _ _ _ (by simp)
  clear hA hl
  generalize l.length = n at *
  generalize (fndP f l).2 = ok at *
  generalize (fndP f l).1 = X at *
  obtain ⟨n1, c1, f1, lo1, hi1⟩ := X
  go_enter Tryd.func85, Tryd.ntmps85
  go_wp2_with fail
  refine (HI.out _ (HA.out.below HB0.out)).mono ?_
  rintro e w1 ⟨rfl, hb1⟩
  have HB1 := Lib.hid (hbt HB0.out hb1)
  have HM1 := Lib.hid (obj_below HM0.out hb1)
  clear hb1 HI HB0 HM0
  obtain ⟨g0, g1, g2, g3, g4⟩ := obj_warm5 HM1.out
  obtain ⟨e0, e1, e2, e3, e4⟩ := obj_cells5 HM1.out
  go_wp2
  refine bodyPost_ret (results_cell_row1 rfl _ _ (w.heap.size + 1) _ _ _ _ rfl (obj_set5 HM1.out _ _ _ _ _) Tryd.underlying70 rfl (by kernel_rfl)) rfl ?_
  exact ⟨rfl, below_set5 HB1.out (by omega) _ _ _ _ _⟩
set_option maxRecDepth 100000 in
set_option maxHeartbeats 1600000 in
theorem rkind_1 (f t : Int) (s : ByteArray) (B : Option Addr) (n cP : Nat) (P : List PairT) (n1 c1 f1 lo1 hi1 n2 c2 f2 lo2 hi2 : Int) (w : World) (hK : Kinds w) : Calls Tryd.prog 86 #[.agg #[.int .i64 1, .int .i64 f, .int .i64 t, .string s, .slice B n cP], .agg #[.int .i64 n1, .int .i64 c1, .int .i64 f1, .int .i64 lo1, .int .i64 hi1], .agg #[.int .i64 n2, .int .i64 c2, .int .i64 f2, .int .i64 lo2, .int .i64 hi2]] w fun e w' => e = .returned (.int .i64 (rlK 1 (n1, c1, f1, lo1, hi1) (n2, c2, f2, lo2, hi2) s P)) ∧ Below w.heap.size w w' := by
  have HB0 : Hid (Below w.heap.size w (((w.alloc (.cells #[.int .i64 1, .int .i64 f, .int .i64 t, .string s, .slice B n cP] 53)).alloc (.cells #[.int .i64 n1, .int .i64 c1, .int .i64 f1, .int .i64 lo1, .int .i64 hi1] 70)).alloc (.cells #[.int .i64 n2, .int .i64 c2, .int .i64 f2, .int .i64 lo2, .int .i64 hi2] 70))) := hbt (hbt (below_al _ _) (below_al _ _)) (below_al _ _)
  have HK := Lib.hid hK
  have HW := Lib.hid (fun W k => spwider_any n2 c2 f2 lo2 hi2 n1 c1 f1 lo1 hi1 W k)
  have HE5 : Hid (rlK 1 (n1, c1, f1, lo1, hi1) (n2, c2, f2, lo2, hi2) s P = if spw n2 c2 f2 lo2 hi2 n1 c1 f1 lo1 hi1 then 0 else 6) := rfl
  generalize spw n2 c2 f2 lo2 hi2 n1 c1 f1 lo1 hi1 = r at *
  clear hK
  go_enter Tryd.func86, Tryd.ntmps86
  go_wp2_with fail
  refine (HW.out _ (HK.out.below HB0.out)).mono ?_
  rintro e w1 ⟨rfl, hb1⟩
  have HB1 := Lib.hid (hbt HB0.out hb1)
  clear hb1
  cases r
  · go_wp2
    go_ret
    exact ⟨by rw [HE5.out] <;> rfl, HB1.out⟩
  · go_wp2
    go_ret
    exact ⟨by rw [HE5.out] <;> rfl, HB1.out⟩
set_option maxRecDepth 100000 in
set_option maxHeartbeats 1600000 in
theorem rkind_2 (f t : Int) (s : ByteArray) (B : Option Addr) (n cP : Nat) (P : List PairT) (n1 c1 f1 lo1 hi1 n2 c2 f2 lo2 hi2 : Int) (w : World) : Calls Tryd.prog 86 #[.agg #[.int .i64 2, .int .i64 f, .int .i64 t, .string s, .slice B n cP], .agg #[.int .i64 n1, .int .i64 c1, .int .i64 f1, .int .i64 lo1, .int .i64 hi1], .agg #[.int .i64 n2, .int .i64 c2, .int .i64 f2, .int .i64 lo2, .int .i64 hi2]] w fun e w' => e = .returned (.int .i64 (rlK 2 (n1, c1, f1, lo1, hi1) (n2, c2, f2, lo2, hi2) s P)) ∧ Below w.heap.size w w' := by
  go_enter Tryd.func86, Tryd.ntmps86
  go_wp2
  go_ret
  exact ⟨rfl, hbt (hbt (below_al _ _) (below_al _ _)) (below_al _ _)⟩
set_option maxRecDepth 100000 in
set_option maxHeartbeats 1600000 in
theorem rkind_3 (f t : Int) (s : ByteArray) (B : Option Addr) (n cP : Nat) (P : List PairT) (n1 c1 f1 lo1 hi1 n2 c2 f2 lo2 hi2 : Int) (w : World) (hK : Kinds w) (hs : s.size ≤ maxLen) : Calls Tryd.prog 86 #[.agg #[.int .i64 3, .int .i64 f, .int .i64 t, .string s, .slice B n cP], .agg #[.int .i64 n1, .int .i64 c1, .int .i64 f1, .int .i64 lo1, .int .i64 hi1], .agg #[.int .i64 n2, .int .i64 c2, .int .i64 f2, .int .i64 lo2, .int .i64 hi2]] w fun e w' => e = .returned (.int .i64 (rlK 3 (n1, c1, f1, lo1, hi1) (n2, c2, f2, lo2, hi2) s P)) ∧ Below w.heap.size w w' := by
  have HB0 : Hid (Below w.heap.size w (((w.alloc (.cells #[.int .i64 3, .int .i64 f, .int .i64 t, .string s, .slice B n cP] 53)).alloc (.cells #[.int .i64 n1, .int .i64 c1, .int .i64 f1, .int .i64 lo1, .int .i64 hi1] 70)).alloc (.cells #[.int .i64 n2, .int .i64 c2, .int .i64 f2, .int .i64 lo2, .int .i64 hi2] 70))) := hbt (hbt (below_al _ _) (below_al _ _)) (below_al _ _)
  have HK := Lib.hid hK
  have HV := Lib.hid (fun W k => spvalue_any n2 c2 f2 lo2 hi2 s W k hs)
  have HE5 : Hid (rlK 3 (n1, c1, f1, lo1, hi1) (n2, c2, f2, lo2, hi2) s P = spv n2 c2 f2 lo2 hi2 s) := rfl
  generalize spv n2 c2 f2 lo2 hi2 s = r at *
  clear hK hs
  go_enter Tryd.func86, Tryd.ntmps86
  go_wp2_with fail
  refine (HV.out _ (HK.out.below HB0.out)).mono ?_
  rintro e w1 ⟨rfl, hb1⟩
  have HB1 := Lib.hid (hbt HB0.out hb1)
  clear hb1
  go_wp2
  go_ret
  exact ⟨by rw [HE5.out] <;> rfl, HB1.out⟩
set_option maxRecDepth 100000 in
set_option maxHeartbeats 1600000 in
theorem rkind_4 (f t : Int) (s : ByteArray) (B : Option Addr) (n cP : Nat) (P : List PairT) (n1 c1 f1 lo1 hi1 n2 c2 f2 lo2 hi2 : Int) (w : World) : Calls Tryd.prog 86 #[.agg #[.int .i64 4, .int .i64 f, .int .i64 t, .string s, .slice B n cP], .agg #[.int .i64 n1, .int .i64 c1, .int .i64 f1, .int .i64 lo1, .int .i64 hi1], .agg #[.int .i64 n2, .int .i64 c2, .int .i64 f2, .int .i64 lo2, .int .i64 hi2]] w fun e w' => e = .returned (.int .i64 (rlK 4 (n1, c1, f1, lo1, hi1) (n2, c2, f2, lo2, hi2) s P)) ∧ Below w.heap.size w w' := by
  have HB0 : Hid (Below w.heap.size w (((w.alloc (.cells #[.int .i64 4, .int .i64 f, .int .i64 t, .string s, .slice B n cP] 53)).alloc (.cells #[.int .i64 n1, .int .i64 c1, .int .i64 f1, .int .i64 lo1, .int .i64 hi1] 70)).alloc (.cells #[.int .i64 n2, .int .i64 c2, .int .i64 f2, .int .i64 lo2, .int .i64 hi2] 70))) := hbt (hbt (below_al _ _) (below_al _ _)) (below_al _ _)
  have HY0 : Hid ((((w.alloc (.cells #[.int .i64 4, .int .i64 f, .int .i64 t, .string s, .slice B n cP] 53)).alloc (.cells #[.int .i64 n1, .int .i64 c1, .int .i64 f1, .int .i64 lo1, .int .i64 hi1] 70)).alloc (.cells #[.int .i64 n2, .int .i64 c2, .int .i64 f2, .int .i64 lo2, .int .i64 hi2] 70)).heap[w.heap.size + 2]? = some (.cells #[.int .i64 n2, .int .i64 c2, .int .i64 f2, .int .i64 lo2, .int .i64 hi2] 70)) := heap_al _ _ _ (by simp)
  have HW1 := Lib.hid (fun W => repads_any n1 c1 f1 lo1 hi1 W)
  have HW2 := Lib.hid (fun W => repads_any n2 c2 f2 lo2 hi2 W)
  have HE5 : Hid (rlK 4 (n1, c1, f1, lo1, hi1) (n2, c2, f2, lo2, hi2) s P = if ((c1 == 1) && (f1 == 1)) && ((c2 == 1) && (f2 == 1)) then 0 else 6) := rfl
  generalize ((c1 == 1) && (f1 == 1)) = p1 at *
  generalize ((c2 == 1) && (f2 == 1)) = p2 at *
  go_enter Tryd.func86, Tryd.ntmps86
  go_wp2_with fail
  refine (HW1.out _).mono ?_
  rintro e w1 ⟨rfl, hb1⟩
  have HB1 := Lib.hid (hbt HB0.out hb1)
  have HY1 := Lib.hid (obj_below HY0.out hb1)
  clear hb1 HY0
  obtain ⟨y0, y1, y2, y3, y4⟩ := obj_cells5 HY1.out
  cases p1
  · go_wp2
    go_ret
    exact ⟨by rw [HE5.out] <;> rfl, HB1.out⟩
  · go_wp2_with fail
    refine (HW2.out _).mono ?_
    rintro e w2 ⟨rfl, hb2⟩
    have HB2 := Lib.hid (hbt HB1.out hb2)
    clear hb2
    cases p2
    · go_wp2
      go_ret
      exact ⟨by rw [HE5.out] <;> rfl, HB2.out⟩
    · go_wp2
      go_ret
      exact ⟨by rw [HE5.out] <;> rfl, HB2.out⟩
set_option maxRecDepth 100000 in
set_option maxHeartbeats 1600000 in
theorem rkind_5 (f t : Int) (s : ByteArray) (B : Option Addr) (n cP : Nat) (P : List PairT) (n1 c1 f1 lo1 hi1 n2 c2 f2 lo2 hi2 : Int) (w : World) (hK : Kinds w) (hP : Prs w B P) (hn : P.length = n) (hlP : P.length ≤ 5000000) (hf : Fit2 P) : Calls Tryd.prog 86 #[.agg #[.int .i64 5, .int .i64 f, .int .i64 t, .string s, .slice B n cP], .agg #[.int .i64 n1, .int .i64 c1, .int .i64 f1, .int .i64 lo1, .int .i64 hi1], .agg #[.int .i64 n2, .int .i64 c2, .int .i64 f2, .int .i64 lo2, .int .i64 hi2]] w fun e w' => e = .returned (.int .i64 (rlK 5 (n1, c1, f1, lo1, hi1) (n2, c2, f2, lo2, hi2) s P)) ∧ Below w.heap.size w w' := by
  have HB0 : Hid (Below w.heap.size w (((w.alloc (.cells #[.int .i64 5, .int .i64 f, .int .i64 t, .string s, .slice B n cP] 53)).alloc (.cells #[.int .i64 n1, .int .i64 c1, .int .i64 f1, .int .i64 lo1, .int .i64 hi1] 70)).alloc (.cells #[.int .i64 n2, .int .i64 c2, .int .i64 f2, .int .i64 lo2, .int .i64 hi2] 70))) := hbt (hbt (below_al _ _) (below_al _ _)) (below_al _ _)
  have HK := Lib.hid hK
  have HP := Lib.hid hP
  have HE5 : Hid (rlK 5 (n1, c1, f1, lo1, hi1) (n2, c2, f2, lo2, hi2) s P = if (tabN P).1 ≠ 0 ∨ P = [] then 15 else rlT (n1, c1, f1, lo1, hi1) (n2, c2, f2, lo2, hi2) P) := rfl
  have HT : Hid (∀ W, Kinds W → Prs W B P → Calls Tryd.prog 99 #[.slice B n cP, .agg #[.int .i64 n1, .int .i64 c1, .int .i64 f1, .int .i64 lo1, .int .i64 hi1], .agg #[.int .i64 n2, .int .i64 c2, .int .i64 f2, .int .i64 lo2, .int .i64 hi2]] W fun e w' => e = .returned (.int .i64 (rlK 5 (n1, c1, f1, lo1, hi1) (n2, c2, f2, lo2, hi2) s P)) ∧ Below W.heap.size W w') := fun W k h => by
    by_cases hz : (tabN P).1 ≠ 0 ∨ P = []
    · rw [HE5.out, if_pos hz]
      exact rtab_no B cP n P n1 c1 f1 lo1 hi1 n2 c2 f2 lo2 hi2 W h hn (by unfold maxLen; omega) hf hz
    · rw [HE5.out, if_neg hz]
      exact rtab_yes B cP n P n1 c1 f1 lo1 hi1 n2 c2 f2 lo2 hi2 W k h hn hf (Decidable.byContradiction fun e => hz (Or.inl e)) (fun e => hz (Or.inr e))
  clear hK hP hn hlP hf HE5
  generalize rlK 5 (n1, c1, f1, lo1, hi1) (n2, c2, f2, lo2, hi2) s P = r at *
  go_enter Tryd.func86, Tryd.ntmps86
  go_wp2_with fail
  refine (HT.out _ (HK.out.below HB0.out) (HP.out.below HB0.out)).mono ?_
  rintro e w1 ⟨rfl, hb1⟩
  have HB1 := Lib.hid (hbt HB0.out hb1)
  clear hb1
  go_wp2
  go_ret
  exact ⟨rfl, HB1.out⟩
theorem text_cases (s : ByteArray) : s = ⟨#[]⟩ ∨ (s.toList.isEmpty = false ∧ s ≠ ⟨#[]⟩) := by
  by_cases h : s = ⟨#[]⟩
  · exact Or.inl h
  · exact Or.inr ⟨text_some h, h⟩
set_option maxRecDepth 100000 in
set_option maxHeartbeats 1600000 in
theorem rchk_low (k f t : Int) (s : ByteArray) (B : Option Addr) (n cP : Nat) (st v : Int) (A : Option Addr) (la ca : Nat) (st' v' : Int) (A' : Option Addr) (lb cb : Nat) (w : World) (h : k < 1) : Calls Tryd.prog 63 #[.agg #[.int .i64 k, .int .i64 f, .int .i64 t, .string s, .slice B n cP], .agg #[.int .i64 st, .int .i64 v, .slice A la ca], .agg #[.int .i64 st', .int .i64 v', .slice A' lb cb]] w fun e w' => e = .returned (.int .i64 1) ∧ Below w.heap.size w w' := by
  have t1 : decide (k < 1) = true := by simpa using h
  clear h
  go_enter Tryd.func63, Tryd.ntmps63
  go_wp2
  go_ret
  exact ⟨rfl, hbt (hbt (below_al _ _) (below_al _ _)) (below_al _ _)⟩
set_option maxRecDepth 100000 in
set_option maxHeartbeats 1600000 in
theorem rchk_high (k f t : Int) (s : ByteArray) (B : Option Addr) (n cP : Nat) (st v : Int) (A : Option Addr) (la ca : Nat) (st' v' : Int) (A' : Option Addr) (lb cb : Nat) (w : World) (h : 5 < k) : Calls Tryd.prog 63 #[.agg #[.int .i64 k, .int .i64 f, .int .i64 t, .string s, .slice B n cP], .agg #[.int .i64 st, .int .i64 v, .slice A la ca], .agg #[.int .i64 st', .int .i64 v', .slice A' lb cb]] w fun e w' => e = .returned (.int .i64 1) ∧ Below w.heap.size w w' := by
  have t1 : decide (k < 1) = false := by simp; omega
  have t2 : decide (5 < k) = true := by simpa using h
  clear h
  go_enter Tryd.func63, Tryd.ntmps63
  go_wp2
  go_ret
  exact ⟨rfl, hbt (hbt (below_al _ _) (below_al _ _)) (below_al _ _)⟩
set_option maxRecDepth 100000 in
set_option maxHeartbeats 3200000 in
theorem rchk_1 (f t : Int) (s : ByteArray) (B : Option Addr) (n cP : Nat) (st v : Int) (A : Option Addr) (la ca : Nat) (st' v' : Int) (A' : Option Addr) (lb cb : Nat) (okA okB : Bool) (n1 c1 f1 lo1 hi1 n2 c2 f2 lo2 hi2 r R : Int) (w : World)
    (hI : ∀ W, Below w.heap.size w W → Calls Tryd.prog 85 #[.agg #[.int .i64 st, .int .i64 v, .slice A la ca], .int .i64 f, .bool false] W fun e w' => e = .returned (.tuple #[.agg #[.int .i64 n1, .int .i64 c1, .int .i64 f1, .int .i64 lo1, .int .i64 hi1], .bool okA]) ∧ Below W.heap.size W w')
    (hJ : ∀ W, Below w.heap.size w W → Calls Tryd.prog 85 #[.agg #[.int .i64 st', .int .i64 v', .slice A' lb cb], .int .i64 t, .bool false] W fun e w' => e = .returned (.tuple #[.agg #[.int .i64 n2, .int .i64 c2, .int .i64 f2, .int .i64 lo2, .int .i64 hi2], .bool okB]) ∧ Below W.heap.size W w')
    (hC : ∀ W, Below w.heap.size w W → Calls Tryd.prog 86 #[.agg #[.int .i64 1, .int .i64 f, .int .i64 t, .string s, .slice B n cP], .agg #[.int .i64 n1, .int .i64 c1, .int .i64 f1, .int .i64 lo1, .int .i64 hi1], .agg #[.int .i64 n2, .int .i64 c2, .int .i64 f2, .int .i64 lo2, .int .i64 hi2]] W fun e w' => e = .returned (.int .i64 r) ∧ Below W.heap.size W w')
    (h1 : okA = false → R = 9) (h2 : okA = true → okB = false → R = 9) (h3 : okA = true → okB = true → s ≠ ⟨#[]⟩ → R = 3) (h4 : okA = true → okB = true → n ≠ 0 → R = 3) (h5 : okA = true → okB = true → s = ⟨#[]⟩ → n = 0 → R = r) :
    Calls Tryd.prog 63 #[.agg #[.int .i64 1, .int .i64 f, .int .i64 t, .string s, .slice B n cP], .agg #[.int .i64 st, .int .i64 v, .slice A la ca], .agg #[.int .i64 st', .int .i64 v', .slice A' lb cb]] w fun e w' => e = .returned (.int .i64 R) ∧ Below w.heap.size w w' := by
  have HR1 := Lib.hid h1
  have HR2 := Lib.hid h2
  have HR3 := Lib.hid h3
  have HR4 := Lib.hid h4
  have HR5 := Lib.hid h5
  have HI := Lib.hid hI
  have HJ := Lib.hid hJ
  have HC := Lib.hid hC
  have HQ0 := Lib.hid (rq_new w 1 f t s B n cP st v A la ca st' v' A' lb cb)
  clear h1 h2 h3 h4 h5 hI hJ hC
  go_enter Tryd.func63, Tryd.ntmps63
  go_wp2_with fail
  generalize ((w.alloc (.cells #[.int .i64 1, .int .i64 f, .int .i64 t, .string s, .slice B n cP] 53)).alloc (.cells #[.int .i64 st, .int .i64 v, .slice A la ca] 28)).alloc (.cells #[.int .i64 st', .int .i64 v', .slice A' lb cb] 28) = U at *
  refine (HI.out _ HQ0.out.1).mono ?_
  rintro e w1 ⟨rfl, hb1⟩
  have hb1' := hbt hb1 (below_al w1 (.cells #[.int .i64 n1, .int .i64 c1, .int .i64 f1, .int .i64 lo1, .int .i64 hi1] 70))
  have HQ1 := Lib.hid (HQ0.out.below hb1')
  have HX1 : Hid ((w1.alloc (.cells #[.int .i64 n1, .int .i64 c1, .int .i64 f1, .int .i64 lo1, .int .i64 hi1] 70)).heap[w1.heap.size]? = some (.cells #[.int .i64 n1, .int .i64 c1, .int .i64 f1, .int .i64 lo1, .int .i64 hi1] 70)) := heap_alloc_new _ _
  clear hb1 hb1' HI HQ0
  obtain ⟨⟨r0, r1, r2, r3, r4⟩, ⟨a0, a1, a2⟩, b0, b1, b2⟩ := HQ1.out.cells
  go_wp2_with fail
  clear r0 r1 r2 r3 r4 a0 a1 a2 b0 b1 b2
  generalize w1.alloc (.cells #[.int .i64 n1, .int .i64 c1, .int .i64 f1, .int .i64 lo1, .int .i64 hi1] 70) = W1 at *
  generalize w1.heap.size = gx at *
  refine (HJ.out _ HQ1.out.1).mono ?_
  rintro e w2 ⟨rfl, hb2⟩
  have hb2' := hbt hb2 (below_al w2 (.cells #[.int .i64 n2, .int .i64 c2, .int .i64 f2, .int .i64 lo2, .int .i64 hi2] 70))
  have HQ2 := Lib.hid (HQ1.out.below hb2')
  have HX2 := Lib.hid (obj_below HX1.out hb2')
  have HY2 : Hid ((w2.alloc (.cells #[.int .i64 n2, .int .i64 c2, .int .i64 f2, .int .i64 lo2, .int .i64 hi2] 70)).heap[w2.heap.size]? = some (.cells #[.int .i64 n2, .int .i64 c2, .int .i64 f2, .int .i64 lo2, .int .i64 hi2] 70)) := heap_alloc_new _ _
  clear hb2 hb2' HJ HQ1 HX1
  obtain ⟨⟨r0, r1, r2, r3, r4⟩, ⟨a0, a1, a2⟩, b0, b1, b2⟩ := HQ2.out.cells
  obtain ⟨x0, x1, x2, x3, x4⟩ := obj_cells5 HX2.out
  obtain ⟨y0, y1, y2, y3, y4⟩ := obj_cells5 HY2.out
  cases okA
  · have HE := Lib.hid (HR1.out rfl)
    go_wp2
    go_ret
    exact ⟨by rw [HE.out] <;> rfl, HQ2.out.1⟩
  · cases okB
    · have HE := Lib.hid (HR2.out rfl rfl)
      go_wp2
      go_ret
      exact ⟨by rw [HE.out] <;> rfl, HQ2.out.1⟩
    · rcases text_cases s with rfl | ⟨ts, tne⟩
      · skip
        rcases (by omega : n = 0 ∨ 0 < n) with rfl | hn0
        · have HE := Lib.hid (HR5.out rfl rfl rfl rfl)
          go_wp2_with fail
          clear r0 r1 r2 r3 r4 a0 a1 a2 b0 b1 b2 x0 x1 x2 x3 x4 y0 y1 y2 y3 y4
          generalize w2.alloc (.cells #[.int .i64 n2, .int .i64 c2, .int .i64 f2, .int .i64 lo2, .int .i64 hi2] 70) = W2 at *
          refine (HC.out _ HQ2.out.1).mono ?_
          rintro e w3 ⟨rfl, hb3⟩
          have HB3 := Lib.hid (hbt HQ2.out.1 hb3)
          clear hb3
          go_wp2
          go_ret
          exact ⟨by rw [HE.out] <;> rfl, HB3.out⟩
        · have HE := Lib.hid (HR4.out rfl rfl (by omega))
          go_wp2
          go_ret
          exact ⟨by rw [HE.out] <;> rfl, HQ2.out.1⟩
      · skip
        have HE := Lib.hid (HR3.out rfl rfl tne)
        clear tne
        go_wp2
        go_ret
        exact ⟨by rw [HE.out] <;> rfl, HQ2.out.1⟩
set_option maxRecDepth 100000 in
set_option maxHeartbeats 3200000 in
theorem rchk_2 (f t : Int) (s : ByteArray) (B : Option Addr) (n cP : Nat) (st v : Int) (A : Option Addr) (la ca : Nat) (st' v' : Int) (A' : Option Addr) (lb cb : Nat) (okA okB : Bool) (n1 c1 f1 lo1 hi1 n2 c2 f2 lo2 hi2 r R : Int) (w : World)
    (hI : ∀ W, Below w.heap.size w W → Calls Tryd.prog 85 #[.agg #[.int .i64 st, .int .i64 v, .slice A la ca], .int .i64 f, .bool false] W fun e w' => e = .returned (.tuple #[.agg #[.int .i64 n1, .int .i64 c1, .int .i64 f1, .int .i64 lo1, .int .i64 hi1], .bool okA]) ∧ Below W.heap.size W w')
    (hJ : ∀ W, Below w.heap.size w W → Calls Tryd.prog 85 #[.agg #[.int .i64 st', .int .i64 v', .slice A' lb cb], .int .i64 t, .bool true] W fun e w' => e = .returned (.tuple #[.agg #[.int .i64 n2, .int .i64 c2, .int .i64 f2, .int .i64 lo2, .int .i64 hi2], .bool okB]) ∧ Below W.heap.size W w')
    (hC : ∀ W, Below w.heap.size w W → Calls Tryd.prog 86 #[.agg #[.int .i64 2, .int .i64 f, .int .i64 t, .string s, .slice B n cP], .agg #[.int .i64 n1, .int .i64 c1, .int .i64 f1, .int .i64 lo1, .int .i64 hi1], .agg #[.int .i64 n2, .int .i64 c2, .int .i64 f2, .int .i64 lo2, .int .i64 hi2]] W fun e w' => e = .returned (.int .i64 r) ∧ Below W.heap.size W w')
    (h1 : okA = false → R = 9) (h2 : okA = true → okB = false → R = 9) (h3 : okA = true → okB = true → s ≠ ⟨#[]⟩ → R = 3) (h4 : okA = true → okB = true → n ≠ 0 → R = 3) (h5 : okA = true → okB = true → s = ⟨#[]⟩ → n = 0 → R = r) :
    Calls Tryd.prog 63 #[.agg #[.int .i64 2, .int .i64 f, .int .i64 t, .string s, .slice B n cP], .agg #[.int .i64 st, .int .i64 v, .slice A la ca], .agg #[.int .i64 st', .int .i64 v', .slice A' lb cb]] w fun e w' => e = .returned (.int .i64 R) ∧ Below w.heap.size w w' := by
  have HR1 := Lib.hid h1
  have HR2 := Lib.hid h2
  have HR3 := Lib.hid h3
  have HR4 := Lib.hid h4
  have HR5 := Lib.hid h5
  have HI := Lib.hid hI
  have HJ := Lib.hid hJ
  have HC := Lib.hid hC
  have HQ0 := Lib.hid (rq_new w 2 f t s B n cP st v A la ca st' v' A' lb cb)
  clear h1 h2 h3 h4 h5 hI hJ hC
  go_enter Tryd.func63, Tryd.ntmps63
  go_wp2_with fail
  generalize ((w.alloc (.cells #[.int .i64 2, .int .i64 f, .int .i64 t, .string s, .slice B n cP] 53)).alloc (.cells #[.int .i64 st, .int .i64 v, .slice A la ca] 28)).alloc (.cells #[.int .i64 st', .int .i64 v', .slice A' lb cb] 28) = U at *
  refine (HI.out _ HQ0.out.1).mono ?_
  rintro e w1 ⟨rfl, hb1⟩
  have hb1' := hbt hb1 (below_al w1 (.cells #[.int .i64 n1, .int .i64 c1, .int .i64 f1, .int .i64 lo1, .int .i64 hi1] 70))
  have HQ1 := Lib.hid (HQ0.out.below hb1')
  have HX1 : Hid ((w1.alloc (.cells #[.int .i64 n1, .int .i64 c1, .int .i64 f1, .int .i64 lo1, .int .i64 hi1] 70)).heap[w1.heap.size]? = some (.cells #[.int .i64 n1, .int .i64 c1, .int .i64 f1, .int .i64 lo1, .int .i64 hi1] 70)) := heap_alloc_new _ _
  clear hb1 hb1' HI HQ0
  obtain ⟨⟨r0, r1, r2, r3, r4⟩, ⟨a0, a1, a2⟩, b0, b1, b2⟩ := HQ1.out.cells
  go_wp2_with fail
  clear r0 r1 r2 r3 r4 a0 a1 a2 b0 b1 b2
  generalize w1.alloc (.cells #[.int .i64 n1, .int .i64 c1, .int .i64 f1, .int .i64 lo1, .int .i64 hi1] 70) = W1 at *
  generalize w1.heap.size = gx at *
  refine (HJ.out _ HQ1.out.1).mono ?_
  rintro e w2 ⟨rfl, hb2⟩
  have hb2' := hbt hb2 (below_al w2 (.cells #[.int .i64 n2, .int .i64 c2, .int .i64 f2, .int .i64 lo2, .int .i64 hi2] 70))
  have HQ2 := Lib.hid (HQ1.out.below hb2')
  have HX2 := Lib.hid (obj_below HX1.out hb2')
  have HY2 : Hid ((w2.alloc (.cells #[.int .i64 n2, .int .i64 c2, .int .i64 f2, .int .i64 lo2, .int .i64 hi2] 70)).heap[w2.heap.size]? = some (.cells #[.int .i64 n2, .int .i64 c2, .int .i64 f2, .int .i64 lo2, .int .i64 hi2] 70)) := heap_alloc_new _ _
  clear hb2 hb2' HJ HQ1 HX1
  obtain ⟨⟨r0, r1, r2, r3, r4⟩, ⟨a0, a1, a2⟩, b0, b1, b2⟩ := HQ2.out.cells
  obtain ⟨x0, x1, x2, x3, x4⟩ := obj_cells5 HX2.out
  obtain ⟨y0, y1, y2, y3, y4⟩ := obj_cells5 HY2.out
  cases okA
  · have HE := Lib.hid (HR1.out rfl)
    go_wp2
    go_ret
    exact ⟨by rw [HE.out] <;> rfl, HQ2.out.1⟩
  · cases okB
    · have HE := Lib.hid (HR2.out rfl rfl)
      go_wp2
      go_ret
      exact ⟨by rw [HE.out] <;> rfl, HQ2.out.1⟩
    · rcases text_cases s with rfl | ⟨ts, tne⟩
      · skip
        rcases (by omega : n = 0 ∨ 0 < n) with rfl | hn0
        · have HE := Lib.hid (HR5.out rfl rfl rfl rfl)
          go_wp2_with fail
          clear r0 r1 r2 r3 r4 a0 a1 a2 b0 b1 b2 x0 x1 x2 x3 x4 y0 y1 y2 y3 y4
          generalize w2.alloc (.cells #[.int .i64 n2, .int .i64 c2, .int .i64 f2, .int .i64 lo2, .int .i64 hi2] 70) = W2 at *
          refine (HC.out _ HQ2.out.1).mono ?_
          rintro e w3 ⟨rfl, hb3⟩
          have HB3 := Lib.hid (hbt HQ2.out.1 hb3)
          clear hb3
          go_wp2
          go_ret
          exact ⟨by rw [HE.out] <;> rfl, HB3.out⟩
        · have HE := Lib.hid (HR4.out rfl rfl (by omega))
          go_wp2
          go_ret
          exact ⟨by rw [HE.out] <;> rfl, HQ2.out.1⟩
      · skip
        have HE := Lib.hid (HR3.out rfl rfl tne)
        clear tne
        go_wp2
        go_ret
        exact ⟨by rw [HE.out] <;> rfl, HQ2.out.1⟩
set_option maxRecDepth 100000 in
set_option maxHeartbeats 3200000 in
theorem rchk_3 (f t : Int) (s : ByteArray) (B : Option Addr) (n cP : Nat) (st v : Int) (A : Option Addr) (la ca : Nat) (st' v' : Int) (A' : Option Addr) (lb cb : Nat) (okA okB : Bool) (n1 c1 f1 lo1 hi1 n2 c2 f2 lo2 hi2 r R : Int) (w : World)
    (hI : ∀ W, Below w.heap.size w W → Calls Tryd.prog 85 #[.agg #[.int .i64 st, .int .i64 v, .slice A la ca], .int .i64 f, .bool true] W fun e w' => e = .returned (.tuple #[.agg #[.int .i64 n1, .int .i64 c1, .int .i64 f1, .int .i64 lo1, .int .i64 hi1], .bool okA]) ∧ Below W.heap.size W w')
    (hJ : ∀ W, Below w.heap.size w W → Calls Tryd.prog 85 #[.agg #[.int .i64 st', .int .i64 v', .slice A' lb cb], .int .i64 t, .bool false] W fun e w' => e = .returned (.tuple #[.agg #[.int .i64 n2, .int .i64 c2, .int .i64 f2, .int .i64 lo2, .int .i64 hi2], .bool okB]) ∧ Below W.heap.size W w')
    (hC : ∀ W, Below w.heap.size w W → Calls Tryd.prog 86 #[.agg #[.int .i64 3, .int .i64 f, .int .i64 t, .string s, .slice B n cP], .agg #[.int .i64 n1, .int .i64 c1, .int .i64 f1, .int .i64 lo1, .int .i64 hi1], .agg #[.int .i64 n2, .int .i64 c2, .int .i64 f2, .int .i64 lo2, .int .i64 hi2]] W fun e w' => e = .returned (.int .i64 r) ∧ Below W.heap.size W w')
    (h1 : okA = false → R = 9) (h2 : okA = true → okB = false → R = 9) (h4 : okA = true → okB = true → n ≠ 0 → R = 3) (h5 : okA = true → okB = true → n = 0 → R = r) :
    Calls Tryd.prog 63 #[.agg #[.int .i64 3, .int .i64 f, .int .i64 t, .string s, .slice B n cP], .agg #[.int .i64 st, .int .i64 v, .slice A la ca], .agg #[.int .i64 st', .int .i64 v', .slice A' lb cb]] w fun e w' => e = .returned (.int .i64 R) ∧ Below w.heap.size w w' := by
  have HR1 := Lib.hid h1
  have HR2 := Lib.hid h2
  have HR4 := Lib.hid h4
  have HR5 := Lib.hid h5
  have HI := Lib.hid hI
  have HJ := Lib.hid hJ
  have HC := Lib.hid hC
  have HQ0 := Lib.hid (rq_new w 3 f t s B n cP st v A la ca st' v' A' lb cb)
  clear h1 h2 h4 h5 hI hJ hC
  go_enter Tryd.func63, Tryd.ntmps63
  go_wp2_with fail
  generalize ((w.alloc (.cells #[.int .i64 3, .int .i64 f, .int .i64 t, .string s, .slice B n cP] 53)).alloc (.cells #[.int .i64 st, .int .i64 v, .slice A la ca] 28)).alloc (.cells #[.int .i64 st', .int .i64 v', .slice A' lb cb] 28) = U at *
  refine (HI.out _ HQ0.out.1).mono ?_
  rintro e w1 ⟨rfl, hb1⟩
  have hb1' := hbt hb1 (below_al w1 (.cells #[.int .i64 n1, .int .i64 c1, .int .i64 f1, .int .i64 lo1, .int .i64 hi1] 70))
  have HQ1 := Lib.hid (HQ0.out.below hb1')
  have HX1 : Hid ((w1.alloc (.cells #[.int .i64 n1, .int .i64 c1, .int .i64 f1, .int .i64 lo1, .int .i64 hi1] 70)).heap[w1.heap.size]? = some (.cells #[.int .i64 n1, .int .i64 c1, .int .i64 f1, .int .i64 lo1, .int .i64 hi1] 70)) := heap_alloc_new _ _
  clear hb1 hb1' HI HQ0
  obtain ⟨⟨r0, r1, r2, r3, r4⟩, ⟨a0, a1, a2⟩, b0, b1, b2⟩ := HQ1.out.cells
  go_wp2_with fail
  clear r0 r1 r2 r3 r4 a0 a1 a2 b0 b1 b2
  generalize w1.alloc (.cells #[.int .i64 n1, .int .i64 c1, .int .i64 f1, .int .i64 lo1, .int .i64 hi1] 70) = W1 at *
  generalize w1.heap.size = gx at *
  refine (HJ.out _ HQ1.out.1).mono ?_
  rintro e w2 ⟨rfl, hb2⟩
  have hb2' := hbt hb2 (below_al w2 (.cells #[.int .i64 n2, .int .i64 c2, .int .i64 f2, .int .i64 lo2, .int .i64 hi2] 70))
  have HQ2 := Lib.hid (HQ1.out.below hb2')
  have HX2 := Lib.hid (obj_below HX1.out hb2')
  have HY2 : Hid ((w2.alloc (.cells #[.int .i64 n2, .int .i64 c2, .int .i64 f2, .int .i64 lo2, .int .i64 hi2] 70)).heap[w2.heap.size]? = some (.cells #[.int .i64 n2, .int .i64 c2, .int .i64 f2, .int .i64 lo2, .int .i64 hi2] 70)) := heap_alloc_new _ _
  clear hb2 hb2' HJ HQ1 HX1
  obtain ⟨⟨r0, r1, r2, r3, r4⟩, ⟨a0, a1, a2⟩, b0, b1, b2⟩ := HQ2.out.cells
  obtain ⟨x0, x1, x2, x3, x4⟩ := obj_cells5 HX2.out
  obtain ⟨y0, y1, y2, y3, y4⟩ := obj_cells5 HY2.out
  cases okA
  · have HE := Lib.hid (HR1.out rfl)
    go_wp2
    go_ret
    exact ⟨by rw [HE.out] <;> rfl, HQ2.out.1⟩
  · cases okB
    · have HE := Lib.hid (HR2.out rfl rfl)
      go_wp2
      go_ret
      exact ⟨by rw [HE.out] <;> rfl, HQ2.out.1⟩
    · rcases text_cases s with rfl | ⟨ts, tne⟩
      · skip
        rcases (by omega : n = 0 ∨ 0 < n) with rfl | hn0
        · have HE := Lib.hid (HR5.out rfl rfl rfl)
          go_wp2_with fail
          clear r0 r1 r2 r3 r4 a0 a1 a2 b0 b1 b2 x0 x1 x2 x3 x4 y0 y1 y2 y3 y4
          generalize w2.alloc (.cells #[.int .i64 n2, .int .i64 c2, .int .i64 f2, .int .i64 lo2, .int .i64 hi2] 70) = W2 at *
          refine (HC.out _ HQ2.out.1).mono ?_
          rintro e w3 ⟨rfl, hb3⟩
          have HB3 := Lib.hid (hbt HQ2.out.1 hb3)
          clear hb3
          go_wp2
          go_ret
          exact ⟨by rw [HE.out] <;> rfl, HB3.out⟩
        · have HE := Lib.hid (HR4.out rfl rfl (by omega))
          go_wp2
          go_ret
          exact ⟨by rw [HE.out] <;> rfl, HQ2.out.1⟩
      · clear tne
        rcases (by omega : n = 0 ∨ 0 < n) with rfl | hn0
        · have HE := Lib.hid (HR5.out rfl rfl rfl)
          go_wp2_with fail
          clear r0 r1 r2 r3 r4 a0 a1 a2 b0 b1 b2 x0 x1 x2 x3 x4 y0 y1 y2 y3 y4
          generalize w2.alloc (.cells #[.int .i64 n2, .int .i64 c2, .int .i64 f2, .int .i64 lo2, .int .i64 hi2] 70) = W2 at *
          refine (HC.out _ HQ2.out.1).mono ?_
          rintro e w3 ⟨rfl, hb3⟩
          have HB3 := Lib.hid (hbt HQ2.out.1 hb3)
          clear hb3
          go_wp2
          go_ret
          exact ⟨by rw [HE.out] <;> rfl, HB3.out⟩
        · have HE := Lib.hid (HR4.out rfl rfl (by omega))
          go_wp2
          go_ret
          exact ⟨by rw [HE.out] <;> rfl, HQ2.out.1⟩
set_option maxRecDepth 100000 in
set_option maxHeartbeats 3200000 in
theorem rchk_4 (f t : Int) (s : ByteArray) (B : Option Addr) (n cP : Nat) (st v : Int) (A : Option Addr) (la ca : Nat) (st' v' : Int) (A' : Option Addr) (lb cb : Nat) (okA okB : Bool) (n1 c1 f1 lo1 hi1 n2 c2 f2 lo2 hi2 r R : Int) (w : World)
    (hI : ∀ W, Below w.heap.size w W → Calls Tryd.prog 85 #[.agg #[.int .i64 st, .int .i64 v, .slice A la ca], .int .i64 f, .bool false] W fun e w' => e = .returned (.tuple #[.agg #[.int .i64 n1, .int .i64 c1, .int .i64 f1, .int .i64 lo1, .int .i64 hi1], .bool okA]) ∧ Below W.heap.size W w')
    (hJ : ∀ W, Below w.heap.size w W → Calls Tryd.prog 85 #[.agg #[.int .i64 st', .int .i64 v', .slice A' lb cb], .int .i64 t, .bool false] W fun e w' => e = .returned (.tuple #[.agg #[.int .i64 n2, .int .i64 c2, .int .i64 f2, .int .i64 lo2, .int .i64 hi2], .bool okB]) ∧ Below W.heap.size W w')
    (hC : ∀ W, Below w.heap.size w W → Calls Tryd.prog 86 #[.agg #[.int .i64 4, .int .i64 f, .int .i64 t, .string s, .slice B n cP], .agg #[.int .i64 n1, .int .i64 c1, .int .i64 f1, .int .i64 lo1, .int .i64 hi1], .agg #[.int .i64 n2, .int .i64 c2, .int .i64 f2, .int .i64 lo2, .int .i64 hi2]] W fun e w' => e = .returned (.int .i64 r) ∧ Below W.heap.size W w')
    (h1 : okA = false → R = 9) (h2 : okA = true → okB = false → R = 9) (h3 : okA = true → okB = true → s ≠ ⟨#[]⟩ → R = 3) (h4 : okA = true → okB = true → n ≠ 0 → R = 3) (h5 : okA = true → okB = true → s = ⟨#[]⟩ → n = 0 → R = r) :
    Calls Tryd.prog 63 #[.agg #[.int .i64 4, .int .i64 f, .int .i64 t, .string s, .slice B n cP], .agg #[.int .i64 st, .int .i64 v, .slice A la ca], .agg #[.int .i64 st', .int .i64 v', .slice A' lb cb]] w fun e w' => e = .returned (.int .i64 R) ∧ Below w.heap.size w w' := by
  have HR1 := Lib.hid h1
  have HR2 := Lib.hid h2
  have HR3 := Lib.hid h3
  have HR4 := Lib.hid h4
  have HR5 := Lib.hid h5
  have HI := Lib.hid hI
  have HJ := Lib.hid hJ
  have HC := Lib.hid hC
  have HQ0 := Lib.hid (rq_new w 4 f t s B n cP st v A la ca st' v' A' lb cb)
  clear h1 h2 h3 h4 h5 hI hJ hC
  go_enter Tryd.func63, Tryd.ntmps63
  go_wp2_with fail
  generalize ((w.alloc (.cells #[.int .i64 4, .int .i64 f, .int .i64 t, .string s, .slice B n cP] 53)).alloc (.cells #[.int .i64 st, .int .i64 v, .slice A la ca] 28)).alloc (.cells #[.int .i64 st', .int .i64 v', .slice A' lb cb] 28) = U at *
  refine (HI.out _ HQ0.out.1).mono ?_
  rintro e w1 ⟨rfl, hb1⟩
  have hb1' := hbt hb1 (below_al w1 (.cells #[.int .i64 n1, .int .i64 c1, .int .i64 f1, .int .i64 lo1, .int .i64 hi1] 70))
  have HQ1 := Lib.hid (HQ0.out.below hb1')
  have HX1 : Hid ((w1.alloc (.cells #[.int .i64 n1, .int .i64 c1, .int .i64 f1, .int .i64 lo1, .int .i64 hi1] 70)).heap[w1.heap.size]? = some (.cells #[.int .i64 n1, .int .i64 c1, .int .i64 f1, .int .i64 lo1, .int .i64 hi1] 70)) := heap_alloc_new _ _
  clear hb1 hb1' HI HQ0
  obtain ⟨⟨r0, r1, r2, r3, r4⟩, ⟨a0, a1, a2⟩, b0, b1, b2⟩ := HQ1.out.cells
  go_wp2_with fail
  clear r0 r1 r2 r3 r4 a0 a1 a2 b0 b1 b2
  generalize w1.alloc (.cells #[.int .i64 n1, .int .i64 c1, .int .i64 f1, .int .i64 lo1, .int .i64 hi1] 70) = W1 at *
  generalize w1.heap.size = gx at *
  refine (HJ.out _ HQ1.out.1).mono ?_
  rintro e w2 ⟨rfl, hb2⟩
  have hb2' := hbt hb2 (below_al w2 (.cells #[.int .i64 n2, .int .i64 c2, .int .i64 f2, .int .i64 lo2, .int .i64 hi2] 70))
  have HQ2 := Lib.hid (HQ1.out.below hb2')
  have HX2 := Lib.hid (obj_below HX1.out hb2')
  have HY2 : Hid ((w2.alloc (.cells #[.int .i64 n2, .int .i64 c2, .int .i64 f2, .int .i64 lo2, .int .i64 hi2] 70)).heap[w2.heap.size]? = some (.cells #[.int .i64 n2, .int .i64 c2, .int .i64 f2, .int .i64 lo2, .int .i64 hi2] 70)) := heap_alloc_new _ _
  clear hb2 hb2' HJ HQ1 HX1
  obtain ⟨⟨r0, r1, r2, r3, r4⟩, ⟨a0, a1, a2⟩, b0, b1, b2⟩ := HQ2.out.cells
  obtain ⟨x0, x1, x2, x3, x4⟩ := obj_cells5 HX2.out
  obtain ⟨y0, y1, y2, y3, y4⟩ := obj_cells5 HY2.out
  cases okA
  · have HE := Lib.hid (HR1.out rfl)
    go_wp2
    go_ret
    exact ⟨by rw [HE.out] <;> rfl, HQ2.out.1⟩
  · cases okB
    · have HE := Lib.hid (HR2.out rfl rfl)
      go_wp2
      go_ret
      exact ⟨by rw [HE.out] <;> rfl, HQ2.out.1⟩
    · rcases text_cases s with rfl | ⟨ts, tne⟩
      · skip
        rcases (by omega : n = 0 ∨ 0 < n) with rfl | hn0
        · have HE := Lib.hid (HR5.out rfl rfl rfl rfl)
          go_wp2_with fail
          clear r0 r1 r2 r3 r4 a0 a1 a2 b0 b1 b2 x0 x1 x2 x3 x4 y0 y1 y2 y3 y4
          generalize w2.alloc (.cells #[.int .i64 n2, .int .i64 c2, .int .i64 f2, .int .i64 lo2, .int .i64 hi2] 70) = W2 at *
          refine (HC.out _ HQ2.out.1).mono ?_
          rintro e w3 ⟨rfl, hb3⟩
          have HB3 := Lib.hid (hbt HQ2.out.1 hb3)
          clear hb3
          go_wp2
          go_ret
          exact ⟨by rw [HE.out] <;> rfl, HB3.out⟩
        · have HE := Lib.hid (HR4.out rfl rfl (by omega))
          go_wp2
          go_ret
          exact ⟨by rw [HE.out] <;> rfl, HQ2.out.1⟩
      · skip
        have HE := Lib.hid (HR3.out rfl rfl tne)
        clear tne
        go_wp2
        go_ret
        exact ⟨by rw [HE.out] <;> rfl, HQ2.out.1⟩
set_option maxRecDepth 100000 in
set_option maxHeartbeats 3200000 in
theorem rchk_5 (f t : Int) (s : ByteArray) (B : Option Addr) (n cP : Nat) (st v : Int) (A : Option Addr) (la ca : Nat) (st' v' : Int) (A' : Option Addr) (lb cb : Nat) (okA okB : Bool) (n1 c1 f1 lo1 hi1 n2 c2 f2 lo2 hi2 r R : Int) (w : World)
    (hI : ∀ W, Below w.heap.size w W → Calls Tryd.prog 85 #[.agg #[.int .i64 st, .int .i64 v, .slice A la ca], .int .i64 f, .bool false] W fun e w' => e = .returned (.tuple #[.agg #[.int .i64 n1, .int .i64 c1, .int .i64 f1, .int .i64 lo1, .int .i64 hi1], .bool okA]) ∧ Below W.heap.size W w')
    (hJ : ∀ W, Below w.heap.size w W → Calls Tryd.prog 85 #[.agg #[.int .i64 st', .int .i64 v', .slice A' lb cb], .int .i64 t, .bool false] W fun e w' => e = .returned (.tuple #[.agg #[.int .i64 n2, .int .i64 c2, .int .i64 f2, .int .i64 lo2, .int .i64 hi2], .bool okB]) ∧ Below W.heap.size W w')
    (hC : ∀ W, Below w.heap.size w W → Calls Tryd.prog 86 #[.agg #[.int .i64 5, .int .i64 f, .int .i64 t, .string s, .slice B n cP], .agg #[.int .i64 n1, .int .i64 c1, .int .i64 f1, .int .i64 lo1, .int .i64 hi1], .agg #[.int .i64 n2, .int .i64 c2, .int .i64 f2, .int .i64 lo2, .int .i64 hi2]] W fun e w' => e = .returned (.int .i64 r) ∧ Below W.heap.size W w')
    (h1 : okA = false → R = 9) (h2 : okA = true → okB = false → R = 9) (h3 : okA = true → okB = true → s ≠ ⟨#[]⟩ → R = 3) (h5 : okA = true → okB = true → s = ⟨#[]⟩ → R = r) :
    Calls Tryd.prog 63 #[.agg #[.int .i64 5, .int .i64 f, .int .i64 t, .string s, .slice B n cP], .agg #[.int .i64 st, .int .i64 v, .slice A la ca], .agg #[.int .i64 st', .int .i64 v', .slice A' lb cb]] w fun e w' => e = .returned (.int .i64 R) ∧ Below w.heap.size w w' := by
  have HR1 := Lib.hid h1
  have HR2 := Lib.hid h2
  have HR3 := Lib.hid h3
  have HR5 := Lib.hid h5
  have HI := Lib.hid hI
  have HJ := Lib.hid hJ
  have HC := Lib.hid hC
  have HQ0 := Lib.hid (rq_new w 5 f t s B n cP st v A la ca st' v' A' lb cb)
  clear h1 h2 h3 h5 hI hJ hC
  go_enter Tryd.func63, Tryd.ntmps63
  go_wp2_with fail
  generalize ((w.alloc (.cells #[.int .i64 5, .int .i64 f, .int .i64 t, .string s, .slice B n cP] 53)).alloc (.cells #[.int .i64 st, .int .i64 v, .slice A la ca] 28)).alloc (.cells #[.int .i64 st', .int .i64 v', .slice A' lb cb] 28) = U at *
  refine (HI.out _ HQ0.out.1).mono ?_
  rintro e w1 ⟨rfl, hb1⟩
  have hb1' := hbt hb1 (below_al w1 (.cells #[.int .i64 n1, .int .i64 c1, .int .i64 f1, .int .i64 lo1, .int .i64 hi1] 70))
  have HQ1 := Lib.hid (HQ0.out.below hb1')
  have HX1 : Hid ((w1.alloc (.cells #[.int .i64 n1, .int .i64 c1, .int .i64 f1, .int .i64 lo1, .int .i64 hi1] 70)).heap[w1.heap.size]? = some (.cells #[.int .i64 n1, .int .i64 c1, .int .i64 f1, .int .i64 lo1, .int .i64 hi1] 70)) := heap_alloc_new _ _
  clear hb1 hb1' HI HQ0
  obtain ⟨⟨r0, r1, r2, r3, r4⟩, ⟨a0, a1, a2⟩, b0, b1, b2⟩ := HQ1.out.cells
  go_wp2_with fail
  clear r0 r1 r2 r3 r4 a0 a1 a2 b0 b1 b2
  generalize w1.alloc (.cells #[.int .i64 n1, .int .i64 c1, .int .i64 f1, .int .i64 lo1, .int .i64 hi1] 70) = W1 at *
  generalize w1.heap.size = gx at *
  refine (HJ.out _ HQ1.out.1).mono ?_
  rintro e w2 ⟨rfl, hb2⟩
  have hb2' := hbt hb2 (below_al w2 (.cells #[.int .i64 n2, .int .i64 c2, .int .i64 f2, .int .i64 lo2, .int .i64 hi2] 70))
  have HQ2 := Lib.hid (HQ1.out.below hb2')
  have HX2 := Lib.hid (obj_below HX1.out hb2')
  have HY2 : Hid ((w2.alloc (.cells #[.int .i64 n2, .int .i64 c2, .int .i64 f2, .int .i64 lo2, .int .i64 hi2] 70)).heap[w2.heap.size]? = some (.cells #[.int .i64 n2, .int .i64 c2, .int .i64 f2, .int .i64 lo2, .int .i64 hi2] 70)) := heap_alloc_new _ _
  clear hb2 hb2' HJ HQ1 HX1
  obtain ⟨⟨r0, r1, r2, r3, r4⟩, ⟨a0, a1, a2⟩, b0, b1, b2⟩ := HQ2.out.cells
  obtain ⟨x0, x1, x2, x3, x4⟩ := obj_cells5 HX2.out
  obtain ⟨y0, y1, y2, y3, y4⟩ := obj_cells5 HY2.out
  cases okA
  · have HE := Lib.hid (HR1.out rfl)
    go_wp2
    go_ret
    exact ⟨by rw [HE.out] <;> rfl, HQ2.out.1⟩
  · cases okB
    · have HE := Lib.hid (HR2.out rfl rfl)
      go_wp2
      go_ret
      exact ⟨by rw [HE.out] <;> rfl, HQ2.out.1⟩
    · rcases text_cases s with rfl | ⟨ts, tne⟩
      · skip
        rcases (by omega : n = 0 ∨ 0 < n) with rfl | hn0
        · have HE := Lib.hid (HR5.out rfl rfl rfl)
          go_wp2_with fail
          clear r0 r1 r2 r3 r4 a0 a1 a2 b0 b1 b2 x0 x1 x2 x3 x4 y0 y1 y2 y3 y4
          generalize w2.alloc (.cells #[.int .i64 n2, .int .i64 c2, .int .i64 f2, .int .i64 lo2, .int .i64 hi2] 70) = W2 at *
          refine (HC.out _ HQ2.out.1).mono ?_
          rintro e w3 ⟨rfl, hb3⟩
          have HB3 := Lib.hid (hbt HQ2.out.1 hb3)
          clear hb3
          go_wp2
          go_ret
          exact ⟨by rw [HE.out] <;> rfl, HB3.out⟩
        · have HE := Lib.hid (HR5.out rfl rfl rfl)
          go_wp2_with fail
          clear r0 r1 r2 r3 r4 a0 a1 a2 b0 b1 b2 x0 x1 x2 x3 x4 y0 y1 y2 y3 y4
          generalize w2.alloc (.cells #[.int .i64 n2, .int .i64 c2, .int .i64 f2, .int .i64 lo2, .int .i64 hi2] 70) = W2 at *
          refine (HC.out _ HQ2.out.1).mono ?_
          rintro e w3 ⟨rfl, hb3⟩
          have HB3 := Lib.hid (hbt HQ2.out.1 hb3)
          clear hb3
          go_wp2
          go_ret
          exact ⟨by rw [HE.out] <;> rfl, HB3.out⟩
      · skip
        have HE := Lib.hid (HR3.out rfl rfl tne)
        clear tne
        go_wp2
        go_ret
        exact ⟨by rw [HE.out] <;> rfl, HQ2.out.1⟩
theorem rchk_any : RChk := by
  intro k f t s B cP P st v A ca a st' v' A' cb b w hK hP hA hB hla hlb hlP hf hs
  by_cases hk : k < 1 ∨ 5 < k
  · rw [rulN_arg hk]
    rcases hk with h | h
    · exact rchk_low k f t s B _ cP st v A _ ca st' v' A' _ cb w h
    · exact rchk_high k f t s B _ cP st v A _ ca st' v' A' _ cb w h
  · have N1 := fun h1 => rulN_from (f := f) (t := t) (s := s) (P := P) (a := a) (b := b) hk h1
    have N2 := fun h1 h2 => rulN_to (f := f) (t := t) (s := s) (P := P) (a := a) (b := b) hk h1 h2
    have N3 := fun h1 h2 h3 => rulN_form (f := f) (t := t) (s := s) (P := P) (a := a) (b := b) hk h1 h2 h3
    have N4 := fun h1 h2 h3 => rulN_kind (f := f) (t := t) (s := s) (P := P) (a := a) (b := b) hk h1 h2 h3
    rcases kind_cases hk with rfl | rfl | rfl | rfl | rfl
    · exact rchk_1 f t s B P.length cP st v A a.length ca st' v' A' b.length cb (fndP f a).2 (fndP t b).2 _ _ _ _ _ _ _ _ _ _ _ _ w (fun W h => rend_in st v A a ca f W (hA.below h) hla) (fun W h => rend_in st' v' A' b cb t W (hB.below h) hlb) (fun W h => rkind_1 f t s B P.length cP P _ _ _ _ _ _ _ _ _ _ W (hK.below h)) (fun p => N1 (by simpa [rlA] using p)) (fun p q => N2 (by simpa [rlA] using p) (by simpa [rlB] using q)) (fun p q h => N3 (by simpa [rlA] using p) (by simpa [rlB] using q) (by simp [rlC, noS, h])) (fun p q h => N3 (by simpa [rlA] using p) (by simpa [rlB] using q) (by simp [rlC, h])) (fun p q h h2 => N4 (by simpa [rlA] using p) (by simpa [rlB] using q) (by simp [rlC, noS, h, h2]))
    · exact rchk_2 f t s B P.length cP st v A a.length ca st' v' A' b.length cb (fndP f a).2 (t == 0) _ _ _ _ _ 0 0 0 0 0 _ _ w (fun W h => rend_in st v A a ca f W (hA.below h) hla) (fun W h => rend_out st' v' A' b.length cb t W) (fun W h => rkind_2 f t s B P.length cP P _ _ _ _ _ _ _ _ _ _ W) (fun p => N1 (by simpa [rlA] using p)) (fun p q => N2 (by simpa [rlA] using p) (by simpa [rlB] using q)) (fun p q h => N3 (by simpa [rlA] using p) (by simpa [rlB] using q) (by simp [rlC, noS, h])) (fun p q h => N3 (by simpa [rlA] using p) (by simpa [rlB] using q) (by simp [rlC, h])) (fun p q h h2 => N4 (by simpa [rlA] using p) (by simpa [rlB] using q) (by simp [rlC, noS, h, h2]))
    · exact rchk_3 f t s B P.length cP st v A a.length ca st' v' A' b.length cb (f == 0) (fndP t b).2 0 0 0 0 0 _ _ _ _ _ _ _ w (fun W h => rend_out st v A a.length ca f W) (fun W h => rend_in st' v' A' b cb t W (hB.below h) hlb) (fun W h => rkind_3 f t s B P.length cP P _ _ _ _ _ _ _ _ _ _ W (hK.below h) hs) (fun p => N1 (by simpa [rlA] using p)) (fun p q => N2 (by simpa [rlA] using p) (by simpa [rlB] using q)) (fun p q h => N3 (by simpa [rlA] using p) (by simpa [rlB] using q) (by simp [rlC, h])) (fun p q h2 => N4 (by simpa [rlA] using p) (by simpa [rlB] using q) (by simp [rlC, noS, h2]))
    · exact rchk_4 f t s B P.length cP st v A a.length ca st' v' A' b.length cb (fndP f a).2 (fndP t b).2 _ _ _ _ _ _ _ _ _ _ _ _ w (fun W h => rend_in st v A a ca f W (hA.below h) hla) (fun W h => rend_in st' v' A' b cb t W (hB.below h) hlb) (fun W h => rkind_4 f t s B P.length cP P _ _ _ _ _ _ _ _ _ _ W) (fun p => N1 (by simpa [rlA] using p)) (fun p q => N2 (by simpa [rlA] using p) (by simpa [rlB] using q)) (fun p q h => N3 (by simpa [rlA] using p) (by simpa [rlB] using q) (by simp [rlC, noS, h])) (fun p q h => N3 (by simpa [rlA] using p) (by simpa [rlB] using q) (by simp [rlC, h])) (fun p q h h2 => N4 (by simpa [rlA] using p) (by simpa [rlB] using q) (by simp [rlC, noS, h, h2]))
    · exact rchk_5 f t s B P.length cP st v A a.length ca st' v' A' b.length cb (fndP f a).2 (fndP t b).2 _ _ _ _ _ _ _ _ _ _ _ _ w (fun W h => rend_in st v A a ca f W (hA.below h) hla) (fun W h => rend_in st' v' A' b cb t W (hB.below h) hlb) (fun W h => rkind_5 f t s B P.length cP P _ _ _ _ _ _ _ _ _ _ W (hK.below h) (hP.below h) rfl hlP hf) (fun p => N1 (by simpa [rlA] using p)) (fun p q => N2 (by simpa [rlA] using p) (by simpa [rlB] using q)) (fun p q h => N3 (by simpa [rlA] using p) (by simpa [rlB] using q) (by simp [rlC, noS, h])) (fun p q h => N4 (by simpa [rlA] using p) (by simpa [rlB] using q) (by simp [rlC, noS, h]))

end Go.Proofs.YtbhlennolghjmaaDoor

/-
  The program's Apply answers as the document asks, for every rule, in every world.
-/
namespace Go.Proofs.YtbhlennolghjmaaDoor
open Go.RowKit

set_option maxRecDepth 100000 in
set_option maxHeartbeats 1600000 in
theorem rdo_1 (f t : Int) (s : ByteArray) (B : Option Addr) (cP : Nat) (P : List PairT) (st v : Int) (A : Option Addr) (ca : Nat) (b : List Sp) (x : ByteArray) (w : World) : Calls Tryd.prog 66 #[.agg #[.int .i64 1, .int .i64 f, .int .i64 t, .string s, .slice B P.length cP], .agg #[.int .i64 st, .int .i64 v, .slice A b.length ca], .string x] w fun e w' => e = .returned (.tuple #[.agg #[.int .i64 (rapN 1 t s P b x).1, .string (rapN 1 t s P b x).2.1], .int .i64 (rapN 1 t s P b x).2.2]) ∧ Below w.heap.size w w' := by
  rw [rap_1]
  generalize P.length = n
  generalize b.length = lb
  go_enter Tryd.func66, Tryd.ntmps66
  go_wp2
  refine bodyPost_ret (results_cell_row1 rfl _ _ (w.heap.size + 2) _ _ _ _ rfl (heap_al _ _ _ (by simp)) Tryd.underlying81 rfl (by kernel_rfl)) rfl ?_
  exact ⟨rfl, hbt (hbt (below_al _ _) (below_al _ _)) (below_al _ _)⟩
set_option maxRecDepth 100000 in
set_option maxHeartbeats 1600000 in
theorem rdo_2 (f t : Int) (s : ByteArray) (B : Option Addr) (cP : Nat) (P : List PairT) (st v : Int) (A : Option Addr) (ca : Nat) (b : List Sp) (x : ByteArray) (w : World) : Calls Tryd.prog 66 #[.agg #[.int .i64 2, .int .i64 f, .int .i64 t, .string s, .slice B P.length cP], .agg #[.int .i64 st, .int .i64 v, .slice A b.length ca], .string x] w fun e w' => e = .returned (.tuple #[.agg #[.int .i64 (rapN 2 t s P b x).1, .string (rapN 2 t s P b x).2.1], .int .i64 (rapN 2 t s P b x).2.2]) ∧ Below w.heap.size w w' := by
  rw [rap_2]
  generalize P.length = n
  generalize b.length = lb
  go_enter Tryd.func66, Tryd.ntmps66
  go_wp2
  refine bodyPost_ret (results_cell_row1 rfl _ _ (w.heap.size + 2) _ _ _ _ rfl (heap_al _ _ _ (by simp)) Tryd.underlying81 rfl (by kernel_rfl)) rfl ?_
  exact ⟨rfl, hbt (hbt (below_al _ _) (below_al _ _)) (below_al _ _)⟩
set_option maxRecDepth 100000 in
set_option maxHeartbeats 1600000 in
theorem rdo_3 (f t : Int) (s : ByteArray) (B : Option Addr) (cP : Nat) (P : List PairT) (st v : Int) (A : Option Addr) (ca : Nat) (b : List Sp) (x : ByteArray) (w : World) : Calls Tryd.prog 66 #[.agg #[.int .i64 3, .int .i64 f, .int .i64 t, .string s, .slice B P.length cP], .agg #[.int .i64 st, .int .i64 v, .slice A b.length ca], .string x] w fun e w' => e = .returned (.tuple #[.agg #[.int .i64 (rapN 3 t s P b x).1, .string (rapN 3 t s P b x).2.1], .int .i64 (rapN 3 t s P b x).2.2]) ∧ Below w.heap.size w w' := by
  rw [rap_3]
  generalize P.length = n
  generalize b.length = lb
  go_enter Tryd.func66, Tryd.ntmps66
  go_wp2
  refine bodyPost_ret (results_cell_row1 rfl _ _ (w.heap.size + 2) _ _ _ _ rfl (heap_al _ _ _ (by simp)) Tryd.underlying81 rfl (by kernel_rfl)) rfl ?_
  exact ⟨rfl, hbt (hbt (below_al _ _) (below_al _ _)) (below_al _ _)⟩
set_option maxRecDepth 100000 in
set_option maxHeartbeats 1600000 in
theorem rdo_low (k : Int) (f t : Int) (s : ByteArray) (B : Option Addr) (cP : Nat) (P : List PairT) (st v : Int) (A : Option Addr) (ca : Nat) (b : List Sp) (x : ByteArray) (w : World) (h : k < 1) : Calls Tryd.prog 66 #[.agg #[.int .i64 k, .int .i64 f, .int .i64 t, .string s, .slice B P.length cP], .agg #[.int .i64 st, .int .i64 v, .slice A b.length ca], .string x] w fun e w' => e = .returned (.tuple #[.agg #[.int .i64 (rapN k t s P b x).1, .string (rapN k t s P b x).2.1], .int .i64 (rapN k t s P b x).2.2]) ∧ Below w.heap.size w w' := by
  rw [rap_else (by omega)]
  have t1 : (k == 1) = false := by simp; omega
  have t2 : (k == 2) = false := by simp; omega
  have t3 : (k == 3) = false := by simp; omega
  have t4 : (k == 4) = false := by simp; omega
  have t5 : (k == 5) = false := by simp; omega
  clear h
  generalize P.length = n
  generalize b.length = lb
  go_enter Tryd.func66, Tryd.ntmps66
  go_wp2
  refine bodyPost_ret (results_cell_row1 rfl _ _ (w.heap.size + 2) _ _ _ _ rfl (heap_al _ _ _ (by simp)) Tryd.underlying81 rfl (by kernel_rfl)) rfl ?_
  exact ⟨rfl, hbt (hbt (below_al _ _) (below_al _ _)) (below_al _ _)⟩
set_option maxRecDepth 100000 in
set_option maxHeartbeats 1600000 in
theorem rdo_high (k : Int) (f t : Int) (s : ByteArray) (B : Option Addr) (cP : Nat) (P : List PairT) (st v : Int) (A : Option Addr) (ca : Nat) (b : List Sp) (x : ByteArray) (w : World) (h : 5 < k) : Calls Tryd.prog 66 #[.agg #[.int .i64 k, .int .i64 f, .int .i64 t, .string s, .slice B P.length cP], .agg #[.int .i64 st, .int .i64 v, .slice A b.length ca], .string x] w fun e w' => e = .returned (.tuple #[.agg #[.int .i64 (rapN k t s P b x).1, .string (rapN k t s P b x).2.1], .int .i64 (rapN k t s P b x).2.2]) ∧ Below w.heap.size w w' := by
  rw [rap_else (by omega)]
  have t1 : (k == 1) = false := by simp; omega
  have t2 : (k == 2) = false := by simp; omega
  have t3 : (k == 3) = false := by simp; omega
  have t4 : (k == 4) = false := by simp; omega
  have t5 : (k == 5) = false := by simp; omega
  clear h
  generalize P.length = n
  generalize b.length = lb
  go_enter Tryd.func66, Tryd.ntmps66
  go_wp2
  refine bodyPost_ret (results_cell_row1 rfl _ _ (w.heap.size + 2) _ _ _ _ rfl (heap_al _ _ _ (by simp)) Tryd.underlying81 rfl (by kernel_rfl)) rfl ?_
  exact ⟨rfl, hbt (hbt (below_al _ _) (below_al _ _)) (below_al _ _)⟩
set_option maxRecDepth 100000 in
set_option maxHeartbeats 3200000 in
theorem rrepad_any (t : Int) (s : ByteArray) (P : List PairT) (st v : Int) (A : Option Addr) (ca : Nat) (b : List Sp) (x : ByteArray) (w : World) (hB : Spl w A b) (hlb : b.length ≤ 1000) (hx : x.size ≤ maxLen) : Calls Tryd.prog 89 #[.int .i64 t, .agg #[.int .i64 st, .int .i64 v, .slice A b.length ca], .string x] w fun e w' => e = .returned (.tuple #[.agg #[.int .i64 (rapN 4 t s P b x).1, .string (rapN 4 t s P b x).2.1], .int .i64 (rapN 4 t s P b x).2.2]) ∧ Below w.heap.size w w' := by
  have HJ := Lib.hid (fun W h => sfind_any st v A ca b t W h hlb)
  have HB := Lib.hid hB
  have HD := Lib.hid (fun k W => pad_any x k W hx)
  have HR : Hid (rapN 4 t s P b x = if (fndP t b).2 = false then (0, noS, 9) else if padB x.data.toList (fndP t b).1.2.2.2.1 = false then (0, noS, 5) else (t, padS x.data.toList (fndP t b).1.2.2.2.1, 0)) := rap_4 _ _ _ _ _
  clear hB hx hlb
  generalize (fndP t b).2 = ok at *
  generalize (fndP t b).1 = y at *
  obtain ⟨n1, c1, f1', lo1, hi1⟩ := y
  dsimp only at HR HJ
  generalize b.length = lb at *
  have HB0 : Hid (Below w.heap.size w ((w.alloc (.cells #[.int .i64 st, .int .i64 v, .slice A lb ca] 28)).alloc (.cells #[.int .i64 0, .string ⟨#[]⟩] 81))) := hbt (below_al _ _) (below_al _ _)
  have HV0 : Hid (((w.alloc (.cells #[.int .i64 st, .int .i64 v, .slice A lb ca] 28)).alloc (.cells #[.int .i64 0, .string ⟨#[]⟩] 81)).heap[w.heap.size + 1]? = some (.cells #[.int .i64 0, .string ⟨#[]⟩] 81)) := heap_al _ _ _ (by simp)
  have HA0 : Hid (((w.alloc (.cells #[.int .i64 st, .int .i64 v, .slice A lb ca] 28)).alloc (.cells #[.int .i64 0, .string ⟨#[]⟩] 81)).heap[w.heap.size]? = some (.cells #[.int .i64 st, .int .i64 v, .slice A lb ca] 28)) := obj_below (heap_alloc_new _ _) (below_al _ _)
  go_enter Tryd.func89, Tryd.ntmps89
  go_wp2_with fail
  refine (HJ.out _ (HB.out.below HB0.out)).mono ?_
  rintro e w1 ⟨rfl, hb1⟩
  have hb1' := hbt hb1 (below_al w1 (.cells #[.int .i64 n1, .int .i64 c1, .int .i64 f1', .int .i64 lo1, .int .i64 hi1] 70))
  have HB1 := Lib.hid (hbt HB0.out hb1')
  have HV1 := Lib.hid (obj_below HV0.out hb1')
  clear hb1 hb1' HJ HB0 HV0 HA0
  obtain ⟨v0, v1, f0, f1⟩ := obj_cells HV1.out
  cases ok
  · have HE : Hid (rapN 4 t s P b x = (0, noS, 9)) := by show _ = _; rw [HR.out, if_pos rfl]
    go_wp2
    refine bodyPost_ret (results_cell_row1 rfl _ _ (w.heap.size + 1) _ _ _ _ rfl (obj_set2 HV1.out _ _) Tryd.underlying81 rfl (by kernel_rfl)) rfl ?_
    exact ⟨by rw [HE.out] <;> rfl, below_set2 HB1.out (by omega) _ _⟩
  · rw [if_neg (by simp)] at HR
    have HP2 := Lib.hid (fun W => HD.out lo1 W)
    cases hpad : padB x.data.toList lo1
    · have HE : Hid (rapN 4 t s P b x = (0, noS, 5)) := by show _ = _; rw [HR.out, if_pos hpad]
      rw [hpad, padS_no hpad] at HP2
      clear hpad
      go_wp2_with fail
      clear v0 v1 f0 f1
      generalize w1.alloc (.cells #[.int .i64 n1, .int .i64 c1, .int .i64 f1', .int .i64 lo1, .int .i64 hi1] 70) = W1 at *
      refine (HP2.out _).mono ?_
      rintro e w2 ⟨rfl, hb2⟩
      have HB2 := Lib.hid (hbt HB1.out hb2)
      have HV2 := Lib.hid (obj_below HV1.out hb2)
      clear hb2
      obtain ⟨v0, v1, f0, f1⟩ := obj_cells HV2.out
      go_wp2
      refine bodyPost_ret (results_cell_row1 rfl _ _ (w.heap.size + 1) _ _ _ _ rfl (obj_set2 HV2.out _ _) Tryd.underlying81 rfl (by kernel_rfl)) rfl ?_
      exact ⟨by rw [HE.out] <;> rfl, below_set2 HB2.out (by omega) _ _⟩
    · have HE : Hid (rapN 4 t s P b x = (t, padS x.data.toList lo1, 0)) := by show _ = _; rw [HR.out, if_neg (by simp [hpad])]
      rw [hpad] at HP2
      generalize padS x.data.toList lo1 = y at *
      clear hpad HR
      go_wp2_with fail
      clear v0 v1 f0 f1
      generalize w1.alloc (.cells #[.int .i64 n1, .int .i64 c1, .int .i64 f1', .int .i64 lo1, .int .i64 hi1] 70) = W1 at *
      refine (HP2.out _).mono ?_
      rintro e w2 ⟨rfl, hb2⟩
      have HB2 := Lib.hid (hbt HB1.out hb2)
      have HV2 := Lib.hid (obj_below HV1.out hb2)
      clear hb2
      obtain ⟨v0, v1, f0, f1⟩ := obj_cells HV2.out
      go_wp2
      refine bodyPost_ret (results_cell_row1 rfl _ _ (w.heap.size + 1) _ _ _ _ rfl (obj_set2 HV2.out _ _) Tryd.underlying81 rfl (by kernel_rfl)) rfl ?_
      exact ⟨by rw [HE.out] <;> rfl, below_set2 HB2.out (by omega) _ _⟩
set_option maxRecDepth 100000 in
set_option maxHeartbeats 3200000 in
theorem rlook_any (t : Int) (s : ByteArray) (B : Option Addr) (cP : Nat) (P : List PairT) (b : List Sp) (x : ByteArray) (w : World) (hP : Prs w B P) (hlP : P.length ≤ 5000000) : Calls Tryd.prog 90 #[.int .i64 t, .slice B P.length cP, .string x] w fun e w' => e = .returned (.tuple #[.agg #[.int .i64 (rapN 5 t s P b x).1, .string (rapN 5 t s P b x).2.1], .int .i64 (rapN 5 t s P b x).2.2]) ∧ Below w.heap.size w w' := by
  have HP := Lib.hid hP
  have HT := Lib.hid (fun W h => capply_any B cP P x W h hlP)
  have HR : Hid (rapN 5 t s P b x = if appB P x = false then (0, noS, 15) else (t, appS P x, 0)) := rap_5 _ _ _ _ _
  clear hP hlP
  generalize P.length = n at *
  have HV0 : Hid ((w.alloc (.cells #[.int .i64 0, .string ⟨#[]⟩] 81)).heap[w.heap.size]? = some (.cells #[.int .i64 0, .string ⟨#[]⟩] 81)) := heap_alloc_new _ _
  go_enter Tryd.func90, Tryd.ntmps90
  go_wp2_with fail
  refine (HT.out _ (HP.out.below (below_al _ _))).mono ?_
  rintro e w1 ⟨rfl, hb1⟩
  have HB1 := Lib.hid (hbt (below_al _ _) hb1)
  have HV1 := Lib.hid (obj_below HV0.out hb1)
  clear hb1 HV0
  obtain ⟨v0, v1, f0, f1⟩ := obj_cells HV1.out
  cases hap : appB P x
  · have HE : Hid (rapN 5 t s P b x = (0, noS, 15)) := by show _ = _; rw [HR.out, if_pos hap]
    rw [app_none hap]
    clear hap HT
    go_wp2
    refine bodyPost_ret (results_cell_row1 rfl _ _ w.heap.size _ _ _ _ rfl (obj_set2 HV1.out _ _) Tryd.underlying81 rfl (by kernel_rfl)) rfl ?_
    exact ⟨by rw [HE.out] <;> rfl, below_set2 HB1.out (by omega) _ _⟩
  · have HE : Hid (rapN 5 t s P b x = (t, appS P x, 0)) := by show _ = _; rw [HR.out, if_neg (by simp [hap])]
    generalize appS P x = y at *
    clear hap HT HR
    go_wp2
    refine bodyPost_ret (results_cell_row1 rfl _ _ w.heap.size _ _ _ _ rfl (obj_set2 HV1.out _ _) Tryd.underlying81 rfl (by kernel_rfl)) rfl ?_
    exact ⟨by rw [HE.out] <;> rfl, below_set2 HB1.out (by omega) _ _⟩
set_option maxRecDepth 100000 in
set_option maxHeartbeats 3200000 in
theorem rdo_4 (f t : Int) (s : ByteArray) (B : Option Addr) (cP : Nat) (P : List PairT) (st v : Int) (A : Option Addr) (ca : Nat) (b : List Sp) (x : ByteArray) (w : World) (hB : Spl w A b) (hlb : b.length ≤ 1000) (hx : x.size ≤ maxLen) : Calls Tryd.prog 66 #[.agg #[.int .i64 4, .int .i64 f, .int .i64 t, .string s, .slice B P.length cP], .agg #[.int .i64 st, .int .i64 v, .slice A b.length ca], .string x] w fun e w' => e = .returned (.tuple #[.agg #[.int .i64 (rapN 4 t s P b x).1, .string (rapN 4 t s P b x).2.1], .int .i64 (rapN 4 t s P b x).2.2]) ∧ Below w.heap.size w w' := by
  have HC := Lib.hid (fun W h => rrepad_any t s P st v A ca b x W h hlb hx)
  have HX := Lib.hid hB
  clear hB hlb hx
  have HQ0 := Lib.hid (ra_new w 4 f t s B P.length cP st v A b.length ca)
  generalize rapN 4 t s P b x = r at *
  obtain ⟨r1, r2, r3⟩ := r
  generalize P.length = n at *
  generalize b.length = lb at *
  go_enter Tryd.func66, Tryd.ntmps66
  go_wp2_with fail
  refine (HC.out _ (HX.out.below HQ0.out.1)).mono ?_
  rintro e w1 ⟨rfl, hb1⟩
  have HQ1 := Lib.hid (HQ0.out.below hb1)
  clear hb1 HQ0
  obtain ⟨_, _, v0, v1, f0, f1⟩ := HQ1.out.cells
  go_wp2
  refine bodyPost_ret (results_cell_row1 rfl _ _ (w.heap.size + 2) _ _ _ _ rfl (obj_set2 HQ1.out.2.2.2 _ _) Tryd.underlying81 rfl (by kernel_rfl)) rfl ?_
  exact ⟨rfl, below_set2 HQ1.out.1 (by omega) _ _⟩
set_option maxRecDepth 100000 in
set_option maxHeartbeats 3200000 in
theorem rdo_5 (f t : Int) (s : ByteArray) (B : Option Addr) (cP : Nat) (P : List PairT) (st v : Int) (A : Option Addr) (ca : Nat) (b : List Sp) (x : ByteArray) (w : World) (hP : Prs w B P) (hlP : P.length ≤ 5000000) : Calls Tryd.prog 66 #[.agg #[.int .i64 5, .int .i64 f, .int .i64 t, .string s, .slice B P.length cP], .agg #[.int .i64 st, .int .i64 v, .slice A b.length ca], .string x] w fun e w' => e = .returned (.tuple #[.agg #[.int .i64 (rapN 5 t s P b x).1, .string (rapN 5 t s P b x).2.1], .int .i64 (rapN 5 t s P b x).2.2]) ∧ Below w.heap.size w w' := by
  have HC := Lib.hid (fun W h => rlook_any t s B cP P b x W h hlP)
  have HX := Lib.hid hP
  clear hP hlP
  have HQ0 := Lib.hid (ra_new w 5 f t s B P.length cP st v A b.length ca)
  generalize rapN 5 t s P b x = r at *
  obtain ⟨r1, r2, r3⟩ := r
  generalize P.length = n at *
  generalize b.length = lb at *
  go_enter Tryd.func66, Tryd.ntmps66
  go_wp2_with fail
  refine (HC.out _ (HX.out.below HQ0.out.1)).mono ?_
  rintro e w1 ⟨rfl, hb1⟩
  have HQ1 := Lib.hid (HQ0.out.below hb1)
  clear hb1 HQ0
  obtain ⟨_, _, v0, v1, f0, f1⟩ := HQ1.out.cells
  go_wp2
  refine bodyPost_ret (results_cell_row1 rfl _ _ (w.heap.size + 2) _ _ _ _ rfl (obj_set2 HQ1.out.2.2.2 _ _) Tryd.underlying81 rfl (by kernel_rfl)) rfl ?_
  exact ⟨rfl, below_set2 HQ1.out.1 (by omega) _ _⟩
theorem rapp_any : RApp := by
  intro k f t s B cP P st v A ca b x w _ hP hB hlb hlP _ _ hx
  by_cases hk : k < 1 ∨ 5 < k
  · rcases hk with h | h
    · exact rdo_low k f t s B cP P st v A ca b x w h
    · exact rdo_high k f t s B cP P st v A ca b x w h
  · rcases kind_cases hk with rfl | rfl | rfl | rfl | rfl
    · exact rdo_1 f t s B cP P st v A ca b x w
    · exact rdo_2 f t s B cP P st v A ca b x w
    · exact rdo_3 f t s B cP P st v A ca b x w
    · exact rdo_4 f t s B cP P st v A ca b x w hB hlb hx
    · exact rdo_5 f t s B cP P st v A ca b x w hP hlP

end Go.Proofs.YtbhlennolghjmaaDoor

/-
  How long the text is that a rule makes. (Plain functions.)
-/
namespace Go.Proofs.YtbhlennolghjmaaDoor
open Go.RowKit

theorem rap_size {k t : Int} {s : ByteArray} {P : List PairT} {b : List Sp} {u : ByteArray} (hf : Fit2 P) (hs : s.size ≤ maxLen) (hu : u.size ≤ maxLen) : (rapN k t s P b u).2.1.size ≤ maxLen := by
  by_cases h0 : k < 1 ∨ 5 < k
  · rw [rap_else h0]; exact Nat.zero_le _
  · rcases kind_cases h0 with rfl | rfl | rfl | rfl | rfl
    · exact hu
    · exact Nat.zero_le _
    · exact hs
    · rw [rap_4]
      split
      · exact Nat.zero_le _
      · split
        · exact Nat.zero_le _
        · rename_i h
          have hp : padB u.data.toList (fndP t b).1.2.2.2.1 = true := by simpa using h
          show (padS u.data.toList (fndP t b).1.2.2.2.1).size ≤ maxLen
          rw [padS_yes hp]
          have := padB_in hp
          show ((padL u.data.toList (fndP t b).1.2.2.2.1).toArray.size) ≤ maxLen
          rw [List.size_toArray, padL_size]
          unfold maxLen
          omega
    · rw [rap_5]
      split
      · exact Nat.zero_le _
      · rename_i h
        have hm := app_mem (l := P) (t := u) (by simpa using h)
        exact (hf _ hm).2

end Go.Proofs.YtbhlennolghjmaaDoor
