/-
  Texts of one family, laid together: ClsMath, ClsSmall, ClsIs, ClsFirst.
-/
import Derived.Test.YtbhlennolghjmaaDoorRows
import Derived.WalkKit
import Derived.WalkSpells
import Derived.WalkLawsBesides
import Derived.Lib.Hide
import Derived.Test.YtbhlennolghjmaaDoorPackBase
import Derived.BigQuiet
import Derived.Lib.LaidTab
import Derived.Deep.RegionWith

/-
  Classes of bytes, over numbers alone: kinds of bytes, classes as sums of kinds, the first byte that is not of a class, which class is the wider one.
-/
namespace Go.Proofs.YtbhlennolghjmaaDoor

/-- The kind of a byte: 1 digit, 2 letter, 4 another sign, 8 none of these. -/
def kd (n : Nat) : Nat := if 48 ≤ n ∧ n ≤ 57 then 1 else if (65 ≤ n ∧ n ≤ 90) ∨ (97 ≤ n ∧ n ≤ 122) then 2 else if 32 ≤ n ∧ n ≤ 126 then 4 else 8
/-- The kinds that a class has. -/
def ks (c : Nat) : Nat := [0, 1, 2, 3, 7, 15, 15].getD c 0
def isC (c : Int) : Bool := decide (0 < c) && decide (c ≤ 6)
/-- Is the byte n of the class c? -/
def isO (c : Int) (n : Nat) : Bool := isC c && ((ks c.toNat) &&& (kd n) != 0)

theorem isC_iff {c : Int} : isC c = true ↔ 0 < c ∧ c ≤ 6 := by simp [isC]
theorem isC_false {c : Int} : isC c = false ↔ c ≤ 0 ∨ 6 < c := by
  cases h : isC c
  · simp [isC] at h; simp; omega
  · rw [isC_iff] at h; simp; omega
theorem isO_no {c : Int} (h : isC c = false) (n : Nat) : isO c n = false := by simp [isO, h]
theorem isC_cases {c : Int} (h : isC c = true) : ∃ k : Nat, k < 7 ∧ 0 < k ∧ c = (k : Int) := by
  rw [isC_iff] at h
  exact ⟨c.toNat, by omega, by omega, by omega⟩
theorem kd_cases (n : Nat) : kd n = 1 ∨ kd n = 2 ∨ kd n = 4 ∨ kd n = 8 := by
  unfold kd
  repeat' split
  all_goals simp
theorem isO_at {k : Nat} (h : k < 7) (h0 : 0 < k) (n : Nat) : isO (k : Int) n = ((ks k) &&& (kd n) != 0) := by
  have : isC (k : Int) = true := isC_iff.2 (by omega)
  simp [isO, this]

/-- Which class is the wider one: by all bytes. -/
def wid (a b : Int) : Bool := isC a && isC b && (List.range 256).all fun j => !isO b j || isO a j
/-- By kinds. -/
def widK (a b : Nat) : Bool := (ks b) &&& (15 - ks a) == 0
theorem wid_no_a {a b : Int} (h : isC a = false) : wid a b = false := by simp [wid, h]
theorem wid_no_b {a b : Int} (h : isC b = false) : wid a b = false := by simp [wid, h]
theorem wid_at : ∀ a : Nat, a < 7 → 0 < a → ∀ b : Nat, b < 7 → 0 < b → wid (a : Int) (b : Int) = widK a b := by decide +kernel
theorem wid_bad {a b : Int} {j : Nat} (hj : j < 256) (h1 : isO b j = true) (h2 : isO a j = false) : wid a b = false := by
  unfold wid
  rw [Bool.and_eq_false_iff]
  right
  rw [List.all_eq_false]
  exact ⟨j, by simp [hj], by simp [h1, h2]⟩
theorem wid_all {a b : Int} (ha : isC a = true) (hb : isC b = true) (h : ∀ j, j < 256 → isO b j = true → isO a j = true) : wid a b = true := by
  unfold wid
  rw [ha, hb]
  simp only [Bool.true_and, List.all_eq_true, List.mem_range]
  intro j hj
  have := h j hj
  cases e : isO b j
  · rfl
  · rw [this e]; rfl
theorem wid_keeps {a b : Int} (h : wid a b = true) {j : Nat} (hj : j < 256) (h1 : isO b j = true) : isO a j = true := by
  cases e : isO a j
  · rw [wid_bad hj h1 e] at h; cases h
  · rfl

/-- The place of the first byte that is not of the class, from i on; -1. -/
def fst (c : Int) (l : List UInt8) : Int := if l.all (fun x => isO c x.toNat) then -1 else ((l.findIdx fun x => !isO c x.toNat : Nat) : Int)
theorem fst_all {c : Int} {l : List UInt8} (h : l.all (fun x => isO c x.toNat) = true) : fst c l = -1 := by simp [fst, h]
theorem fst_at {c : Int} {l : List UInt8} {k : Nat} (hk : k < l.length) (ha : (l.take k).all (fun x => isO c x.toNat) = true) (hb : isO c l[k].toNat = false) : fst c l = (k : Int) := by
  have hn : l.all (fun x => isO c x.toNat) = false := by
    rw [List.all_eq_false]
    exact ⟨l[k], List.getElem_mem hk, by simp [hb]⟩
  have hi : (l.findIdx fun x => !isO c x.toNat) = k := by
    rw [List.findIdx_eq hk]
    refine ⟨by simp [hb], fun j hj => ?_⟩
    rw [List.all_eq_true] at ha
    have := ha l[j] (by rw [List.mem_take_iff_getElem]; exact ⟨j, by omega, rfl⟩)
    simp [this]
  simp [fst, hn, hi]
theorem fst_cases (c : Int) (l : List UInt8) : (fst c l = -1 ∧ l.all (fun x => isO c x.toNat) = true) ∨ ∃ k : Nat, ∃ h : k < l.length, fst c l = (k : Int) ∧ (l.take k).all (fun x => isO c x.toNat) = true ∧ isO c l[k].toNat = false := by
  cases e : l.all (fun x => isO c x.toNat)
  · right
    have hx : ∃ x ∈ l, (fun x : UInt8 => !isO c x.toNat) x = true := by
      rw [List.all_eq_false] at e
      obtain ⟨x, hx, h⟩ := e
      exact ⟨x, hx, by simpa using h⟩
    have hl := List.findIdx_lt_length_of_exists hx
    refine ⟨l.findIdx fun x => !isO c x.toNat, hl, by simp [fst, e], ?_, ?_⟩
    · rw [List.all_eq_true]
      intro x hx
      rw [List.mem_take_iff_getElem] at hx
      obtain ⟨j, hj, rfl⟩ := hx
      have := List.not_of_lt_findIdx (p := fun x : UInt8 => !isO c x.toNat) (xs := l) (i := j) (by omega)
      simpa using this
    · have := List.findIdx_getElem (w := hl)
      simpa using this
  · exact .inl ⟨fst_all e, rfl⟩
theorem fst_append_yes {c : Int} {l m : List UInt8} (h : fst c l = -1) : fst c (l ++ m) = if fst c m = -1 then -1 else (l.length : Int) + fst c m := by
  have hl : l.all (fun x => isO c x.toNat) = true := by
    rcases fst_cases c l with ⟨_, h⟩ | ⟨k, _, hk, _⟩
    · exact h
    · omega
  rcases fst_cases c m with ⟨hm, ha⟩ | ⟨k, hk, hm, ht, hb⟩
  · rw [if_pos hm]
    exact fst_all (by rw [List.all_append, hl, ha]; rfl)
  · rw [if_neg (by omega), hm]
    have := fst_at (c := c) (l := l ++ m) (k := l.length + k) (by simp [hk]) (by rw [List.take_length_add_append, List.all_append, hl, ht]; rfl) (by
      rw [List.getElem_append_right (by omega)]
      simpa using hb)
    rw [this]
    omega
theorem fst_append_no {c : Int} {l m : List UInt8} (h : fst c l ≠ -1) : fst c (l ++ m) = fst c l := by
  rcases fst_cases c l with ⟨h', _⟩ | ⟨k, hk, e, ht, hb⟩
  · exact absurd h' h
  · rw [e]
    refine fst_at (by simp; omega) ?_ ?_
    · rw [List.take_append_of_le_length (by omega)]; exact ht
    · rw [List.getElem_append_left hk]; exact hb
theorem fst_keeps {a b : Int} {l : List UInt8} (hw : wid a b = true) (h : fst b l < 0) : fst a l = -1 := by
  rcases fst_cases b l with ⟨_, hb⟩ | ⟨k, _, e, _⟩
  · refine fst_all ?_
    rw [List.all_eq_true] at hb ⊢
    exact fun x hx => wid_keeps hw x.toNat_lt (hb x hx)
  · omega
theorem fst_ge (c : Int) (l : List UInt8) : -1 ≤ fst c l := by
  rcases fst_cases c l with ⟨h, _⟩ | ⟨k, _, h, _⟩ <;> omega
theorem fst_lt (c : Int) (l : List UInt8) : fst c l < (l.length : Int) := by
  rcases fst_cases c l with ⟨h, _⟩ | ⟨k, _, h, _⟩ <;> omega

end Go.Proofs.YtbhlennolghjmaaDoor

/-
  What Known, kind and the document's Is answer: for every class and byte, in every world.
-/
namespace Go.Proofs.YtbhlennolghjmaaDoor
open Go.RowKit

set_option maxRecDepth 100000 in
set_option maxHeartbeats 400000 in
theorem known_any (c : Int) (w : World) :
    Calls Tryd.prog 81 #[.int .i64 c] w fun e w' => e = .returned (.bool (isC c)) ∧ w = w' := by
  cases h : isC c
  · rw [isC_false] at h
    rcases h with h | h
    · go_enter Tryd.func81, Tryd.ntmps81
      go_wp2
      go_ret
      exact ⟨rfl, rfl⟩
    · go_enter Tryd.func81, Tryd.ntmps81
      go_wp2
      go_ret
      exact ⟨by simp [show ¬ c ≤ 6 by omega], rfl⟩
  · rw [isC_iff] at h
    obtain ⟨h1, h2⟩ := h
    go_enter Tryd.func81, Tryd.ntmps81
    go_wp2
    go_ret
    exact ⟨rfl, rfl⟩

theorem known_no {c : Int} (h : isC c = false) (w : World) : Calls Tryd.prog 81 #[.int .i64 c] w fun e w' => e = .returned (.bool false) ∧ w' = w := by
  refine (known_any c w).mono fun e w' ⟨he, hw⟩ => ?_
  rw [h] at he
  exact ⟨he, hw.symm⟩
theorem known_yes {c : Int} (h : isC c = true) (w : World) : Calls Tryd.prog 81 #[.int .i64 c] w fun e w' => e = .returned (.bool true) ∧ w' = w := by
  refine (known_any c w).mono fun e w' ⟨he, hw⟩ => ?_
  rw [h] at he
  exact ⟨he, hw.symm⟩

set_option maxRecDepth 100000 in
set_option maxHeartbeats 800000 in
theorem kind_any (n : Nat) (w : World) :
    Calls Tryd.prog 116 #[.int .u8 (n : Int)] w fun e w' => e = .returned (.int .i64 (kd n : Int)) ∧ w = w' := by
  have hk : kd n = kd n := rfl
  conv at hk => rhs; unfold kd
  have HK := Lib.hid hk; clear hk
  go_enter Tryd.func116, Tryd.ntmps116
  go_wp2
  all_goals go_ret
  all_goals refine ⟨?_, rfl⟩
  all_goals
    have h := HK.out
    repeat' split at h
    all_goals first
      | (rw [h]; rfl)
      | (exfalso; omega)

theorem isO_1 (n : Nat) : isO 1 n = decide (48 ≤ n ∧ n ≤ 57) := by
  rw [show isO 1 n = ((ks 1) &&& (kd n) != 0) from isO_at (k := 1) (by omega) (by omega) n]
  unfold kd
  repeat' split
  all_goals first | (simp [ks]; omega) | simp [ks, *]
theorem isO_2 (n : Nat) : isO 2 n = decide ((65 ≤ n ∧ n ≤ 90) ∨ (97 ≤ n ∧ n ≤ 122)) := by
  rw [show isO 2 n = ((ks 2) &&& (kd n) != 0) from isO_at (k := 2) (by omega) (by omega) n]
  unfold kd
  repeat' split
  all_goals first | (simp [ks]; omega) | simp [ks, *]
theorem isO_3 (n : Nat) : isO 3 n = decide ((48 ≤ n ∧ n ≤ 57) ∨ (65 ≤ n ∧ n ≤ 90) ∨ (97 ≤ n ∧ n ≤ 122)) := by
  rw [show isO 3 n = ((ks 3) &&& (kd n) != 0) from isO_at (k := 3) (by omega) (by omega) n]
  unfold kd
  repeat' split
  all_goals first | (simp [ks]; omega) | simp [ks, *]
theorem isO_4 (n : Nat) : isO 4 n = decide (32 ≤ n ∧ n ≤ 126) := by
  rw [show isO 4 n = ((ks 4) &&& (kd n) != 0) from isO_at (k := 4) (by omega) (by omega) n]
  unfold kd
  repeat' split
  all_goals first | (simp [ks]; omega) | simp [ks, *]
theorem isO_5 (n : Nat) : isO 5 n = true := by
  rw [show isO 5 n = ((ks 5) &&& (kd n) != 0) from isO_at (k := 5) (by omega) (by omega) n]
  rcases kd_cases n with h | h | h | h <;> rw [h] <;> rfl
theorem isO_6 (n : Nat) : isO 6 n = true := by
  rw [show isO 6 n = ((ks 6) &&& (kd n) != 0) from isO_at (k := 6) (by omega) (by omega) n]
  rcases kd_cases n with h | h | h | h <;> rw [h] <;> rfl
theorem isO_else {c : Int} (h1 : c ≠ 1) (h2 : c ≠ 2) (h3 : c ≠ 3) (h4 : c ≠ 4) (n : Nat) : isO c n = (c == 5 || c == 6) := by
  by_cases h5 : c = 5
  · subst h5; rw [isO_5]; rfl
  by_cases h6 : c = 6
  · subst h6; rw [isO_6]; rfl
  rw [isO_no (isC_false.2 (by omega))]
  simp [h5, h6]

set_option maxRecDepth 100000 in
set_option maxHeartbeats 1600000 in
theorem refIs_any (c : Int) (n : Nat) (w : World) :
    Calls Tryd.prog 80 #[.int .i64 c, .int .u8 (n : Int)] w fun e w' => e = .returned (.bool (isO c n)) ∧ w = w' := by
  by_cases h1 : c = 1
  · subst h1
    have HK := Lib.hid (isO_1 n)
    go_enter Tryd.func80, Tryd.ntmps80
    go_wp2
    all_goals
      go_ret
      refine ⟨congrArg (fun b => Ending.returned (Value.bool b)) ?_, rfl⟩
      rw [HK.out, Bool.eq_iff_iff]
      simp
      omega
  by_cases h2 : c = 2
  · subst h2
    have HK := Lib.hid (isO_2 n)
    clear h1
    go_enter Tryd.func80, Tryd.ntmps80
    go_wp2
    all_goals
      go_ret
      refine ⟨congrArg (fun b => Ending.returned (Value.bool b)) ?_, rfl⟩
      rw [HK.out, Bool.eq_iff_iff]
      simp
      omega
  by_cases h3 : c = 3
  · subst h3
    have HK := Lib.hid (isO_3 n)
    clear h1 h2
    go_enter Tryd.func80, Tryd.ntmps80
    go_wp2
    all_goals
      go_ret
      refine ⟨congrArg (fun b => Ending.returned (Value.bool b)) ?_, rfl⟩
      rw [HK.out, Bool.eq_iff_iff]
      simp
      omega
  by_cases h4 : c = 4
  · subst h4
    have HK := Lib.hid (isO_4 n)
    clear h1 h2 h3
    go_enter Tryd.func80, Tryd.ntmps80
    go_wp2
    all_goals
      go_ret
      refine ⟨congrArg (fun b => Ending.returned (Value.bool b)) ?_, rfl⟩
      rw [HK.out, Bool.eq_iff_iff]
      simp
      omega
  have HK := Lib.hid (isO_else h1 h2 h3 h4 n)
  go_enter Tryd.func80, Tryd.ntmps80
  go_wp2
  all_goals
    go_ret
    refine ⟨congrArg (fun b => Ending.returned (Value.bool b)) ?_, rfl⟩
    first
      | exact (isO_5 n).symm
      | (rw [HK.out]; done)
      | (rw [HK.out]; simp [*]; done)

end Go.Proofs.YtbhlennolghjmaaDoor

/-
  What Is and Wider answer: for every class and byte, in every world in which the table of kinds stands as the program's text lays it.
-/
namespace Go.Proofs.YtbhlennolghjmaaDoor
open Go.RowKit

/-- The table of kinds stands as the program's text lays it. -/
def Kinds (w : World) : Prop := ∀ k, k < 7 → w.cell? ⟨2, k, none⟩ = some (.int .i64 (ks k : Int))
theorem Kinds.below {w w' : World} (h : Kinds w) (hb : Below w.heap.size w w') : Kinds w' := by
  have h0 : 2 < w.heap.size := by
    have := h 0 (by omega)
    apply Nat.lt_of_not_le
    intro hn
    simp [World.cell?, Array.getElem?_eq_none hn] at this
  intro k hk
  rw [hb.cell (p := ⟨2, k, none⟩) h0]
  exact h k hk

theorem and_ks : ∀ k, k < 7 → ∀ d, d < 16 → bits .and .i64 (ks k : Int) ((d : Nat) : Int) = ((ks k &&& d : Nat) : Int) := by decide +kernel
theorem andNot_ks : ∀ a, a < 7 → ∀ b, b < 7 → bits .andNot .i64 (ks b : Int) (ks a : Int) = ((ks b &&& (15 - ks a) : Nat) : Int) := by decide +kernel

theorem beq_cast (y : Nat) : ((y : Int) == 0) = (y == 0) := by
  rw [Bool.eq_iff_iff]; simp
theorem bne_cast (y : Nat) : ((y : Int) != 0) = (y != 0) := by
  unfold bne; rw [beq_cast]

theorem kind_at (n : Nat) (w : World) : Calls Tryd.prog 116 #[.int .u8 (n : Int)] w fun e w' => e = .returned (.int .i64 (kd n : Int)) ∧ w' = w :=
  (kind_any n w).mono fun _ _ ⟨he, hw⟩ => ⟨he, hw.symm⟩

set_option maxRecDepth 100000 in
set_option maxHeartbeats 800000 in
theorem is_no {c : Int} (n : Nat) (w : World) (h : isC c = false) :
    Calls Tryd.prog 108 #[.int .i64 c, .int .u8 (n : Int)] w fun e w' => e = .returned (.bool false) ∧ Below w.heap.size w w' := by
  have HC := Lib.hid (known_no h); clear h
  go_enter Tryd.func108, Tryd.ntmps108
  go_wp2_with fail
  go_quiet ((go_at_call 81; exact Calls.quiet_of_same (HC.out _)))
  go_wp2
  go_ret
  exact ⟨rfl, below_drewN _ _⟩

set_option maxRecDepth 100000 in
set_option maxHeartbeats 800000 in
theorem is_yes (k : Nat) (n : Nat) (w : World) (hw : Kinds w) (h : k < 7) (h0 : 0 < k) :
    Calls Tryd.prog 108 #[.int .i64 (k : Int), .int .u8 (n : Int)] w fun e w' => e = .returned (.bool (isO (k : Int) n)) ∧ Below w.heap.size w w' := by
  have HC := Lib.hid (known_yes (c := (k : Int)) (isC_iff.2 (by omega)))
  have HN := Lib.hid (kind_at n)
  have hc := hw k h
  have hb := and_ks k h (kd n) (by rcases kd_cases n with e | e | e | e <;> omega)
  rw [isO_at h h0]
  generalize kd n = d at hb HN
  generalize ks k = z at hc hb
  generalize z &&& d = y at hb
  go_enter Tryd.func108, Tryd.ntmps108
  go_wp2_with fail
  go_quiet (first | (go_at_call 81; exact Calls.quiet_of_same (HC.out _)) | (go_at_call 116; exact Calls.quiet_of_same (HN.out _)))
  go_wp2
  go_ret
  exact ⟨congrArg (fun b => Ending.returned (Value.bool b)) (bne_cast y), below_drewN _ _⟩
theorem is_any (c : Int) (n : Nat) (w : World) (hw : Kinds w) :
    Calls Tryd.prog 108 #[.int .i64 c, .int .u8 (n : Int)] w fun e w' => e = .returned (.bool (isO c n)) ∧ Below w.heap.size w w' := by
  cases h : isC c
  · rw [isO_no h]
    exact is_no n w h
  · obtain ⟨k, h1, h2, rfl⟩ := isC_cases h
    exact is_yes k n w hw h1 h2

set_option maxRecDepth 100000 in
set_option maxHeartbeats 800000 in
theorem wider_no_a {a : Int} (b : Int) (w : World) (h : isC a = false) :
    Calls Tryd.prog 91 #[.int .i64 a, .int .i64 b] w fun e w' => e = .returned (.bool false) ∧ Below w.heap.size w w' := by
  have HC := Lib.hid (known_no h); clear h
  go_enter Tryd.func91, Tryd.ntmps91
  go_wp2_with fail
  go_quiet ((go_at_call 81; exact Calls.quiet_of_same (HC.out _)))
  go_wp2
  go_ret
  exact ⟨rfl, below_drewN _ _⟩
set_option maxRecDepth 100000 in
set_option maxHeartbeats 800000 in
theorem wider_no_b {a b : Int} (w : World) (ha : isC a = true) (hb : isC b = false) :
    Calls Tryd.prog 91 #[.int .i64 a, .int .i64 b] w fun e w' => e = .returned (.bool false) ∧ Below w.heap.size w w' := by
  have HA := Lib.hid (known_yes ha); clear ha
  have HB := Lib.hid (known_no hb); clear hb
  go_enter Tryd.func91, Tryd.ntmps91
  go_wp2_with fail
  go_quiet (first | (go_at_call_of 81 (Value.int .i64 a); exact Calls.quiet_of_same (HA.out _)) | (go_at_call_of 81 (Value.int .i64 b); exact Calls.quiet_of_same (HB.out _)))
  go_wp2
  go_ret
  exact ⟨rfl, below_drewN _ _⟩
set_option maxRecDepth 100000 in
set_option maxHeartbeats 800000 in
theorem wider_yes (a b : Nat) (w : World) (hw : Kinds w) (ha : a < 7) (ha0 : 0 < a) (hb : b < 7) (hb0 : 0 < b) :
    Calls Tryd.prog 91 #[.int .i64 (a : Int), .int .i64 (b : Int)] w fun e w' => e = .returned (.bool (wid (a : Int) (b : Int))) ∧ Below w.heap.size w w' := by
  have HA := Lib.hid (known_yes (c := (a : Int)) (isC_iff.2 (by omega)))
  have HB := Lib.hid (known_yes (c := (b : Int)) (isC_iff.2 (by omega)))
  have hca := hw a ha
  have hcb := hw b hb
  have hn := andNot_ks a ha b hb
  rw [wid_at a ha ha0 b hb hb0]
  unfold widK
  generalize ks b &&& (15 - ks a) = y at hn
  generalize ks a = za at hca hn
  generalize ks b = zb at hcb hn
  go_enter Tryd.func91, Tryd.ntmps91
  go_wp2_with fail
  go_quiet (first | (go_at_call_of 81 (Value.int .i64 (a : Int)); exact Calls.quiet_of_same (HA.out _)) | (go_at_call_of 81 (Value.int .i64 (b : Int)); exact Calls.quiet_of_same (HB.out _)))
  go_wp2
  go_ret
  exact ⟨congrArg (fun b => Ending.returned (Value.bool b)) (beq_cast y), below_drewN _ _⟩
theorem wider_any (a b : Int) (w : World) (hw : Kinds w) :
    Calls Tryd.prog 91 #[.int .i64 a, .int .i64 b] w fun e w' => e = .returned (.bool (wid a b)) ∧ Below w.heap.size w w' := by
  cases h : isC a
  · rw [wid_no_a h]
    exact wider_no_a b w h
  cases g : isC b
  · rw [wid_no_b g]
    exact wider_no_b w h g
  obtain ⟨k, h1, h2, rfl⟩ := isC_cases h
  obtain ⟨m, g1, g2, rfl⟩ := isC_cases g
  exact wider_yes k m w hw h1 h2 g1 g2

end Go.Proofs.YtbhlennolghjmaaDoor

/-
  What First answers, and the document's First and Wider: for every class and text.
-/
namespace Go.Proofs.YtbhlennolghjmaaDoor
open Go.RowKit

theorem fst_step (c : Int) (s : ByteArray) (k : Nat) (h : k < s.size) (ha : (s.data.toList.take k).all (fun x => isO c x.toNat) = true) (hb : isO c s[k].toNat = true) :
    (s.data.toList.take (k + 1)).all (fun x => isO c x.toNat) = true := by
  rw [List.take_succ_eq_append_getElem (by simpa using h), List.all_append, ha]
  simp only [List.all_cons, List.all_nil, Bool.and_true, Bool.true_and]
  exact hb
theorem fst_end (c : Int) (s : ByteArray) (k : Nat) (h : ¬ k < s.size) (ha : (s.data.toList.take k).all (fun x => isO c x.toNat) = true) : fst c s.data.toList = -1 := by
  rw [List.take_of_length_le (by simp; omega)] at ha
  exact fst_all ha
theorem fst_here (c : Int) (s : ByteArray) (k : Nat) (h : k < s.size) (ha : (s.data.toList.take k).all (fun x => isO c x.toNat) = true) (hb : isO c s[k].toNat = false) : fst c s.data.toList = (k : Int) :=
  fst_at (by simpa using h) ha hb

set_option maxRecDepth 100000 in
set_option maxHeartbeats 800000 in
theorem first_any (c : Int) (s : ByteArray) (w : World) (hw : Kinds w) (hs : s.size ≤ maxLen) :
    Calls Tryd.prog 101 #[.int .i64 c, .string s] w fun e w' => e = .returned (.int .i64 (fst c s.data.toList)) ∧ Below w.heap.size w w' := by
  unfold maxLen at hs
  have HW := Lib.hid hw; clear hw
  go_enter Tryd.func101, Tryd.ntmps101
  go_wp2
  go_loopw [8] (fun i w' => ∃ k : Nat, k ≤ s.size ∧ i = .int .i64 (k : Int) ∧ (s.data.toList.take k).all (fun x => isO c x.toNat) = true ∧ Below w.heap.size w w') (fun i _ => s.size - (intOf i).toNat)
  case atStart => exact ⟨0, Nat.zero_le _, rfl, rfl, Below.refl _ _⟩
  case round =>
    obtain ⟨k, hk, rfl, ha, hbel⟩ := hrel
    have HA := Lib.hid ha; clear ha
    have HBL := Lib.hid hbel; clear hbel
    by_cases hlt : k < s.size
    · have hx := ix_str s k hlt
      have HI := Lib.hid (fun w hw => is_any c s[k].toNat w hw)
      cases hd : isO c s[k].toNat
      · rw [hd] at HI
        have HB := Lib.hid (fst_here c s k hlt HA.out hd)
        clear hd
        generalize s[k] = x at hx HI
        go_wp2_with fail
        refine (HI.out _ (HW.out.below HBL.out)).mono ?_
        rintro e w1 ⟨rfl, hb1⟩
        go_wp2_with fail
        go_ret
        exact ⟨by rw [HB.out]; rfl, hbt HBL.out hb1⟩
      · rw [hd] at HI
        have HS := Lib.hid (fst_step c s k hlt HA.out hd)
        clear hd
        generalize s[k] = x at hx HI
        go_wp2_with fail
        refine (HI.out _ (HW.out.below HBL.out)).mono ?_
        rintro e w1 ⟨rfl, hb1⟩
        go_wp2_with fail
        go_roundw
        case rel => exact ⟨k + 1, by omega, by go_num, HS.out, hbt HBL.out hb1⟩
        case measure => simp [intOf]; omega
    · have HB := Lib.hid (fst_end c s k hlt HA.out)
      go_wp2
      go_ret
      exact ⟨by rw [HB.out]; rfl, HBL.out⟩

set_option maxRecDepth 100000 in
set_option maxHeartbeats 800000 in
theorem refFirst_any (c : Int) (s : ByteArray) (w : World) (hs : s.size ≤ maxLen) :
    Calls Tryd.prog 106 #[.int .i64 c, .string s] w fun e w' => e = .returned (.int .i64 (fst c s.data.toList)) ∧ w = w' := by
  unfold maxLen at hs
  go_enter Tryd.func106, Tryd.ntmps106
  go_wp2
  go_loop [5] (fun i => ∃ k : Nat, k ≤ s.size ∧ i = .int .i64 (k : Int) ∧ (s.data.toList.take k).all (fun x => isO c x.toNat) = true) (fun i => s.size - (intOf i).toNat)
  case atStart => exact ⟨0, Nat.zero_le _, rfl, rfl⟩
  case round =>
    obtain ⟨k, hk, rfl, ha⟩ := hrel
    have HA := Lib.hid ha; clear ha
    by_cases hlt : k < s.size
    · have hx := ix_str s k hlt
      have HI := Lib.hid (fun w => refIs_any c s[k].toNat w)
      cases hd : isO c s[k].toNat
      · rw [hd] at HI
        have HB := Lib.hid (fst_here c s k hlt HA.out hd)
        clear hd
        generalize s[k] = x at hx HI
        go_wp2_with fail
        refine (HI.out _).mono ?_
        rintro e w1 ⟨rfl, rfl⟩
        go_wp2_with fail
        go_ret
        exact ⟨by rw [HB.out]; rfl, rfl⟩
      · rw [hd] at HI
        have HS := Lib.hid (fst_step c s k hlt HA.out hd)
        clear hd
        generalize s[k] = x at hx HI
        go_wp2_with fail
        refine (HI.out _).mono ?_
        rintro e w1 ⟨rfl, rfl⟩
        go_wp2_with fail
        go_round
        case rel => exact ⟨k + 1, by omega, by go_num, HS.out⟩
        case measure => simp [intOf]; omega
    · have HB := Lib.hid (fst_end c s k hlt HA.out)
      go_wp2
      go_ret
      exact ⟨by rw [HB.out]; rfl, rfl⟩

set_option maxRecDepth 100000 in
set_option maxHeartbeats 800000 in
theorem refWider_no (a b : Int) (w : World) (h : isC a = false ∨ isC b = false) :
    Calls Tryd.prog 59 #[.int .i64 a, .int .i64 b] w fun e w' => e = .returned (.bool false) ∧ w = w' := by
  rw [isC_false, isC_false] at h
  go_enter Tryd.func59, Tryd.ntmps59
  rcases (show a < 1 ∨ (1 ≤ a ∧ 6 < a) ∨ (1 ≤ a ∧ a ≤ 6 ∧ b < 1) ∨ (1 ≤ a ∧ a ≤ 6 ∧ 1 ≤ b ∧ 6 < b) by omega) with h1 | ⟨h1, h2⟩ | ⟨h1, h2, h3⟩ | ⟨h1, h2, h3, h4⟩
  all_goals
    clear h
    go_wp2
    go_ret
    exact ⟨rfl, rfl⟩
set_option maxRecDepth 100000 in
set_option maxHeartbeats 1600000 in
theorem refWider_yes (a b : Int) (w : World) (ha : isC a = true) (hb : isC b = true) :
    Calls Tryd.prog 59 #[.int .i64 a, .int .i64 b] w fun e w' => e = .returned (.bool (wid a b)) ∧ w = w' := by
  have hno : ∀ j, j < 256 → isO b j = true → isO a j = false → wid a b = false := fun j hj h1 h2 => wid_bad hj h1 h2
  have hyes : (∀ j, j < 256 → isO b j = true → isO a j = true) → wid a b = true := wid_all ha hb
  generalize wid a b = r at hno hyes ⊢
  have HNO := Lib.hid hno; clear hno
  have HYES := Lib.hid hyes; clear hyes
  rw [isC_iff] at ha hb
  have h1 : (1 : Int) ≤ a := by omega
  have h2 := ha.2
  have h3 : (1 : Int) ≤ b := by omega
  have h4 := hb.2
  clear ha hb
  go_enter Tryd.func59, Tryd.ntmps59
  go_wp2
  clear h1 h2 h3 h4
  go_loop [5] (fun i => ∃ k : Nat, k ≤ 256 ∧ i = .int .i64 (k : Int) ∧ ∀ j, j < k → isO b j = true → isO a j = true) (fun i => 256 - (intOf i).toNat)
  case atStart => exact ⟨0, by omega, rfl, by omega⟩
  case round =>
    obtain ⟨k, hk, rfl, hall⟩ := hrel
    have HA := Lib.hid hall; clear hall
    by_cases hlt : k < 256
    · have tk : decide ((k : Int) < 256) = true := by simp; omega
      have hk9 : (k : Int) < 1000 := by omega
      have hwr : IntKind.u8.wrap (k : Int) = (k : Int) := by
        rw [IntKind.wrap_u8]; omega
      have HIB := Lib.hid (fun w => refIs_any b k w)
      have HIA := Lib.hid (fun w => refIs_any a k w)
      have HL := Lib.hid hlt; clear hlt hk
      cases hdb : isO b k
      · rw [hdb] at HIB
        have HD := Lib.hid hdb; clear hdb
        go_wp2_with fail
        refine (HIB.out _).mono ?_
        rintro e w1 ⟨rfl, rfl⟩
        go_wp2_with fail
        go_round
        case rel => exact ⟨k + 1, HL.out, by go_num, fun j hj hb => by
          by_cases e : j = k
          · subst e; rw [HD.out] at hb; cases hb
          · exact HA.out j (by omega) hb⟩
        case measure => have := HL.out; simp [intOf]; omega
      · rw [hdb] at HIB
        have HD := Lib.hid hdb; clear hdb
        cases hda : isO a k
        · rw [hda] at HIA
          have HB := Lib.hid (HNO.out k HL.out HD.out hda); clear hda
          go_wp2_with fail
          refine (HIB.out _).mono ?_
          rintro e w1 ⟨rfl, rfl⟩
          go_wp2_with fail
          refine (HIA.out _).mono ?_
          rintro e w1 ⟨rfl, rfl⟩
          go_wp2_with fail
          go_ret
          exact ⟨by rw [HB.out]; rfl, rfl⟩
        · rw [hda] at HIA
          have HE := Lib.hid hda; clear hda
          go_wp2_with fail
          refine (HIB.out _).mono ?_
          rintro e w1 ⟨rfl, rfl⟩
          go_wp2_with fail
          refine (HIA.out _).mono ?_
          rintro e w1 ⟨rfl, rfl⟩
          go_wp2_with fail
          go_round
          case rel => exact ⟨k + 1, HL.out, by go_num, fun j hj hb => by
            by_cases e : j = k
            · subst e; exact HE.out
            · exact HA.out j (by omega) hb⟩
          case measure => have := HL.out; simp [intOf]; omega
    · have HB := Lib.hid (HYES.out (fun j hj => HA.out j (by omega)))
      have tk : decide ((k : Int) < 256) = false := by simp; omega
      clear hk hlt
      go_wp2
      go_ret
      exact ⟨by rw [HB.out]; rfl, rfl⟩
theorem refWider_any (a b : Int) (w : World) :
    Calls Tryd.prog 59 #[.int .i64 a, .int .i64 b] w fun e w' => e = .returned (.bool (wid a b)) ∧ w = w' := by
  cases h : isC a
  · rw [wid_no_a h]
    exact refWider_no a b w (.inl h)
  cases g : isC b
  · rw [wid_no_b g]
    exact refWider_no a b w (.inr g)
  exact refWider_yes a b w h g

end Go.Proofs.YtbhlennolghjmaaDoor
