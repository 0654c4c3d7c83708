/-
  Texts of one family, laid together: ClsMath, ClsSmall, ClsIs, ClsFirst.
-/
import Derived.Test.YtnbllngljgmebaaDoorRows
import Derived.WalkKit
import Derived.WalkSpells
import Derived.WalkLawsBesides
import Derived.Lib.Hide
import Derived.Test.YtnbllngljgmebaaDoorPackBase
import Derived.BigQuiet
import Derived.Lib.LaidTab
import Derived.Deep.RegionWith

/-
  Classes of bytes, over numbers alone: kinds of bytes, classes as sums of kinds, the first byte that is not of a class, which class is the wider one.
-/
namespace Go.Proofs.YtnbllngljgmebaaDoor

/-- The kind of a byte: 1 digit, 2 letter, 4 another sign, 8 none of these. -/
def kd (n : Nat) : Nat := if 48 ≤ n ∧ n ≤ 57 then 1 else if (65 ≤ n ∧ n ≤ 90) ∨ (97 ≤ n ∧ n ≤ 122) then 2 else if 32 ≤ n ∧ n ≤ 126 then 4 else 8
/-- The kinds that a class has. -/
def ks (c : Nat) : Nat := [0, 1, 2, 3, 7, 15, 15].getD c 0
def isC (c : Int) : Bool := decide (0 < c) && decide (c ≤ 6)
/-- Is the byte n of the class c? -/
def isO (c : Int) (n : Nat) : Bool := isC c && ((ks c.toNat) &&& (kd n) != 0)

theorem isC_iff {c : Int} : isC c = true ↔ 0 < c ∧ c ≤ 6 := by simp [isC]
theorem isC_false {c : Int} : isC c = false ↔ c ≤ 0 ∨ 6 < c := by
  cases h : isC c
  · simp [isC] at h; simp; omega
  · rw [isC_iff] at h; simp; omega
theorem isO_no {c : Int} (h : isC c = false) (n : Nat) : isO c n = false := by simp [isO, h]
theorem isC_cases {c : Int} (h : isC c = true) : ∃ k : Nat, k < 7 ∧ 0 < k ∧ c = (k : Int) := by
  rw [isC_iff] at h
  exact ⟨c.toNat, by omega, by omega, by omega⟩
theorem kd_cases (n : Nat) : kd n = 1 ∨ kd n = 2 ∨ kd n = 4 ∨ kd n = 8 := by
  unfold kd
  repeat' split
  all_goals simp
theorem isO_at {k : Nat} (h : k < 7) (h0 : 0 < k) (n : Nat) : isO (k : Int) n = ((ks k) &&& (kd n) != 0) := by
  have : isC (k : Int) = true := isC_iff.2 (by omega)
  simp [isO, this]

/-- Which class is the wider one: by all bytes. -/
def wid (a b : Int) : Bool := isC a && isC b && (List.range 256).all fun j => !isO b j || isO a j
/-- By kinds. -/
def widK (a b : Nat) : Bool := (ks b) &&& (15 - ks a) == 0
theorem wid_no_a {a b : Int} (h : isC a = false) : wid a b = false := by simp [wid, h]
theorem wid_no_b {a b : Int} (h : isC b = false) : wid a b = false := by simp [wid, h]
theorem wid_at : ∀ a : Nat, a < 7 → 0 < a → ∀ b : Nat, b < 7 → 0 < b → wid (a : Int) (b : Int) = widK a b := by decide +kernel
theorem wid_bad {a b : Int} {j : Nat} (hj : j < 256) (h1 : isO b j = true) (h2 : isO a j = false) : wid a b = false := by
  unfold wid
  rw [Bool.and_eq_false_iff]
  right
  rw [List.all_eq_false]
  exact ⟨j, by simp [hj], by simp [h1, h2]⟩
theorem wid_all {a b : Int} (ha : isC a = true) (hb : isC b = true) (h : ∀ j, j < 256 → isO b j = true → isO a j = true) : wid a b = true := by
  unfold wid
  rw [ha, hb]
  simp only [Bool.true_and, List.all_eq_true, List.mem_range]
  intro j hj
  have := h j hj
  cases e : isO b j
  · rfl
  · rw [this e]; rfl
theorem wid_keeps {a b : Int} (h : wid a b = true) {j : Nat} (hj : j < 256) (h1 : isO b j = true) : isO a j = true := by
  cases e : isO a j
  · rw [wid_bad hj h1 e] at h; cases h
  · rfl

/-- The place of the first byte that is not of the class, from i on; -1. -/
def fst (c : Int) (l : List UInt8) : Int := if l.all (fun x => isO c x.toNat) then -1 else ((l.findIdx fun x => !isO c x.toNat : Nat) : Int)
theorem fst_all {c : Int} {l : List UInt8} (h : l.all (fun x => isO c x.toNat) = true) : fst c l = -1 := by simp [fst, h]
theorem fst_at {c : Int} {l : List UInt8} {k : Nat} (hk : k < l.length) (ha : (l.take k).all (fun x => isO c x.toNat) = true) (hb : isO c l[k].toNat = false) : fst c l = (k : Int) := by
  have hn : l.all (fun x => isO c x.toNat) = false := by
    rw [List.all_eq_false]
    exact ⟨l[k], List.getElem_mem hk, by simp [hb]⟩
  have hi : (l.findIdx fun x => !isO c x.toNat) = k := by
    rw [List.findIdx_eq hk]
    refine ⟨by simp [hb], fun j hj => ?_⟩
    rw [List.all_eq_true] at ha
    have := ha l[j] (by rw [List.mem_take_iff_getElem]; exact ⟨j, by omega, rfl⟩)
    simp [this]
  simp [fst, hn, hi]
theorem fst_cases (c : Int) (l : List UInt8) : (fst c l = -1 ∧ l.all (fun x => isO c x.toNat) = true) ∨ ∃ k : Nat, ∃ h : k < l.length, fst c l = (k : Int) ∧ (l.take k).all (fun x => isO c x.toNat) = true ∧ isO c l[k].toNat = false := by
  cases e : l.all (fun x => isO c x.toNat)
  · right
    have hx : ∃ x ∈ l, (fun x : UInt8 => !isO c x.toNat) x = true := by
      rw [List.all_eq_false] at e
      obtain ⟨x, hx, h⟩ := e
      exact ⟨x, hx, by simpa using h⟩
    have hl := List.findIdx_lt_length_of_exists hx
    refine ⟨l.findIdx fun x => !isO c x.toNat, hl, by simp [fst, e], ?_, ?_⟩
    · rw [List.all_eq_true]
      intro x hx
      rw [List.mem_take_iff_getElem] at hx
      obtain ⟨j, hj, rfl⟩ := hx
      have := List.not_of_lt_findIdx (p := fun x : UInt8 => !isO c x.toNat) (xs := l) (i := j) (by omega)
      simpa using this
    · have := List.findIdx_getElem (w := hl)
      simpa using this
  · exact .inl ⟨fst_all e, rfl⟩
theorem fst_append_yes {c : Int} {l m : List UInt8} (h : fst c l = -1) : fst c (l ++ m) = if fst c m = -1 then -1 else (l.length : Int) + fst c m := by
  have hl : l.all (fun x => isO c x.toNat) = true := by
    rcases fst_cases c l with ⟨_, h⟩ | ⟨k, _, hk, _⟩
    · exact h
    · omega
  rcases fst_cases c m with ⟨hm, ha⟩ | ⟨k, hk, hm, ht, hb⟩
  · rw [if_pos hm]
    exact fst_all (by rw [List.all_append, hl, ha]; rfl)
  · rw [if_neg (by omega), hm]
    have := fst_at (c := c) (l := l ++ m) (k := l.length + k) (by simp [hk]) (by rw [List.take_length_add_append, List.all_append, hl, ht]; rfl) (by
      rw [List.getElem_append_right (by omega)]
      simpa using hb)
    rw [this]
    omega
theorem fst_append_no {c : Int} {l m : List UInt8} (h : fst c l ≠ -1) : fst c (l ++ m) = fst c l := by
  rcases fst_cases c l with ⟨h', _⟩ | ⟨k, hk, e, ht, hb⟩
  · exact absurd h' h
  · rw [e]
    refine fst_at (by simp; omega) ?_ ?_
    · rw [List.take_append_of_le_length (by omega)]; exact ht
    · rw [List.getElem_append_left hk]; exact hb
theorem fst_keeps {a b : Int} {l : List UInt8} (hw : wid a b = true) (h : fst b l < 0) : fst a l = -1 := by
  rcases fst_cases b l with ⟨_, hb⟩ | ⟨k, _, e, _⟩
  · refine fst_all ?_
    rw [List.all_eq_true] at hb ⊢
    exact fun x hx => wid_keeps hw x.toNat_lt (hb x hx)
  · omega
theorem fst_ge (c : Int) (l : List UInt8) : -1 ≤ fst c l := by
  rcases fst_cases c l with ⟨h, _⟩ | ⟨k, _, h, _⟩ <;> omega
theorem fst_lt (c : Int) (l : List UInt8) : fst c l < (l.length : Int) := by
  rcases fst_cases c l with ⟨h, _⟩ | ⟨k, _, h, _⟩ <;> omega

end Go.Proofs.YtnbllngljgmebaaDoor

/-
  What Known, kind and the document's Is answer: for every class and byte, in every world.
-/
namespace Go.Proofs.YtnbllngljgmebaaDoor
open Go.RowKit

set_option maxRecDepth 100000 in
set_option maxHeartbeats 400000 in
theorem known_any (c : Int) (w : World) :
    Calls Tryd.prog 68 #[.int .i64 c] w fun e w' => e = .returned (.bool (isC c)) ∧ w = w' := by
  cases h : isC c
  · rw [isC_false] at h
    rcases h with h | h
    · go_enter Tryd.func68, Tryd.ntmps68
      go_wp2
      go_ret
      exact ⟨rfl, rfl⟩
    · go_enter Tryd.func68, Tryd.ntmps68
      go_wp2
      go_ret
      exact ⟨by simp [show ¬ c ≤ 6 by omega], rfl⟩
  · rw [isC_iff] at h
    obtain ⟨h1, h2⟩ := h
    go_enter Tryd.func68, Tryd.ntmps68
    go_wp2
    go_ret
    exact ⟨rfl, rfl⟩

theorem known_no {c : Int} (h : isC c = false) (w : World) : Calls Tryd.prog 68 #[.int .i64 c] w fun e w' => e = .returned (.bool false) ∧ w' = w := by
  refine (known_any c w).mono fun e w' ⟨he, hw⟩ => ?_
  rw [h] at he
  exact ⟨he, hw.symm⟩
theorem known_yes {c : Int} (h : isC c = true) (w : World) : Calls Tryd.prog 68 #[.int .i64 c] w fun e w' => e = .returned (.bool true) ∧ w' = w := by
  refine (known_any c w).mono fun e w' ⟨he, hw⟩ => ?_
  rw [h] at he
  exact ⟨he, hw.symm⟩

set_option maxRecDepth 100000 in
set_option maxHeartbeats 800000 in
theorem kind_any (n : Nat) (w : World) :
    Calls Tryd.prog 96 #[.int .u8 (n : Int)] w fun e w' => e = .returned (.int .i64 (kd n : Int)) ∧ w = w' := by
  have hk : kd n = kd n := rfl
  conv at hk => rhs; unfold kd
  have HK := Lib.hid hk; clear hk
  go_enter Tryd.func96, Tryd.ntmps96
  go_wp2
  all_goals go_ret
  all_goals refine ⟨?_, rfl⟩
  all_goals
    have h := HK.out
    repeat' split at h
    all_goals first
      | (rw [h]; rfl)
      | (exfalso; omega)

theorem isO_1 (n : Nat) : isO 1 n = decide (48 ≤ n ∧ n ≤ 57) := by
  rw [show isO 1 n = ((ks 1) &&& (kd n) != 0) from isO_at (k := 1) (by omega) (by omega) n]
  unfold kd
  repeat' split
  all_goals first | (simp [ks]; omega) | simp [ks, *]
theorem isO_2 (n : Nat) : isO 2 n = decide ((65 ≤ n ∧ n ≤ 90) ∨ (97 ≤ n ∧ n ≤ 122)) := by
  rw [show isO 2 n = ((ks 2) &&& (kd n) != 0) from isO_at (k := 2) (by omega) (by omega) n]
  unfold kd
  repeat' split
  all_goals first | (simp [ks]; omega) | simp [ks, *]
theorem isO_3 (n : Nat) : isO 3 n = decide ((48 ≤ n ∧ n ≤ 57) ∨ (65 ≤ n ∧ n ≤ 90) ∨ (97 ≤ n ∧ n ≤ 122)) := by
  rw [show isO 3 n = ((ks 3) &&& (kd n) != 0) from isO_at (k := 3) (by omega) (by omega) n]
  unfold kd
  repeat' split
  all_goals first | (simp [ks]; omega) | simp [ks, *]
theorem isO_4 (n : Nat) : isO 4 n = decide (32 ≤ n ∧ n ≤ 126) := by
  rw [show isO 4 n = ((ks 4) &&& (kd n) != 0) from isO_at (k := 4) (by omega) (by omega) n]
  unfold kd
  repeat' split
  all_goals first | (simp [ks]; omega) | simp [ks, *]
theorem isO_5 (n : Nat) : isO 5 n = true := by
  rw [show isO 5 n = ((ks 5) &&& (kd n) != 0) from isO_at (k := 5) (by omega) (by omega) n]
  rcases kd_cases n with h | h | h | h <;> rw [h] <;> rfl
theorem isO_6 (n : Nat) : isO 6 n = true := by
  rw [show isO 6 n = ((ks 6) &&& (kd n) != 0) from isO_at (k := 6) (by omega) (by omega) n]
  rcases kd_cases n with h | h | h | h <;> rw [h] <;> rfl
theorem isO_else {c : Int} (h1 : c ≠ 1) (h2 : c ≠ 2) (h3 : c ≠ 3) (h4 : c ≠ 4) (n : Nat) : isO c n = (c == 5 || c == 6) := by
  by_cases h5 : c = 5
  · subst h5; rw [isO_5]; rfl
  by_cases h6 : c = 6
  · subst h6; rw [isO_6]; rfl
  rw [isO_no (isC_false.2 (by omega))]
  simp [h5, h6]

set_option maxRecDepth 100000 in
set_option maxHeartbeats 1600000 in
theorem refIs_any (c : Int) (n : Nat) (w : World) :
    Calls Tryd.prog 73 #[.int .i64 c, .int .u8 (n : Int)] w fun e w' => e = .returned (.bool (isO c n)) ∧ w = w' := by
  by_cases h1 : c = 1
  · subst h1
    have HK := Lib.hid (isO_1 n)
    go_enter Tryd.func73, Tryd.ntmps73
    go_wp2
    all_goals
      go_ret
      refine ⟨congrArg (fun b => Ending.returned (Value.bool b)) ?_, rfl⟩
      rw [HK.out, Bool.eq_iff_iff]
      simp
      omega
  by_cases h2 : c = 2
  · subst h2
    have HK := Lib.hid (isO_2 n)
    clear h1
    go_enter Tryd.func73, Tryd.ntmps73
    go_wp2
    all_goals
      go_ret
      refine ⟨congrArg (fun b => Ending.returned (Value.bool b)) ?_, rfl⟩
      rw [HK.out, Bool.eq_iff_iff]
      simp
      omega
  by_cases h3 : c = 3
  · subst h3
    have HK := Lib.hid (isO_3 n)
    clear h1 h2
    go_enter Tryd.func73, Tryd.ntmps73
    go_wp2
    all_goals
      go_ret
      refine ⟨congrArg (fun b => Ending.returned (Value.bool b)) ?_, rfl⟩
      rw [HK.out, Bool.eq_iff_iff]
      simp
      omega
  by_cases h4 : c = 4
  · subst h4
    have HK := Lib.hid (isO_4 n)
    clear h1 h2 h3
    go_enter Tryd.func73, Tryd.ntmps73
    go_wp2
    all_goals
      go_ret
      refine ⟨congrArg (fun b => Ending.returned (Value.bool b)) ?_, rfl⟩
      rw [HK.out, Bool.eq_iff_iff]
      simp
      omega
  have HK := Lib.hid (isO_else h1 h2 h3 h4 n)
  go_enter Tryd.func73, Tryd.ntmps73
  go_wp2
  all_goals
    go_ret
    refine ⟨congrArg (fun b => Ending.returned (Value.bool b)) ?_, rfl⟩
    first
      | exact (isO_5 n).symm
      | (rw [HK.out]; done)
      | (rw [HK.out]; simp [*]; done)

end Go.Proofs.YtnbllngljgmebaaDoor

/-
  What Is and Wider answer: for every class and byte, in every world in which the table of kinds stands as the program's text lays it.
-/
namespace Go.Proofs.YtnbllngljgmebaaDoor
open Go.RowKit

/-- The table of kinds stands as the program's text lays it. -/
def Kinds (w : World) : Prop := ∀ k, k < 7 → w.cell? ⟨0, k, none⟩ = some (.int .i64 (ks k : Int))
theorem Kinds.below {w w' : World} (h : Kinds w) (hb : Below w.heap.size w w') : Kinds w' := by
  have h0 : 0 < w.heap.size := by
    have := h 0 (by omega)
    apply Nat.lt_of_not_le
    intro hn
    simp [World.cell?, Array.getElem?_eq_none hn] at this
  intro k hk
  rw [hb.cell (p := ⟨0, k, none⟩) h0]
  exact h k hk

theorem and_ks : ∀ k, k < 7 → ∀ d, d < 16 → bits .and .i64 (ks k : Int) ((d : Nat) : Int) = ((ks k &&& d : Nat) : Int) := by decide +kernel
theorem andNot_ks : ∀ a, a < 7 → ∀ b, b < 7 → bits .andNot .i64 (ks b : Int) (ks a : Int) = ((ks b &&& (15 - ks a) : Nat) : Int) := by decide +kernel

theorem beq_cast (y : Nat) : ((y : Int) == 0) = (y == 0) := by
  rw [Bool.eq_iff_iff]; simp
theorem bne_cast (y : Nat) : ((y : Int) != 0) = (y != 0) := by
  unfold bne; rw [beq_cast]

theorem kind_at (n : Nat) (w : World) : Calls Tryd.prog 96 #[.int .u8 (n : Int)] w fun e w' => e = .returned (.int .i64 (kd n : Int)) ∧ w' = w :=
  (kind_any n w).mono fun _ _ ⟨he, hw⟩ => ⟨he, hw.symm⟩

set_option maxRecDepth 100000 in
set_option maxHeartbeats 800000 in
theorem is_no {c : Int} (n : Nat) (w : World) (h : isC c = false) :
    Calls Tryd.prog 83 #[.int .i64 c, .int .u8 (n : Int)] w fun e w' => e = .returned (.bool false) ∧ Below w.heap.size w w' := by
  have HC := Lib.hid (known_no h); clear h
  go_enter Tryd.func83, Tryd.ntmps83
  go_wp2_with fail
  go_quiet ((go_at_call 68; exact Calls.quiet_of_same (HC.out _)))
  go_wp2
  go_ret
  exact ⟨rfl, below_drewN _ _⟩

set_option maxRecDepth 100000 in
set_option maxHeartbeats 800000 in
theorem is_yes (k : Nat) (n : Nat) (w : World) (hw : Kinds w) (h : k < 7) (h0 : 0 < k) :
    Calls Tryd.prog 83 #[.int .i64 (k : Int), .int .u8 (n : Int)] w fun e w' => e = .returned (.bool (isO (k : Int) n)) ∧ Below w.heap.size w w' := by
  have HC := Lib.hid (known_yes (c := (k : Int)) (isC_iff.2 (by omega)))
  have HN := Lib.hid (kind_at n)
  have hc := hw k h
  have hb := and_ks k h (kd n) (by rcases kd_cases n with e | e | e | e <;> omega)
  rw [isO_at h h0]
  generalize kd n = d at hb HN
  generalize ks k = z at hc hb
  generalize z &&& d = y at hb
  go_enter Tryd.func83, Tryd.ntmps83
  go_wp2_with fail
  go_quiet (first | (go_at_call 68; exact Calls.quiet_of_same (HC.out _)) | (go_at_call 96; exact Calls.quiet_of_same (HN.out _)))
  go_wp2
  go_ret
  exact ⟨congrArg (fun b => Ending.returned (Value.bool b)) (bne_cast y), below_drewN _ _⟩
theorem is_any (c : Int) (n : Nat) (w : World) (hw : Kinds w) :
    Calls Tryd.prog 83 #[.int .i64 c, .int .u8 (n : Int)] w fun e w' => e = .returned (.bool (isO c n)) ∧ Below w.heap.size w w' := by
  cases h : isC c
  · rw [isO_no h]
    exact is_no n w h
  · obtain ⟨k, h1, h2, rfl⟩ := isC_cases h
    exact is_yes k n w hw h1 h2


end Go.Proofs.YtnbllngljgmebaaDoor

/-
  What First answers, and the document's First and Wider: for every class and text.
-/
namespace Go.Proofs.YtnbllngljgmebaaDoor
open Go.RowKit

theorem fst_step (c : Int) (s : ByteArray) (k : Nat) (h : k < s.size) (ha : (s.data.toList.take k).all (fun x => isO c x.toNat) = true) (hb : isO c s[k].toNat = true) :
    (s.data.toList.take (k + 1)).all (fun x => isO c x.toNat) = true := by
  rw [List.take_succ_eq_append_getElem (by simpa using h), List.all_append, ha]
  simp only [List.all_cons, List.all_nil, Bool.and_true, Bool.true_and]
  exact hb
theorem fst_end (c : Int) (s : ByteArray) (k : Nat) (h : ¬ k < s.size) (ha : (s.data.toList.take k).all (fun x => isO c x.toNat) = true) : fst c s.data.toList = -1 := by
  rw [List.take_of_length_le (by simp; omega)] at ha
  exact fst_all ha
theorem fst_here (c : Int) (s : ByteArray) (k : Nat) (h : k < s.size) (ha : (s.data.toList.take k).all (fun x => isO c x.toNat) = true) (hb : isO c s[k].toNat = false) : fst c s.data.toList = (k : Int) :=
  fst_at (by simpa using h) ha hb

set_option maxRecDepth 100000 in
set_option maxHeartbeats 800000 in
theorem first_any (c : Int) (s : ByteArray) (w : World) (hw : Kinds w) (hs : s.size ≤ maxLen) :
    Calls Tryd.prog 71 #[.int .i64 c, .string s] w fun e w' => e = .returned (.int .i64 (fst c s.data.toList)) ∧ Below w.heap.size w w' := by
  unfold maxLen at hs
  have HW := Lib.hid hw; clear hw
  go_enter Tryd.func71, Tryd.ntmps71
  go_wp2
  go_loopw [8] (fun i w' => ∃ k : Nat, k ≤ s.size ∧ i = .int .i64 (k : Int) ∧ (s.data.toList.take k).all (fun x => isO c x.toNat) = true ∧ Below w.heap.size w w') (fun i _ => s.size - (intOf i).toNat)
  case atStart => exact ⟨0, Nat.zero_le _, rfl, rfl, Below.refl _ _⟩
  case round =>
    obtain ⟨k, hk, rfl, ha, hbel⟩ := hrel
    have HA := Lib.hid ha; clear ha
    have HBL := Lib.hid hbel; clear hbel
    by_cases hlt : k < s.size
    · have hx := ix_str s k hlt
      have HI := Lib.hid (fun w hw => is_any c s[k].toNat w hw)
      cases hd : isO c s[k].toNat
      · rw [hd] at HI
        have HB := Lib.hid (fst_here c s k hlt HA.out hd)
        clear hd
        generalize s[k] = x at hx HI
        go_wp2_with fail
        refine (HI.out _ (HW.out.below HBL.out)).mono ?_
        rintro e w1 ⟨rfl, hb1⟩
        go_wp2_with fail
        go_ret
        exact ⟨by rw [HB.out]; rfl, hbt HBL.out hb1⟩
      · rw [hd] at HI
        have HS := Lib.hid (fst_step c s k hlt HA.out hd)
        clear hd
        generalize s[k] = x at hx HI
        go_wp2_with fail
        refine (HI.out _ (HW.out.below HBL.out)).mono ?_
        rintro e w1 ⟨rfl, hb1⟩
        go_wp2_with fail
        go_roundw
        case rel => exact ⟨k + 1, by omega, by go_num, HS.out, hbt HBL.out hb1⟩
        case measure => simp [intOf]; omega
    · have HB := Lib.hid (fst_end c s k hlt HA.out)
      go_wp2
      go_ret
      exact ⟨by rw [HB.out]; rfl, HBL.out⟩

set_option maxRecDepth 100000 in
set_option maxHeartbeats 800000 in
theorem refFirst_any (c : Int) (s : ByteArray) (w : World) (hs : s.size ≤ maxLen) :
    Calls Tryd.prog 55 #[.int .i64 c, .string s] w fun e w' => e = .returned (.int .i64 (fst c s.data.toList)) ∧ w = w' := by
  unfold maxLen at hs
  go_enter Tryd.func55, Tryd.ntmps55
  go_wp2
  go_loop [5] (fun i => ∃ k : Nat, k ≤ s.size ∧ i = .int .i64 (k : Int) ∧ (s.data.toList.take k).all (fun x => isO c x.toNat) = true) (fun i => s.size - (intOf i).toNat)
  case atStart => exact ⟨0, Nat.zero_le _, rfl, rfl⟩
  case round =>
    obtain ⟨k, hk, rfl, ha⟩ := hrel
    have HA := Lib.hid ha; clear ha
    by_cases hlt : k < s.size
    · have hx := ix_str s k hlt
      have HI := Lib.hid (fun w => refIs_any c s[k].toNat w)
      cases hd : isO c s[k].toNat
      · rw [hd] at HI
        have HB := Lib.hid (fst_here c s k hlt HA.out hd)
        clear hd
        generalize s[k] = x at hx HI
        go_wp2_with fail
        refine (HI.out _).mono ?_
        rintro e w1 ⟨rfl, rfl⟩
        go_wp2_with fail
        go_ret
        exact ⟨by rw [HB.out]; rfl, rfl⟩
      · rw [hd] at HI
        have HS := Lib.hid (fst_step c s k hlt HA.out hd)
        clear hd
        generalize s[k] = x at hx HI
        go_wp2_with fail
        refine (HI.out _).mono ?_
        rintro e w1 ⟨rfl, rfl⟩
        go_wp2_with fail
        go_round
        case rel => exact ⟨k + 1, by omega, by go_num, HS.out⟩
        case measure => simp [intOf]; omega
    · have HB := Lib.hid (fst_end c s k hlt HA.out)
      go_wp2
      go_ret
      exact ⟨by rw [HB.out]; rfl, rfl⟩


end Go.Proofs.YtnbllngljgmebaaDoor
