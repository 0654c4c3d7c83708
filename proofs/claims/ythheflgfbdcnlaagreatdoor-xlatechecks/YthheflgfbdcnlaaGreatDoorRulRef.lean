/-
  What the document's Check of a rule answers: for every rule and schemas of up to 1000 specs, in every world.
-/
import Derived.Test.YthheflgfbdcnlaaGreatDoorRulOf
import Derived.Test.YthheflgfbdcnlaaGreatDoorPackSch
import Derived.Test.YthheflgfbdcnlaaGreatDoorPackSpc
import Derived.Test.YthheflgfbdcnlaaGreatDoorPackBase
namespace Go.Proofs.YthheflgfbdcnlaaGreatDoor
open Go.RowKit

set_option maxRecDepth 100000 in
set_option maxHeartbeats 1600000 in
theorem rlref_low (k f t : Int) (s : ByteArray) (B : Option Addr) (n cP : Nat) (st v : Int) (A : Option Addr) (la ca : Nat) (st' v' : Int) (A' : Option Addr) (lb cb : Nat) (w : World) (h : k < 1) : Calls Tryz.prog 30 #[.agg #[.int .i64 k, .int .i64 f, .int .i64 t, .string s, .slice B n cP], .agg #[.int .i64 st, .int .i64 v, .slice A la ca], .agg #[.int .i64 st', .int .i64 v', .slice A' lb cb]] w fun e w' => e = .returned (.int .i64 1) ∧ Below w.heap.size w w' := by
  have t1 : decide (k < 1) = true := by simpa using h
  clear h
  go_enter Tryz.func30, Tryz.ntmps30
  go_wp2
  go_ret
  exact ⟨rfl, hbt (hbt (below_al _ _) (below_al _ _)) (below_al _ _)⟩
set_option maxRecDepth 100000 in
set_option maxHeartbeats 1600000 in
theorem rlref_high (k f t : Int) (s : ByteArray) (B : Option Addr) (n cP : Nat) (st v : Int) (A : Option Addr) (la ca : Nat) (st' v' : Int) (A' : Option Addr) (lb cb : Nat) (w : World) (h : 5 < k) : Calls Tryz.prog 30 #[.agg #[.int .i64 k, .int .i64 f, .int .i64 t, .string s, .slice B n cP], .agg #[.int .i64 st, .int .i64 v, .slice A la ca], .agg #[.int .i64 st', .int .i64 v', .slice A' lb cb]] w fun e w' => e = .returned (.int .i64 1) ∧ Below w.heap.size w w' := by
  have t1 : decide (k < 1) = false := by simp; omega
  have t2 : decide (5 < k) = true := by simpa using h
  clear h
  go_enter Tryz.func30, Tryz.ntmps30
  go_wp2
  go_ret
  exact ⟨rfl, hbt (hbt (below_al _ _) (below_al _ _)) (below_al _ _)⟩
theorem text_some {s : ByteArray} (h : s ≠ ⟨#[]⟩) : s.toList.isEmpty = false := by
  rw [ByteArray.toList_eq]
  cases hd : s.data.toList with
  | nil => exact absurd (by rw [ByteArray.ext_iff]; exact Array.toList_inj.1 (by simpa using hd)) h
  | cons x r => rfl
set_option maxRecDepth 100000 in
set_option maxHeartbeats 6400000 in
theorem rlref_1 (f t : Int) (s : ByteArray) (B : Option Addr) (cP : Nat) (P : List PairT) (st v : Int) (A : Option Addr) (ca : Nat) (a : List Sp) (st' v' : Int) (A' : Option Addr) (cb : Nat) (b : List Sp) (w : World) (hP : Prs w B P) (hA : Spl w A a) (hB : Spl w A' b) (hla : a.length ≤ 1000) (hlb : b.length ≤ 1000) (hlP : P.length ≤ maxLen) (_ : Fit2 P) (_ : s.size ≤ maxLen) : Calls Tryz.prog 30 #[.agg #[.int .i64 1, .int .i64 f, .int .i64 t, .string s, .slice B P.length cP], .agg #[.int .i64 st, .int .i64 v, .slice A a.length ca], .agg #[.int .i64 st', .int .i64 v', .slice A' b.length cb]] w fun e w' => e = .returned (.int .i64 (rulN 1 f t s P a b)) ∧ Below w.heap.size w w' := by
  have HI := Lib.hid (fun W h => sreffind_any st v A ca a f W h hla)
  have HJ := Lib.hid (fun W h => sreffind_any st' v' A' cb b t W h hlb)
  have HQ0 := Lib.hid (rq_new w 1 f t s B P.length cP st v A a.length ca st' v' A' b.length cb)
  have HA := Lib.hid hA
  have HB := Lib.hid hB
  have HP := Lib.hid hP
  have HF0 : Hid (∀ x, rulN 1 f t s P a b = x → rulN 1 f t s P a b = x) := fun _ h => h
  have hnk : ¬ ((1 : Int) < 1 ∨ 5 < (1 : Int)) := by omega
  have HN1 := Lib.hid (fun h => rulN_from (k := 1) (f := f) (t := t) (s := s) (P := P) (a := a) (b := b) hnk h)
  have HN2 := Lib.hid (fun h1 h2 => rulN_to (k := 1) (f := f) (t := t) (s := s) (P := P) (a := a) (b := b) hnk h1 h2)
  have HN3 := Lib.hid (fun h1 h2 h3 => rulN_form (k := 1) (f := f) (t := t) (s := s) (P := P) (a := a) (b := b) hnk h1 h2 h3)
  have HN4 := Lib.hid (fun h1 h2 h3 => rulN_kind (k := 1) (f := f) (t := t) (s := s) (P := P) (a := a) (b := b) hnk h1 h2 h3)
  clear hnk HF0 hP hA hB
  generalize hlenP : P.length = n at *
  generalize hlena : a.length = la at *
  generalize hlenb : b.length = lb at *
  have HLP := Lib.hid hlenP
  have HLA := Lib.hid hlena
  have HLB := Lib.hid hlenb
  clear hlenP hlena hlenb
  unfold maxLen at hlP
  go_enter Tryz.func30, Tryz.ntmps30
  go_wp2_with fail
  generalize ((w.alloc (.cells #[.int .i64 1, .int .i64 f, .int .i64 t, .string s, .slice B n cP] 58)).alloc (.cells #[.int .i64 st, .int .i64 v, .slice A la ca] 28)).alloc (.cells #[.int .i64 st', .int .i64 v', .slice A' lb cb] 28) = U at *
  refine (HI.out _ (HA.out.below HQ0.out.1)).mono ?_
  rintro e w1 ⟨rfl, hb1⟩
  have HQ1 := Lib.hid (HQ0.out.below hb1)
  clear hb1
  obtain ⟨⟨r0, r1, r2, r3, r4⟩, ⟨a0, a1, a2⟩, b0, b1, b2⟩ := HQ1.out.cells
  go_wp2_with fail
  refine (HJ.out _ (HB.out.below HQ1.out.1)).mono ?_
  rintro e w2 ⟨rfl, hb2⟩
  have HQ2 := Lib.hid (HQ1.out.below hb2)
  clear hb2 HI HJ HQ0 HQ1
  clear r0 r1 r2 r3 r4 a0 a1 a2 b0 b1 b2
  obtain ⟨⟨r0, r1, r2, r3, r4⟩, ⟨a0, a1, a2⟩, b0, b1, b2⟩ := HQ2.out.cells
  rcases fnd_cases f a with ⟨hi, hi2⟩ | ⟨i, hil, hi, hi2⟩
  · have HE := Lib.hid (HN1.out (by simp [rlA, hi2]))
    rw [hi]
    generalize fndI t 0 b = j at *
    clear hi hi2
    go_wp2
    go_ret
    exact ⟨by rw [HE.out] <;> rfl, HQ2.out.1⟩
  · rw [hi]
    have HRA : Hid (rlA 1 f a = true) := by show _ = _; simp [rlA, hi2]
    have HXA : Hid ((fndP f a).1 = spAt a i) := by show _ = _; rw [hi2]
    have HIL := Lib.hid hil
    have hi63 : i < la := by have := HLA.out; omega
    clear hi hi2 hil
    rcases fnd_cases t b with ⟨hj, hj2⟩ | ⟨j, hjl, hj, hj2⟩
    · have HE := Lib.hid (HN2.out HRA.out (by simp [rlB, hj2]))
      rw [hj]
      clear hj hj2
      go_wp2
      go_ret
      exact ⟨by rw [HE.out] <;> rfl, HQ2.out.1⟩
    · rw [hj]
      have HRB : Hid (rlB 1 t b = true) := by show _ = _; simp [rlB, hj2]
      have HXB : Hid ((fndP t b).1 = spAt b j) := by show _ = _; rw [hj2]
      have HJL := Lib.hid hjl
      have hj63 : j < lb := by have := HLB.out; omega
      clear hj hj2 hjl
      by_cases hs0 : s = ⟨#[]⟩
      · subst hs0
        by_cases hn0 : n = 0
        · subst hn0
          have HRC : Hid (rlC 1 ⟨#[]⟩ P = true) := by show _ = _; simp [rlC, noS, HLP.out]
          have HE4 := Lib.hid (HN4.out HRA.out HRB.out HRC.out)
          obtain ⟨aa, n1, c1, f1, lo1, hi1, rfl, hxa, hca⟩ := spl_all HA.out HIL.out
          obtain ⟨bb, n2, c2, f2, lo2, hi2, rfl, hxb, hcb⟩ := spl_all HB.out HJL.out
          rw [HXA.out, HXB.out, hxa, hxb] at HE4
          have HCA := Lib.hid hca
          have HCB := Lib.hid hcb
          have HW := Lib.hid (fun W => sprefWider_any n2 c2 f2 lo2 hi2 n1 c1 f1 lo1 hi1 W)
          have HE5 : Hid (rlK 1 (n1, c1, f1, lo1, hi1) (n2, c2, f2, lo2, hi2) ⟨#[]⟩ P = if spw n2 c2 f2 lo2 hi2 n1 c1 f1 lo1 hi1 then 0 else 6) := rfl
          generalize spw n2 c2 f2 lo2 hi2 n1 c1 f1 lo1 hi1 = r at *
          clear hca hcb hxa hxb HA HB HXA HXB
          go_wp2_with fail
          clear r0 r1 r2 r3 r4 a0 a1 a2 b0 b1 b2
          refine wp_region_noPanic ?_
          refine wp_region_held_drew (S := (RQ w 1 f t ⟨#[]⟩ B 0 cP st v (some aa) la ca st' v' (some bb) lb cb)) (by kernel_rfl) (HQ2.out.drew) (fun hS => ?_)
          refine gv 0 (v := ?_) (fun u hu => ?_) hS ?_
          rotate_left
          · ((obtain ⟨⟨r0, r1, r2, r3, r4⟩, ⟨a0, a1, a2⟩, b0, b1, b2⟩ := hu.cells; obtain ⟨x0, x1, x2, x3, x4⟩ := HCA.out _ hu.1; obtain ⟨y0, y1, y2, y3, y4⟩ := HCB.out _ hu.1); go_simp; try (with_reducible rfl))
          try simp only [puts]
          refine gv 1 (v := ?_) (fun u hu => ?_) hS ?_
          rotate_left
          · ((obtain ⟨⟨r0, r1, r2, r3, r4⟩, ⟨a0, a1, a2⟩, b0, b1, b2⟩ := hu.cells; obtain ⟨x0, x1, x2, x3, x4⟩ := HCA.out _ hu.1; obtain ⟨y0, y1, y2, y3, y4⟩ := HCB.out _ hu.1); go_simp; try (with_reducible rfl))
          try simp only [puts]
          refine gv 2 (v := ?_) (fun u hu => ?_) hS ?_
          rotate_left
          · ((obtain ⟨⟨r0, r1, r2, r3, r4⟩, ⟨a0, a1, a2⟩, b0, b1, b2⟩ := hu.cells; obtain ⟨x0, x1, x2, x3, x4⟩ := HCA.out _ hu.1; obtain ⟨y0, y1, y2, y3, y4⟩ := HCB.out _ hu.1); go_simp; try (with_reducible rfl))
          try simp only [puts]
          refine gv 3 (v := ?_) (fun u hu => ?_) hS ?_
          rotate_left
          · ((obtain ⟨⟨r0, r1, r2, r3, r4⟩, ⟨a0, a1, a2⟩, b0, b1, b2⟩ := hu.cells; obtain ⟨x0, x1, x2, x3, x4⟩ := HCA.out _ hu.1; obtain ⟨y0, y1, y2, y3, y4⟩ := HCB.out _ hu.1); go_simp; try (with_reducible rfl))
          try simp only [puts]
          refine gv 4 (v := ?_) (fun u hu => ?_) hS ?_
          rotate_left
          · ((obtain ⟨⟨r0, r1, r2, r3, r4⟩, ⟨a0, a1, a2⟩, b0, b1, b2⟩ := hu.cells; obtain ⟨x0, x1, x2, x3, x4⟩ := HCA.out _ hu.1; obtain ⟨y0, y1, y2, y3, y4⟩ := HCB.out _ hu.1); go_simp; try (with_reducible rfl))
          try simp only [puts]
          refine gv 5 (v := ?_) (fun u hu => ?_) hS ?_
          rotate_left
          · ((obtain ⟨⟨r0, r1, r2, r3, r4⟩, ⟨a0, a1, a2⟩, b0, b1, b2⟩ := hu.cells; obtain ⟨x0, x1, x2, x3, x4⟩ := HCA.out _ hu.1; obtain ⟨y0, y1, y2, y3, y4⟩ := HCB.out _ hu.1); go_simp; try (with_reducible rfl))
          try simp only [puts]
          refine gv 6 (v := ?_) (fun u hu => ?_) hS ?_
          rotate_left
          · ((obtain ⟨⟨r0, r1, r2, r3, r4⟩, ⟨a0, a1, a2⟩, b0, b1, b2⟩ := hu.cells; obtain ⟨x0, x1, x2, x3, x4⟩ := HCA.out _ hu.1; obtain ⟨y0, y1, y2, y3, y4⟩ := HCB.out _ hu.1); go_simp; try (with_reducible rfl))
          try simp only [puts]
          refine gv 7 (v := ?_) (fun u hu => ?_) hS ?_
          rotate_left
          · ((obtain ⟨⟨r0, r1, r2, r3, r4⟩, ⟨a0, a1, a2⟩, b0, b1, b2⟩ := hu.cells; obtain ⟨x0, x1, x2, x3, x4⟩ := HCA.out _ hu.1; obtain ⟨y0, y1, y2, y3, y4⟩ := HCB.out _ hu.1); go_simp; try (with_reducible rfl))
          try simp only [puts]
          refine gv 8 (v := ?_) (fun u hu => ?_) hS ?_
          rotate_left
          · ((obtain ⟨⟨r0, r1, r2, r3, r4⟩, ⟨a0, a1, a2⟩, b0, b1, b2⟩ := hu.cells; obtain ⟨x0, x1, x2, x3, x4⟩ := HCA.out _ hu.1; obtain ⟨y0, y1, y2, y3, y4⟩ := HCB.out _ hu.1); go_simp; try (with_reducible rfl))
          try simp only [puts]
          refine gv 9 (v := ?_) (fun u hu => ?_) hS ?_
          rotate_left
          · ((obtain ⟨⟨r0, r1, r2, r3, r4⟩, ⟨a0, a1, a2⟩, b0, b1, b2⟩ := hu.cells; obtain ⟨x0, x1, x2, x3, x4⟩ := HCA.out _ hu.1; obtain ⟨y0, y1, y2, y3, y4⟩ := HCB.out _ hu.1); go_simp; try (with_reducible rfl))
          try simp only [puts]
          refine only_call (i := 10) 53 #[.agg #[.int .i64 n2, .int .i64 c2, .int .i64 f2, .int .i64 lo2, .int .i64 hi2], .agg #[.int .i64 n1, .int .i64 c1, .int .i64 f1, .int .i64 lo1, .int .i64 hi1]] rfl (by kernel_rfl) (by rfl) ((HW.out _).mono fun e w' he => ⟨he.1, hS.below he.2⟩) ?_ ?_
          · (go_simp; try (with_reducible rfl))
          clear hS
          intro w10 hS
          try simp only [puts]
          refine gv 11 (v := ?_) (fun u hu => ?_) hS ?_
          rotate_left
          · ((obtain ⟨⟨r0, r1, r2, r3, r4⟩, ⟨a0, a1, a2⟩, b0, b1, b2⟩ := hu.cells; obtain ⟨x0, x1, x2, x3, x4⟩ := HCA.out _ hu.1; obtain ⟨y0, y1, y2, y3, y4⟩ := HCB.out _ hu.1); go_simp; try (with_reducible rfl))
          try simp only [puts]
          refine wpAnyH_done (by kernel_rfl) (NoPanic.normal ?_) _
          have HQ3 := Lib.hid hS
          clear hS
          cases r
          · go_wp2
            go_ret
            exact ⟨by rw [HE4.out, HE5.out] <;> rfl, HQ3.out.1⟩
          · go_wp2
            go_ret
            exact ⟨by rw [HE4.out, HE5.out] <;> rfl, HQ3.out.1⟩
        · have HE := Lib.hid (HN3.out HRA.out HRB.out (by simp [rlC, HLP.out, hn0]))
          have tn : 0 < n := by omega
          clear hn0
          go_wp2
          go_ret
          exact ⟨by rw [HE.out] <;> rfl, HQ2.out.1⟩
      · have HE := Lib.hid (HN3.out HRA.out HRB.out (by simp [rlC, noS, hs0]))
        have ts : s.toList.isEmpty = false := text_some hs0
        clear hs0
        go_wp2
        go_ret
        exact ⟨by rw [HE.out] <;> rfl, HQ2.out.1⟩
set_option maxRecDepth 100000 in
set_option maxHeartbeats 6400000 in
theorem rlref_2 (f t : Int) (s : ByteArray) (B : Option Addr) (cP : Nat) (P : List PairT) (st v : Int) (A : Option Addr) (ca : Nat) (a : List Sp) (st' v' : Int) (A' : Option Addr) (cb : Nat) (b : List Sp) (w : World) (hP : Prs w B P) (hA : Spl w A a) (hB : Spl w A' b) (hla : a.length ≤ 1000) (hlb : b.length ≤ 1000) (hlP : P.length ≤ maxLen) (_ : Fit2 P) (_ : s.size ≤ maxLen) : Calls Tryz.prog 30 #[.agg #[.int .i64 2, .int .i64 f, .int .i64 t, .string s, .slice B P.length cP], .agg #[.int .i64 st, .int .i64 v, .slice A a.length ca], .agg #[.int .i64 st', .int .i64 v', .slice A' b.length cb]] w fun e w' => e = .returned (.int .i64 (rulN 2 f t s P a b)) ∧ Below w.heap.size w w' := by
  have HI := Lib.hid (fun W h => sreffind_any st v A ca a f W h hla)
  have HJ := Lib.hid (fun W h => sreffind_any st' v' A' cb b t W h hlb)
  have HQ0 := Lib.hid (rq_new w 2 f t s B P.length cP st v A a.length ca st' v' A' b.length cb)
  have HA := Lib.hid hA
  have HB := Lib.hid hB
  have HP := Lib.hid hP
  have HF0 : Hid (∀ x, rulN 2 f t s P a b = x → rulN 2 f t s P a b = x) := fun _ h => h
  have hnk : ¬ ((2 : Int) < 1 ∨ 5 < (2 : Int)) := by omega
  have HN1 := Lib.hid (fun h => rulN_from (k := 2) (f := f) (t := t) (s := s) (P := P) (a := a) (b := b) hnk h)
  have HN2 := Lib.hid (fun h1 h2 => rulN_to (k := 2) (f := f) (t := t) (s := s) (P := P) (a := a) (b := b) hnk h1 h2)
  have HN3 := Lib.hid (fun h1 h2 h3 => rulN_form (k := 2) (f := f) (t := t) (s := s) (P := P) (a := a) (b := b) hnk h1 h2 h3)
  have HN4 := Lib.hid (fun h1 h2 h3 => rulN_kind (k := 2) (f := f) (t := t) (s := s) (P := P) (a := a) (b := b) hnk h1 h2 h3)
  clear hnk HF0 hP hA hB
  generalize hlenP : P.length = n at *
  generalize hlena : a.length = la at *
  generalize hlenb : b.length = lb at *
  have HLP := Lib.hid hlenP
  have HLA := Lib.hid hlena
  have HLB := Lib.hid hlenb
  clear hlenP hlena hlenb
  unfold maxLen at hlP
  go_enter Tryz.func30, Tryz.ntmps30
  go_wp2_with fail
  generalize ((w.alloc (.cells #[.int .i64 2, .int .i64 f, .int .i64 t, .string s, .slice B n cP] 58)).alloc (.cells #[.int .i64 st, .int .i64 v, .slice A la ca] 28)).alloc (.cells #[.int .i64 st', .int .i64 v', .slice A' lb cb] 28) = U at *
  refine (HI.out _ (HA.out.below HQ0.out.1)).mono ?_
  rintro e w1 ⟨rfl, hb1⟩
  have HQ1 := Lib.hid (HQ0.out.below hb1)
  clear hb1
  obtain ⟨⟨r0, r1, r2, r3, r4⟩, ⟨a0, a1, a2⟩, b0, b1, b2⟩ := HQ1.out.cells
  go_wp2_with fail
  refine (HJ.out _ (HB.out.below HQ1.out.1)).mono ?_
  rintro e w2 ⟨rfl, hb2⟩
  have HQ2 := Lib.hid (HQ1.out.below hb2)
  clear hb2 HI HJ HQ0 HQ1
  clear r0 r1 r2 r3 r4 a0 a1 a2 b0 b1 b2
  obtain ⟨⟨r0, r1, r2, r3, r4⟩, ⟨a0, a1, a2⟩, b0, b1, b2⟩ := HQ2.out.cells
  rcases fnd_cases f a with ⟨hi, hi2⟩ | ⟨i, hil, hi, hi2⟩
  · have HE := Lib.hid (HN1.out (by simp [rlA, hi2]))
    rw [hi]
    generalize fndI t 0 b = j at *
    clear hi hi2
    go_wp2
    go_ret
    exact ⟨by rw [HE.out] <;> rfl, HQ2.out.1⟩
  · rw [hi]
    have HRA : Hid (rlA 2 f a = true) := by show _ = _; simp [rlA, hi2]
    have HXA : Hid ((fndP f a).1 = spAt a i) := by show _ = _; rw [hi2]
    have HIL := Lib.hid hil
    have hi63 : i < la := by have := HLA.out; omega
    clear hi hi2 hil
    generalize fndI t 0 b = j at *
    by_cases ht0 : t = 0
    · subst ht0
      have HRB : Hid (rlB 2 0 b = true) := rfl
      by_cases hs0 : s = ⟨#[]⟩
      · subst hs0
        by_cases hn0 : n = 0
        · subst hn0
          have HRC : Hid (rlC 2 ⟨#[]⟩ P = true) := by show _ = _; simp [rlC, noS, HLP.out]
          have HE4 := Lib.hid (HN4.out HRA.out HRB.out HRC.out)
          go_wp2
          go_ret
          exact ⟨by rw [HE4.out] <;> rfl, HQ2.out.1⟩
        · have HE := Lib.hid (HN3.out HRA.out HRB.out (by simp [rlC, HLP.out, hn0]))
          have tn : 0 < n := by omega
          clear hn0
          go_wp2
          go_ret
          exact ⟨by rw [HE.out] <;> rfl, HQ2.out.1⟩
      · have HE := Lib.hid (HN3.out HRA.out HRB.out (by simp [rlC, noS, hs0]))
        have ts : s.toList.isEmpty = false := text_some hs0
        clear hs0
        go_wp2
        go_ret
        exact ⟨by rw [HE.out] <;> rfl, HQ2.out.1⟩
    · have HE := Lib.hid (HN2.out HRA.out (by simp [rlB, ht0]))
      have tt : (t != 0) = true := by simpa using ht0
      clear ht0
      go_wp2
      go_ret
      exact ⟨by rw [HE.out] <;> rfl, HQ2.out.1⟩
set_option maxRecDepth 100000 in
set_option maxHeartbeats 6400000 in
theorem rlref_3s (f t : Int) (s : ByteArray) (B : Option Addr) (cP : Nat) (P : List PairT) (st v : Int) (A : Option Addr) (ca : Nat) (a : List Sp) (st' v' : Int) (A' : Option Addr) (cb : Nat) (b : List Sp) (w : World) (hP : Prs w B P) (hA : Spl w A a) (hB : Spl w A' b) (hla : a.length ≤ 1000) (hlb : b.length ≤ 1000) (hlP : P.length ≤ maxLen) (_ : Fit2 P) (hs : s.size ≤ maxLen) (hts : s.toList.isEmpty = false) : Calls Tryz.prog 30 #[.agg #[.int .i64 3, .int .i64 f, .int .i64 t, .string s, .slice B P.length cP], .agg #[.int .i64 st, .int .i64 v, .slice A a.length ca], .agg #[.int .i64 st', .int .i64 v', .slice A' b.length cb]] w fun e w' => e = .returned (.int .i64 (rulN 3 f t s P a b)) ∧ Below w.heap.size w w' := by
  have HI := Lib.hid (fun W h => sreffind_any st v A ca a f W h hla)
  have HJ := Lib.hid (fun W h => sreffind_any st' v' A' cb b t W h hlb)
  have HQ0 := Lib.hid (rq_new w 3 f t s B P.length cP st v A a.length ca st' v' A' b.length cb)
  have HA := Lib.hid hA
  have HB := Lib.hid hB
  have HP := Lib.hid hP
  have HS := Lib.hid hs
  have HF0 : Hid (∀ x, rulN 3 f t s P a b = x → rulN 3 f t s P a b = x) := fun _ h => h
  have hnk : ¬ ((3 : Int) < 1 ∨ 5 < (3 : Int)) := by omega
  have HN1 := Lib.hid (fun h => rulN_from (k := 3) (f := f) (t := t) (s := s) (P := P) (a := a) (b := b) hnk h)
  have HN2 := Lib.hid (fun h1 h2 => rulN_to (k := 3) (f := f) (t := t) (s := s) (P := P) (a := a) (b := b) hnk h1 h2)
  have HN3 := Lib.hid (fun h1 h2 h3 => rulN_form (k := 3) (f := f) (t := t) (s := s) (P := P) (a := a) (b := b) hnk h1 h2 h3)
  have HN4 := Lib.hid (fun h1 h2 h3 => rulN_kind (k := 3) (f := f) (t := t) (s := s) (P := P) (a := a) (b := b) hnk h1 h2 h3)
  clear hnk HF0 hP hA hB hs
  generalize hlenP : P.length = n at *
  generalize hlena : a.length = la at *
  generalize hlenb : b.length = lb at *
  have HLP := Lib.hid hlenP
  have HLA := Lib.hid hlena
  have HLB := Lib.hid hlenb
  clear hlenP hlena hlenb
  unfold maxLen at hlP
  go_enter Tryz.func30, Tryz.ntmps30
  go_wp2_with fail
  generalize ((w.alloc (.cells #[.int .i64 3, .int .i64 f, .int .i64 t, .string s, .slice B n cP] 58)).alloc (.cells #[.int .i64 st, .int .i64 v, .slice A la ca] 28)).alloc (.cells #[.int .i64 st', .int .i64 v', .slice A' lb cb] 28) = U at *
  refine (HI.out _ (HA.out.below HQ0.out.1)).mono ?_
  rintro e w1 ⟨rfl, hb1⟩
  have HQ1 := Lib.hid (HQ0.out.below hb1)
  clear hb1
  obtain ⟨⟨r0, r1, r2, r3, r4⟩, ⟨a0, a1, a2⟩, b0, b1, b2⟩ := HQ1.out.cells
  go_wp2_with fail
  refine (HJ.out _ (HB.out.below HQ1.out.1)).mono ?_
  rintro e w2 ⟨rfl, hb2⟩
  have HQ2 := Lib.hid (HQ1.out.below hb2)
  clear hb2 HI HJ HQ0 HQ1
  clear r0 r1 r2 r3 r4 a0 a1 a2 b0 b1 b2
  obtain ⟨⟨r0, r1, r2, r3, r4⟩, ⟨a0, a1, a2⟩, b0, b1, b2⟩ := HQ2.out.cells
  generalize fndI f 0 a = i at *
  by_cases hf0 : f = 0
  · subst hf0
    have HRA : Hid (rlA 3 0 a = true) := rfl
    rcases fnd_cases t b with ⟨hj, hj2⟩ | ⟨j, hjl, hj, hj2⟩
    · have HE := Lib.hid (HN2.out HRA.out (by simp [rlB, hj2]))
      rw [hj]
      clear hj hj2
      go_wp2
      go_ret
      exact ⟨by rw [HE.out] <;> rfl, HQ2.out.1⟩
    · rw [hj]
      have HRB : Hid (rlB 3 t b = true) := by show _ = _; simp [rlB, hj2]
      have HXB : Hid ((fndP t b).1 = spAt b j) := by show _ = _; rw [hj2]
      have HJL := Lib.hid hjl
      have hj63 : j < lb := by have := HLB.out; omega
      clear hj hj2 hjl
      by_cases hn0 : n = 0
      · subst hn0
        have HRC : Hid (rlC 3 s P = true) := by show _ = _; simp [rlC, noS, HLP.out]
        have HE4 := Lib.hid (HN4.out HRA.out HRB.out HRC.out)
        obtain ⟨bb, n2, c2, f2, lo2, hi2, rfl, hxb, hcb⟩ := spl_all HB.out HJL.out
        rw [HXB.out, hxb] at HE4
        have HCB := Lib.hid hcb
        have HW := Lib.hid (fun W => sprefValue_any n2 c2 f2 lo2 hi2 s W HS.out)
        have HE5 : Hid (∀ x, rlK 3 x (n2, c2, f2, lo2, hi2) s P = spv n2 c2 f2 lo2 hi2 s) := fun _ => rfl
        generalize spv n2 c2 f2 lo2 hi2 s = r at *
        clear hcb hxb HA HB HXB
        go_wp2_with fail
        clear r0 r1 r2 r3 r4 a0 a1 a2 b0 b1 b2
        refine wp_region_noPanic ?_
        refine wp_region_held_drew (S := (RQ w 3 0 t s B 0 cP st v A la ca st' v' (some bb) lb cb)) (by kernel_rfl) (HQ2.out.drew) (fun hS => ?_)
        refine gv 0 (v := ?_) (fun u hu => ?_) hS ?_
        rotate_left
        · ((obtain ⟨⟨r0, r1, r2, r3, r4⟩, ⟨a0, a1, a2⟩, b0, b1, b2⟩ := hu.cells; obtain ⟨y0, y1, y2, y3, y4⟩ := HCB.out _ hu.1); go_simp; try (with_reducible rfl))
        try simp only [puts]
        refine gv 1 (v := ?_) (fun u hu => ?_) hS ?_
        rotate_left
        · ((obtain ⟨⟨r0, r1, r2, r3, r4⟩, ⟨a0, a1, a2⟩, b0, b1, b2⟩ := hu.cells; obtain ⟨y0, y1, y2, y3, y4⟩ := HCB.out _ hu.1); go_simp; try (with_reducible rfl))
        try simp only [puts]
        refine gv 2 (v := ?_) (fun u hu => ?_) hS ?_
        rotate_left
        · ((obtain ⟨⟨r0, r1, r2, r3, r4⟩, ⟨a0, a1, a2⟩, b0, b1, b2⟩ := hu.cells; obtain ⟨y0, y1, y2, y3, y4⟩ := HCB.out _ hu.1); go_simp; try (with_reducible rfl))
        try simp only [puts]
        refine gv 3 (v := ?_) (fun u hu => ?_) hS ?_
        rotate_left
        · ((obtain ⟨⟨r0, r1, r2, r3, r4⟩, ⟨a0, a1, a2⟩, b0, b1, b2⟩ := hu.cells; obtain ⟨y0, y1, y2, y3, y4⟩ := HCB.out _ hu.1); go_simp; try (with_reducible rfl))
        try simp only [puts]
        refine gv 4 (v := ?_) (fun u hu => ?_) hS ?_
        rotate_left
        · ((obtain ⟨⟨r0, r1, r2, r3, r4⟩, ⟨a0, a1, a2⟩, b0, b1, b2⟩ := hu.cells; obtain ⟨y0, y1, y2, y3, y4⟩ := HCB.out _ hu.1); go_simp; try (with_reducible rfl))
        try simp only [puts]
        refine gv 5 (v := ?_) (fun u hu => ?_) hS ?_
        rotate_left
        · ((obtain ⟨⟨r0, r1, r2, r3, r4⟩, ⟨a0, a1, a2⟩, b0, b1, b2⟩ := hu.cells; obtain ⟨y0, y1, y2, y3, y4⟩ := HCB.out _ hu.1); go_simp; try (with_reducible rfl))
        try simp only [puts]
        refine gv 6 (v := ?_) (fun u hu => ?_) hS ?_
        rotate_left
        · ((obtain ⟨⟨r0, r1, r2, r3, r4⟩, ⟨a0, a1, a2⟩, b0, b1, b2⟩ := hu.cells; obtain ⟨y0, y1, y2, y3, y4⟩ := HCB.out _ hu.1); go_simp; try (with_reducible rfl))
        try simp only [puts]
        refine only_call (i := 7) 41 #[.agg #[.int .i64 n2, .int .i64 c2, .int .i64 f2, .int .i64 lo2, .int .i64 hi2], .string s] rfl (by kernel_rfl) (by rfl) ((HW.out _).mono fun e w' he => ⟨he.1, hS.below he.2⟩) ?_ ?_
        · (go_simp; try (with_reducible rfl))
        clear hS
        intro w7 hS
        try simp only [puts]
        refine gv 8 (v := ?_) (fun u hu => ?_) hS ?_
        rotate_left
        · ((obtain ⟨⟨r0, r1, r2, r3, r4⟩, ⟨a0, a1, a2⟩, b0, b1, b2⟩ := hu.cells; obtain ⟨y0, y1, y2, y3, y4⟩ := HCB.out _ hu.1); go_simp; try (with_reducible rfl))
        try simp only [puts]
        refine wpAnyH_done (by kernel_rfl) (NoPanic.normal ?_) _
        have HQ3 := Lib.hid hS
        clear hS
        go_wp2
        go_ret
        exact ⟨by rw [HE4.out, HE5.out] <;> rfl, HQ3.out.1⟩
      · have HE := Lib.hid (HN3.out HRA.out HRB.out (by simp [rlC, HLP.out, hn0]))
        have tn : 0 < n := by omega
        clear hn0
        go_wp2
        go_ret
        exact ⟨by rw [HE.out] <;> rfl, HQ2.out.1⟩
  · have HE := Lib.hid (HN1.out (by simp [rlA, hf0]))
    have tf : (f != 0) = true := by simpa using hf0
    generalize fndI t 0 b = j at *
    clear hf0
    go_wp2
    go_ret
    exact ⟨by rw [HE.out] <;> rfl, HQ2.out.1⟩
set_option maxRecDepth 100000 in
set_option maxHeartbeats 6400000 in
theorem rlref_3e (f t : Int) (B : Option Addr) (cP : Nat) (P : List PairT) (st v : Int) (A : Option Addr) (ca : Nat) (a : List Sp) (st' v' : Int) (A' : Option Addr) (cb : Nat) (b : List Sp) (w : World) (hP : Prs w B P) (hA : Spl w A a) (hB : Spl w A' b) (hla : a.length ≤ 1000) (hlb : b.length ≤ 1000) (hlP : P.length ≤ maxLen) (_ : Fit2 P)  : Calls Tryz.prog 30 #[.agg #[.int .i64 3, .int .i64 f, .int .i64 t, .string ⟨#[]⟩, .slice B P.length cP], .agg #[.int .i64 st, .int .i64 v, .slice A a.length ca], .agg #[.int .i64 st', .int .i64 v', .slice A' b.length cb]] w fun e w' => e = .returned (.int .i64 (rulN 3 f t ⟨#[]⟩ P a b)) ∧ Below w.heap.size w w' := by
  have HI := Lib.hid (fun W h => sreffind_any st v A ca a f W h hla)
  have HJ := Lib.hid (fun W h => sreffind_any st' v' A' cb b t W h hlb)
  have HQ0 := Lib.hid (rq_new w 3 f t ⟨#[]⟩ B P.length cP st v A a.length ca st' v' A' b.length cb)
  have HA := Lib.hid hA
  have HB := Lib.hid hB
  have HP := Lib.hid hP
  have HF0 : Hid (∀ x, rulN 3 f t ⟨#[]⟩ P a b = x → rulN 3 f t ⟨#[]⟩ P a b = x) := fun _ h => h
  have hnk : ¬ ((3 : Int) < 1 ∨ 5 < (3 : Int)) := by omega
  have HN1 := Lib.hid (fun h => rulN_from (k := 3) (f := f) (t := t) (s := ⟨#[]⟩) (P := P) (a := a) (b := b) hnk h)
  have HN2 := Lib.hid (fun h1 h2 => rulN_to (k := 3) (f := f) (t := t) (s := ⟨#[]⟩) (P := P) (a := a) (b := b) hnk h1 h2)
  have HN3 := Lib.hid (fun h1 h2 h3 => rulN_form (k := 3) (f := f) (t := t) (s := ⟨#[]⟩) (P := P) (a := a) (b := b) hnk h1 h2 h3)
  have HN4 := Lib.hid (fun h1 h2 h3 => rulN_kind (k := 3) (f := f) (t := t) (s := ⟨#[]⟩) (P := P) (a := a) (b := b) hnk h1 h2 h3)
  clear hnk HF0 hP hA hB
  generalize hlenP : P.length = n at *
  generalize hlena : a.length = la at *
  generalize hlenb : b.length = lb at *
  have HLP := Lib.hid hlenP
  have HLA := Lib.hid hlena
  have HLB := Lib.hid hlenb
  clear hlenP hlena hlenb
  unfold maxLen at hlP
  go_enter Tryz.func30, Tryz.ntmps30
  go_wp2_with fail
  generalize ((w.alloc (.cells #[.int .i64 3, .int .i64 f, .int .i64 t, .string ⟨#[]⟩, .slice B n cP] 58)).alloc (.cells #[.int .i64 st, .int .i64 v, .slice A la ca] 28)).alloc (.cells #[.int .i64 st', .int .i64 v', .slice A' lb cb] 28) = U at *
  refine (HI.out _ (HA.out.below HQ0.out.1)).mono ?_
  rintro e w1 ⟨rfl, hb1⟩
  have HQ1 := Lib.hid (HQ0.out.below hb1)
  clear hb1
  obtain ⟨⟨r0, r1, r2, r3, r4⟩, ⟨a0, a1, a2⟩, b0, b1, b2⟩ := HQ1.out.cells
  go_wp2_with fail
  refine (HJ.out _ (HB.out.below HQ1.out.1)).mono ?_
  rintro e w2 ⟨rfl, hb2⟩
  have HQ2 := Lib.hid (HQ1.out.below hb2)
  clear hb2 HI HJ HQ0 HQ1
  clear r0 r1 r2 r3 r4 a0 a1 a2 b0 b1 b2
  obtain ⟨⟨r0, r1, r2, r3, r4⟩, ⟨a0, a1, a2⟩, b0, b1, b2⟩ := HQ2.out.cells
  generalize fndI f 0 a = i at *
  by_cases hf0 : f = 0
  · subst hf0
    have HRA : Hid (rlA 3 0 a = true) := rfl
    rcases fnd_cases t b with ⟨hj, hj2⟩ | ⟨j, hjl, hj, hj2⟩
    · have HE := Lib.hid (HN2.out HRA.out (by simp [rlB, hj2]))
      rw [hj]
      clear hj hj2
      go_wp2
      go_ret
      exact ⟨by rw [HE.out] <;> rfl, HQ2.out.1⟩
    · rw [hj]
      have HRB : Hid (rlB 3 t b = true) := by show _ = _; simp [rlB, hj2]
      have HXB : Hid ((fndP t b).1 = spAt b j) := by show _ = _; rw [hj2]
      have HJL := Lib.hid hjl
      have hj63 : j < lb := by have := HLB.out; omega
      clear hj hj2 hjl
      by_cases hn0 : n = 0
      · subst hn0
        have HRC : Hid (rlC 3 ⟨#[]⟩ P = true) := by show _ = _; simp [rlC, noS, HLP.out]
        have HE4 := Lib.hid (HN4.out HRA.out HRB.out HRC.out)
        obtain ⟨bb, n2, c2, f2, lo2, hi2, rfl, hxb, hcb⟩ := spl_all HB.out HJL.out
        rw [HXB.out, hxb] at HE4
        have HCB := Lib.hid hcb
        have HW := Lib.hid (fun W => sprefValue_any n2 c2 f2 lo2 hi2 ⟨#[]⟩ W (Nat.zero_le _))
        have HE5 : Hid (∀ x, rlK 3 x (n2, c2, f2, lo2, hi2) ⟨#[]⟩ P = spv n2 c2 f2 lo2 hi2 ⟨#[]⟩) := fun _ => rfl
        generalize spv n2 c2 f2 lo2 hi2 ⟨#[]⟩ = r at *
        clear hcb hxb HA HB HXB
        go_wp2_with fail
        clear r0 r1 r2 r3 r4 a0 a1 a2 b0 b1 b2
        refine wp_region_noPanic ?_
        refine wp_region_held_drew (S := (RQ w 3 0 t ⟨#[]⟩ B 0 cP st v A la ca st' v' (some bb) lb cb)) (by kernel_rfl) (HQ2.out.drew) (fun hS => ?_)
        refine gv 0 (v := ?_) (fun u hu => ?_) hS ?_
        rotate_left
        · ((obtain ⟨⟨r0, r1, r2, r3, r4⟩, ⟨a0, a1, a2⟩, b0, b1, b2⟩ := hu.cells; obtain ⟨y0, y1, y2, y3, y4⟩ := HCB.out _ hu.1); go_simp; try (with_reducible rfl))
        try simp only [puts]
        refine gv 1 (v := ?_) (fun u hu => ?_) hS ?_
        rotate_left
        · ((obtain ⟨⟨r0, r1, r2, r3, r4⟩, ⟨a0, a1, a2⟩, b0, b1, b2⟩ := hu.cells; obtain ⟨y0, y1, y2, y3, y4⟩ := HCB.out _ hu.1); go_simp; try (with_reducible rfl))
        try simp only [puts]
        refine gv 2 (v := ?_) (fun u hu => ?_) hS ?_
        rotate_left
        · ((obtain ⟨⟨r0, r1, r2, r3, r4⟩, ⟨a0, a1, a2⟩, b0, b1, b2⟩ := hu.cells; obtain ⟨y0, y1, y2, y3, y4⟩ := HCB.out _ hu.1); go_simp; try (with_reducible rfl))
        try simp only [puts]
        refine gv 3 (v := ?_) (fun u hu => ?_) hS ?_
        rotate_left
        · ((obtain ⟨⟨r0, r1, r2, r3, r4⟩, ⟨a0, a1, a2⟩, b0, b1, b2⟩ := hu.cells; obtain ⟨y0, y1, y2, y3, y4⟩ := HCB.out _ hu.1); go_simp; try (with_reducible rfl))
        try simp only [puts]
        refine gv 4 (v := ?_) (fun u hu => ?_) hS ?_
        rotate_left
        · ((obtain ⟨⟨r0, r1, r2, r3, r4⟩, ⟨a0, a1, a2⟩, b0, b1, b2⟩ := hu.cells; obtain ⟨y0, y1, y2, y3, y4⟩ := HCB.out _ hu.1); go_simp; try (with_reducible rfl))
        try simp only [puts]
        refine gv 5 (v := ?_) (fun u hu => ?_) hS ?_
        rotate_left
        · ((obtain ⟨⟨r0, r1, r2, r3, r4⟩, ⟨a0, a1, a2⟩, b0, b1, b2⟩ := hu.cells; obtain ⟨y0, y1, y2, y3, y4⟩ := HCB.out _ hu.1); go_simp; try (with_reducible rfl))
        try simp only [puts]
        refine gv 6 (v := ?_) (fun u hu => ?_) hS ?_
        rotate_left
        · ((obtain ⟨⟨r0, r1, r2, r3, r4⟩, ⟨a0, a1, a2⟩, b0, b1, b2⟩ := hu.cells; obtain ⟨y0, y1, y2, y3, y4⟩ := HCB.out _ hu.1); go_simp; try (with_reducible rfl))
        try simp only [puts]
        refine only_call (i := 7) 41 #[.agg #[.int .i64 n2, .int .i64 c2, .int .i64 f2, .int .i64 lo2, .int .i64 hi2], .string ⟨#[]⟩] rfl (by kernel_rfl) (by rfl) ((HW.out _).mono fun e w' he => ⟨he.1, hS.below he.2⟩) ?_ ?_
        · (go_simp; try (with_reducible rfl))
        clear hS
        intro w7 hS
        try simp only [puts]
        refine gv 8 (v := ?_) (fun u hu => ?_) hS ?_
        rotate_left
        · ((obtain ⟨⟨r0, r1, r2, r3, r4⟩, ⟨a0, a1, a2⟩, b0, b1, b2⟩ := hu.cells; obtain ⟨y0, y1, y2, y3, y4⟩ := HCB.out _ hu.1); go_simp; try (with_reducible rfl))
        try simp only [puts]
        refine wpAnyH_done (by kernel_rfl) (NoPanic.normal ?_) _
        have HQ3 := Lib.hid hS
        clear hS
        go_wp2
        go_ret
        exact ⟨by rw [HE4.out, HE5.out] <;> rfl, HQ3.out.1⟩
      · have HE := Lib.hid (HN3.out HRA.out HRB.out (by simp [rlC, HLP.out, hn0]))
        have tn : 0 < n := by omega
        clear hn0
        go_wp2
        go_ret
        exact ⟨by rw [HE.out] <;> rfl, HQ2.out.1⟩
  · have HE := Lib.hid (HN1.out (by simp [rlA, hf0]))
    have tf : (f != 0) = true := by simpa using hf0
    generalize fndI t 0 b = j at *
    clear hf0
    go_wp2
    go_ret
    exact ⟨by rw [HE.out] <;> rfl, HQ2.out.1⟩
theorem rlref_3 (f t : Int) (s : ByteArray) (B : Option Addr) (cP : Nat) (P : List PairT) (st v : Int) (A : Option Addr) (ca : Nat) (a : List Sp) (st' v' : Int) (A' : Option Addr) (cb : Nat) (b : List Sp) (w : World) (hP : Prs w B P) (hA : Spl w A a) (hB : Spl w A' b) (hla : a.length ≤ 1000) (hlb : b.length ≤ 1000) (hlP : P.length ≤ maxLen) (hf : Fit2 P) (hs : s.size ≤ maxLen) : Calls Tryz.prog 30 #[.agg #[.int .i64 3, .int .i64 f, .int .i64 t, .string s, .slice B P.length cP], .agg #[.int .i64 st, .int .i64 v, .slice A a.length ca], .agg #[.int .i64 st', .int .i64 v', .slice A' b.length cb]] w fun e w' => e = .returned (.int .i64 (rulN 3 f t s P a b)) ∧ Below w.heap.size w w' := by
  by_cases h : s = ⟨#[]⟩
  · subst h
    exact rlref_3e f t B cP P st v A ca a st' v' A' cb b w hP hA hB hla hlb hlP hf
  · exact rlref_3s f t s B cP P st v A ca a st' v' A' cb b w hP hA hB hla hlb hlP hf hs (text_some h)
set_option maxRecDepth 100000 in
set_option maxHeartbeats 6400000 in
theorem rlref_4 (f t : Int) (s : ByteArray) (B : Option Addr) (cP : Nat) (P : List PairT) (st v : Int) (A : Option Addr) (ca : Nat) (a : List Sp) (st' v' : Int) (A' : Option Addr) (cb : Nat) (b : List Sp) (w : World) (hP : Prs w B P) (hA : Spl w A a) (hB : Spl w A' b) (hla : a.length ≤ 1000) (hlb : b.length ≤ 1000) (hlP : P.length ≤ maxLen) (_ : Fit2 P) (_ : s.size ≤ maxLen) : Calls Tryz.prog 30 #[.agg #[.int .i64 4, .int .i64 f, .int .i64 t, .string s, .slice B P.length cP], .agg #[.int .i64 st, .int .i64 v, .slice A a.length ca], .agg #[.int .i64 st', .int .i64 v', .slice A' b.length cb]] w fun e w' => e = .returned (.int .i64 (rulN 4 f t s P a b)) ∧ Below w.heap.size w w' := by
  have HI := Lib.hid (fun W h => sreffind_any st v A ca a f W h hla)
  have HJ := Lib.hid (fun W h => sreffind_any st' v' A' cb b t W h hlb)
  have HQ0 := Lib.hid (rq_new w 4 f t s B P.length cP st v A a.length ca st' v' A' b.length cb)
  have HA := Lib.hid hA
  have HB := Lib.hid hB
  have HP := Lib.hid hP
  have HF0 : Hid (∀ x, rulN 4 f t s P a b = x → rulN 4 f t s P a b = x) := fun _ h => h
  have hnk : ¬ ((4 : Int) < 1 ∨ 5 < (4 : Int)) := by omega
  have HN1 := Lib.hid (fun h => rulN_from (k := 4) (f := f) (t := t) (s := s) (P := P) (a := a) (b := b) hnk h)
  have HN2 := Lib.hid (fun h1 h2 => rulN_to (k := 4) (f := f) (t := t) (s := s) (P := P) (a := a) (b := b) hnk h1 h2)
  have HN3 := Lib.hid (fun h1 h2 h3 => rulN_form (k := 4) (f := f) (t := t) (s := s) (P := P) (a := a) (b := b) hnk h1 h2 h3)
  have HN4 := Lib.hid (fun h1 h2 h3 => rulN_kind (k := 4) (f := f) (t := t) (s := s) (P := P) (a := a) (b := b) hnk h1 h2 h3)
  clear hnk HF0 hP hA hB
  generalize hlenP : P.length = n at *
  generalize hlena : a.length = la at *
  generalize hlenb : b.length = lb at *
  have HLP := Lib.hid hlenP
  have HLA := Lib.hid hlena
  have HLB := Lib.hid hlenb
  clear hlenP hlena hlenb
  unfold maxLen at hlP
  go_enter Tryz.func30, Tryz.ntmps30
  go_wp2_with fail
  generalize ((w.alloc (.cells #[.int .i64 4, .int .i64 f, .int .i64 t, .string s, .slice B n cP] 58)).alloc (.cells #[.int .i64 st, .int .i64 v, .slice A la ca] 28)).alloc (.cells #[.int .i64 st', .int .i64 v', .slice A' lb cb] 28) = U at *
  refine (HI.out _ (HA.out.below HQ0.out.1)).mono ?_
  rintro e w1 ⟨rfl, hb1⟩
  have HQ1 := Lib.hid (HQ0.out.below hb1)
  clear hb1
  obtain ⟨⟨r0, r1, r2, r3, r4⟩, ⟨a0, a1, a2⟩, b0, b1, b2⟩ := HQ1.out.cells
  go_wp2_with fail
  refine (HJ.out _ (HB.out.below HQ1.out.1)).mono ?_
  rintro e w2 ⟨rfl, hb2⟩
  have HQ2 := Lib.hid (HQ1.out.below hb2)
  clear hb2 HI HJ HQ0 HQ1
  clear r0 r1 r2 r3 r4 a0 a1 a2 b0 b1 b2
  obtain ⟨⟨r0, r1, r2, r3, r4⟩, ⟨a0, a1, a2⟩, b0, b1, b2⟩ := HQ2.out.cells
  rcases fnd_cases f a with ⟨hi, hi2⟩ | ⟨i, hil, hi, hi2⟩
  · have HE := Lib.hid (HN1.out (by simp [rlA, hi2]))
    rw [hi]
    generalize fndI t 0 b = j at *
    clear hi hi2
    go_wp2
    go_ret
    exact ⟨by rw [HE.out] <;> rfl, HQ2.out.1⟩
  · rw [hi]
    have HRA : Hid (rlA 4 f a = true) := by show _ = _; simp [rlA, hi2]
    have HXA : Hid ((fndP f a).1 = spAt a i) := by show _ = _; rw [hi2]
    have HIL := Lib.hid hil
    have hi63 : i < la := by have := HLA.out; omega
    clear hi hi2 hil
    rcases fnd_cases t b with ⟨hj, hj2⟩ | ⟨j, hjl, hj, hj2⟩
    · have HE := Lib.hid (HN2.out HRA.out (by simp [rlB, hj2]))
      rw [hj]
      clear hj hj2
      go_wp2
      go_ret
      exact ⟨by rw [HE.out] <;> rfl, HQ2.out.1⟩
    · rw [hj]
      have HRB : Hid (rlB 4 t b = true) := by show _ = _; simp [rlB, hj2]
      have HXB : Hid ((fndP t b).1 = spAt b j) := by show _ = _; rw [hj2]
      have HJL := Lib.hid hjl
      have hj63 : j < lb := by have := HLB.out; omega
      clear hj hj2 hjl
      by_cases hs0 : s = ⟨#[]⟩
      · subst hs0
        by_cases hn0 : n = 0
        · subst hn0
          have HRC : Hid (rlC 4 ⟨#[]⟩ P = true) := by show _ = _; simp [rlC, noS, HLP.out]
          have HE4 := Lib.hid (HN4.out HRA.out HRB.out HRC.out)
          obtain ⟨aa, n1, c1, f1, lo1, hi1, rfl, hxa, hca⟩ := spl_all HA.out HIL.out
          obtain ⟨bb, n2, c2, f2, lo2, hi2, rfl, hxb, hcb⟩ := spl_all HB.out HJL.out
          rw [HXA.out, HXB.out, hxa, hxb] at HE4
          have HE5 : Hid (rlK 4 (n1, c1, f1, lo1, hi1) (n2, c2, f2, lo2, hi2) ⟨#[]⟩ P = if ((c1 == 1) && (f1 == 1)) && ((c2 == 1) && (f2 == 1)) then 0 else 6) := rfl
          have HV1 := Lib.hid (HQ2.out.below (below_al w2 (.cells #[.int .i64 n1, .int .i64 c1, .int .i64 f1, .int .i64 lo1, .int .i64 hi1] 84)))
          have HV2 := Lib.hid (HV1.out.below (below_al _ (.cells #[.int .i64 n2, .int .i64 c2, .int .i64 f2, .int .i64 lo2, .int .i64 hi2] 84)))
          obtain ⟨x0, x1, x2, x3, x4⟩ := hca _ HQ2.out.1
          obtain ⟨y0, y1, y2, y3, y4⟩ := hcb _ HV1.out.1
          obtain ⟨⟨s0, s1, s2, s3, s4⟩, ⟨p0, p1, p2⟩, q0, q1, q2⟩ := HV1.out.cells
          obtain ⟨z0, z1, z2, z3, z4⟩ := obj_cells5 (obj_below (heap_alloc_new w2 (.cells #[.int .i64 n1, .int .i64 c1, .int .i64 f1, .int .i64 lo1, .int .i64 hi1] 84)) (below_al _ (.cells #[.int .i64 n2, .int .i64 c2, .int .i64 f2, .int .i64 lo2, .int .i64 hi2] 84)))
          clear hca hcb hxa hxb HA HB HXA HXB
          have te : ∀ y : Int, (y == 1) = false → (y != 1) = true := fun y h => by simp [bne, h]
          by_cases k1 : c1 = 1
          · subst k1
            by_cases k2 : f1 = 1
            · subst k2
              by_cases k3 : c2 = 1
              · subst k3
                by_cases k4 : f2 = 1
                · subst k4
                  go_wp2
                  go_ret
                  exact ⟨by rw [HE4.out, HE5.out] <;> rfl, HV2.out.1⟩
                · have t1 : (f2 != 1) = true := by simpa using k4
                  have t0 : (f2 == 1) = false := by simpa using k4
                  clear k4 te
                  go_wp2
                  go_ret
                  exact ⟨by rw [HE4.out, HE5.out] <;> simp [t0], HV2.out.1⟩
              · have t1 : (c2 != 1) = true := by simpa using k3
                have t0 : (c2 == 1) = false := by simpa using k3
                clear k3 te
                go_wp2
                go_ret
                exact ⟨by rw [HE4.out, HE5.out] <;> simp [t0], HV2.out.1⟩
            · have t1 : (f1 != 1) = true := by simpa using k2
              have t0 : (f1 == 1) = false := by simpa using k2
              clear k2 te
              go_wp2
              go_ret
              exact ⟨by rw [HE4.out, HE5.out] <;> simp [t0], HV2.out.1⟩
          · have t1 : (c1 != 1) = true := by simpa using k1
            have HE6 : Hid ((((c1 == 1) && (f1 == 1)) && ((c2 == 1) && (f2 == 1))) = false) := by show _ = _; simp [k1]
            clear k1 te
            go_wp2
            go_ret
            exact ⟨by rw [HE4.out, HE5.out] <;> simp [HE6.out], HV2.out.1⟩
        · have HE := Lib.hid (HN3.out HRA.out HRB.out (by simp [rlC, HLP.out, hn0]))
          have tn : 0 < n := by omega
          clear hn0
          go_wp2
          go_ret
          exact ⟨by rw [HE.out] <;> rfl, HQ2.out.1⟩
      · have HE := Lib.hid (HN3.out HRA.out HRB.out (by simp [rlC, noS, hs0]))
        have ts : s.toList.isEmpty = false := text_some hs0
        clear hs0
        go_wp2
        go_ret
        exact ⟨by rw [HE.out] <;> rfl, HQ2.out.1⟩
set_option maxRecDepth 100000 in
set_option maxHeartbeats 6400000 in
theorem rlref_5 (f t : Int) (s : ByteArray) (B : Option Addr) (cP : Nat) (P : List PairT) (st v : Int) (A : Option Addr) (ca : Nat) (a : List Sp) (st' v' : Int) (A' : Option Addr) (cb : Nat) (b : List Sp) (w : World) (hP : Prs w B P) (hA : Spl w A a) (hB : Spl w A' b) (hla : a.length ≤ 1000) (hlb : b.length ≤ 1000) (hlP : P.length ≤ maxLen) (hf : Fit2 P) (_ : s.size ≤ maxLen) : Calls Tryz.prog 30 #[.agg #[.int .i64 5, .int .i64 f, .int .i64 t, .string s, .slice B P.length cP], .agg #[.int .i64 st, .int .i64 v, .slice A a.length ca], .agg #[.int .i64 st', .int .i64 v', .slice A' b.length cb]] w fun e w' => e = .returned (.int .i64 (rulN 5 f t s P a b)) ∧ Below w.heap.size w w' := by
  have HI := Lib.hid (fun W h => sreffind_any st v A ca a f W h hla)
  have HJ := Lib.hid (fun W h => sreffind_any st' v' A' cb b t W h hlb)
  have HQ0 := Lib.hid (rq_new w 5 f t s B P.length cP st v A a.length ca st' v' A' b.length cb)
  have HA := Lib.hid hA
  have HB := Lib.hid hB
  have HP := Lib.hid hP
  have HT := Lib.hid (fun W h => crcheck_any B cP P W h hlP)
  have HF := Lib.hid hf
  have HTZ := Lib.hid (@tab_zero P)
  have HF0 : Hid (∀ x, rulN 5 f t s P a b = x → rulN 5 f t s P a b = x) := fun _ h => h
  have hnk : ¬ ((5 : Int) < 1 ∨ 5 < (5 : Int)) := by omega
  have HN1 := Lib.hid (fun h => rulN_from (k := 5) (f := f) (t := t) (s := s) (P := P) (a := a) (b := b) hnk h)
  have HN2 := Lib.hid (fun h1 h2 => rulN_to (k := 5) (f := f) (t := t) (s := s) (P := P) (a := a) (b := b) hnk h1 h2)
  have HN3 := Lib.hid (fun h1 h2 h3 => rulN_form (k := 5) (f := f) (t := t) (s := s) (P := P) (a := a) (b := b) hnk h1 h2 h3)
  have HN4 := Lib.hid (fun h1 h2 h3 => rulN_kind (k := 5) (f := f) (t := t) (s := s) (P := P) (a := a) (b := b) hnk h1 h2 h3)
  clear hnk HF0 hP hA hB hf
  generalize hlenP : P.length = n at *
  generalize hlena : a.length = la at *
  generalize hlenb : b.length = lb at *
  have HLP := Lib.hid hlenP
  have HLA := Lib.hid hlena
  have HLB := Lib.hid hlenb
  clear hlenP hlena hlenb
  unfold maxLen at hlP
  go_enter Tryz.func30, Tryz.ntmps30
  go_wp2_with fail
  generalize ((w.alloc (.cells #[.int .i64 5, .int .i64 f, .int .i64 t, .string s, .slice B n cP] 58)).alloc (.cells #[.int .i64 st, .int .i64 v, .slice A la ca] 28)).alloc (.cells #[.int .i64 st', .int .i64 v', .slice A' lb cb] 28) = U at *
  refine (HI.out _ (HA.out.below HQ0.out.1)).mono ?_
  rintro e w1 ⟨rfl, hb1⟩
  have HQ1 := Lib.hid (HQ0.out.below hb1)
  clear hb1
  obtain ⟨⟨r0, r1, r2, r3, r4⟩, ⟨a0, a1, a2⟩, b0, b1, b2⟩ := HQ1.out.cells
  go_wp2_with fail
  refine (HJ.out _ (HB.out.below HQ1.out.1)).mono ?_
  rintro e w2 ⟨rfl, hb2⟩
  have HQ2 := Lib.hid (HQ1.out.below hb2)
  clear hb2 HI HJ HQ0 HQ1
  clear r0 r1 r2 r3 r4 a0 a1 a2 b0 b1 b2
  obtain ⟨⟨r0, r1, r2, r3, r4⟩, ⟨a0, a1, a2⟩, b0, b1, b2⟩ := HQ2.out.cells
  rcases fnd_cases f a with ⟨hi, hi2⟩ | ⟨i, hil, hi, hi2⟩
  · have HE := Lib.hid (HN1.out (by simp [rlA, hi2]))
    rw [hi]
    generalize fndI t 0 b = j at *
    clear hi hi2
    go_wp2
    go_ret
    exact ⟨by rw [HE.out] <;> rfl, HQ2.out.1⟩
  · rw [hi]
    have HRA : Hid (rlA 5 f a = true) := by show _ = _; simp [rlA, hi2]
    have HXA : Hid ((fndP f a).1 = spAt a i) := by show _ = _; rw [hi2]
    have HIL := Lib.hid hil
    have hi63 : i < la := by have := HLA.out; omega
    clear hi hi2 hil
    rcases fnd_cases t b with ⟨hj, hj2⟩ | ⟨j, hjl, hj, hj2⟩
    · have HE := Lib.hid (HN2.out HRA.out (by simp [rlB, hj2]))
      rw [hj]
      clear hj hj2
      go_wp2
      go_ret
      exact ⟨by rw [HE.out] <;> rfl, HQ2.out.1⟩
    · rw [hj]
      have HRB : Hid (rlB 5 t b = true) := by show _ = _; simp [rlB, hj2]
      have HXB : Hid ((fndP t b).1 = spAt b j) := by show _ = _; rw [hj2]
      have HJL := Lib.hid hjl
      have hj63 : j < lb := by have := HLB.out; omega
      clear hj hj2 hjl
      by_cases hs0 : s = ⟨#[]⟩
      · subst hs0
        have HRC : Hid (rlC 5 ⟨#[]⟩ P = true) := by show _ = _; simp [rlC, noS]
        have HE4 := Lib.hid (HN4.out HRA.out HRB.out HRC.out)
        by_cases hn0 : n = 0
        · subst hn0
          have hPn : P = [] := List.eq_nil_of_length_eq_zero HLP.out
          have HE6 : Hid ((tabN P).1 ≠ 0 ∨ P = []) := Or.inr hPn
          have HT0 : Hid (tabN P = (0, 0)) := by show _ = _; rw [hPn]; rfl
          rw [HT0.out] at HT
          clear hPn
          have HE5 : Hid (∀ x y, rlK 5 x y ⟨#[]⟩ P = 15) := fun x y => if_pos HE6.out
          go_wp2_with fail
          refine (HT.out _ (HP.out.below HQ2.out.1)).mono ?_
          rintro e w3 ⟨rfl, rfl⟩
          go_wp2
          go_ret
          exact ⟨by rw [HE4.out, HE5.out] <;> rfl, HQ2.out.1⟩
        · have tn : 0 < n := by omega
          clear hn0
          obtain ⟨aa, n1, c1, f1, lo1, hi1, rfl, hxa, hca⟩ := spl_all HA.out HIL.out
          obtain ⟨bb, n2, c2, f2, lo2, hi2, rfl, hxb, hcb⟩ := spl_all HB.out HJL.out
          rw [HXA.out, HXB.out, hxa, hxb] at HE4
          have HCA := Lib.hid hca
          have HCB := Lib.hid hcb
          have HW := Lib.hid (fun s W h => sprefValue_any n1 c1 f1 lo1 hi1 s W h)
          have HW2 := Lib.hid (fun s W h => sprefValue_any n2 c2 f2 lo2 hi2 s W h)
          have HE5 : Hid (rlK 5 (n1, c1, f1, lo1, hi1) (n2, c2, f2, lo2, hi2) ⟨#[]⟩ P = if (tabN P).1 ≠ 0 ∨ P = [] then 15 else rlT (n1, c1, f1, lo1, hi1) (n2, c2, f2, lo2, hi2) P) := rfl
          clear hca hcb hxa hxb HA HB HXA HXB
          go_wp2_with fail
          refine (HT.out _ (HP.out.below HQ2.out.1)).mono ?_
          rintro e w3 ⟨rfl, rfl⟩
          have tn2 : ((n : Int) == 0) = false := by simp; omega
          by_cases hz : (tabN P).1 = 0
          · have hn256 : n ≤ 256 := (HTZ.out.1 hz).1
            rw [hz]
            generalize (tabN P).2 = y at *
            have HE6 : Hid (¬ ((tabN P).1 ≠ 0 ∨ P = [])) := by
              rintro (h | h)
              · exact h hz
              · rw [h] at HLP; have := HLP.out; simp at this; omega
            rw [if_neg HE6.out] at HE5
            clear hz HE6
            generalize hR : rlT (n1, c1, f1, lo1, hi1) (n2, c2, f2, lo2, hi2) P = R at *
            have HR0 := Lib.hid hR
            clear hR
            go_wp2
            clear r0 r1 r2 r3 r4 a0 a1 a2 b0 b1 b2
            go_loopw [13] (fun i wr => ∃ q : Nat, q ≤ n ∧ i = .int .i64 (q : Int) ∧ RQ w 5 f t ⟨#[]⟩ B n cP st v (some aa) la ca st' v' (some bb) lb cb wr ∧ rlT (n1, c1, f1, lo1, hi1) (n2, c2, f2, lo2, hi2) (P.drop q) = R) (fun i _ => n - (intOf i).toNat)
            case atStart => exact ⟨0, Nat.zero_le _, rfl, HQ2.out, HR0.out⟩
            case round =>
              obtain ⟨q, hq, rfl, hQ, hrest⟩ := hrel
              have HQ3 := Lib.hid hQ
              have HR := Lib.hid hrest
              clear hQ hrest
              obtain ⟨⟨r0, r1, r2, r3, r4⟩, ⟨a0, a1, a2⟩, b0, b1, b2⟩ := HQ3.out.cells
              by_cases hlt : q < n
              · have hql : q < P.length := by have := HLP.out; omega
                obtain ⟨pa, x, y', rfl, hxp, hcp⟩ := prs_all HP.out hql
                have HCP := Lib.hid hcp
                have hfz := HF.out.at_ hql
                rw [hxp] at hfz
                have HZ := Lib.hid hfz
                have HD := Lib.hid (drop_duo hql)
                rw [hxp] at HD
                have HX1 := Lib.hid (fun W => HW.out x W HZ.out.1)
                have HX2 := Lib.hid (fun W => HW2.out y' W HZ.out.2)
                have HV1 := Lib.hid (@rlT_from (n1, c1, f1, lo1, hi1) (n2, c2, f2, lo2, hi2) (x, y') (P.drop (q + 1)))
                have HV2 := Lib.hid (@rlT_to (n1, c1, f1, lo1, hi1) (n2, c2, f2, lo2, hi2) (x, y') (P.drop (q + 1)))
                have HV3 := Lib.hid (@rlT_next (n1, c1, f1, lo1, hi1) (n2, c2, f2, lo2, hi2) (x, y') (P.drop (q + 1)))
                unfold rlV at HV1 HV2 HV3
                dsimp only at HV1 HV2 HV3
                generalize spv n1 c1 f1 lo1 hi1 x = e1 at *
                generalize spv n2 c2 f2 lo2 hi2 y' = e2 at *
                clear hxp hcp hfz hql
                go_wp2_with fail
                clear r0 r1 r2 r3 r4 a0 a1 a2 b0 b1 b2
                refine wp_region_noPanic ?_
                refine wp_region_held_drew (S := (RQ w 5 f t ⟨#[]⟩ (some pa) n cP st v (some aa) la ca st' v' (some bb) lb cb)) (by kernel_rfl) (HQ3.out.drew) (fun hS => ?_)
                refine gv 0 (v := ?_) (fun u hu => ?_) hS ?_
                rotate_left
                · ((obtain ⟨⟨r0, r1, r2, r3, r4⟩, ⟨a0, a1, a2⟩, b0, b1, b2⟩ := hu.cells; obtain ⟨x0, x1, x2, x3, x4⟩ := HCA.out _ hu.1; obtain ⟨z0, z1⟩ := HCP.out _ hu.1); go_simp; try (with_reducible rfl))
                try simp only [puts]
                refine gv 1 (v := ?_) (fun u hu => ?_) hS ?_
                rotate_left
                · ((obtain ⟨⟨r0, r1, r2, r3, r4⟩, ⟨a0, a1, a2⟩, b0, b1, b2⟩ := hu.cells; obtain ⟨x0, x1, x2, x3, x4⟩ := HCA.out _ hu.1; obtain ⟨z0, z1⟩ := HCP.out _ hu.1); go_simp; try (with_reducible rfl))
                try simp only [puts]
                refine gv 2 (v := ?_) (fun u hu => ?_) hS ?_
                rotate_left
                · ((obtain ⟨⟨r0, r1, r2, r3, r4⟩, ⟨a0, a1, a2⟩, b0, b1, b2⟩ := hu.cells; obtain ⟨x0, x1, x2, x3, x4⟩ := HCA.out _ hu.1; obtain ⟨z0, z1⟩ := HCP.out _ hu.1); go_simp; try (with_reducible rfl))
                try simp only [puts]
                refine gv 3 (v := ?_) (fun u hu => ?_) hS ?_
                rotate_left
                · ((obtain ⟨⟨r0, r1, r2, r3, r4⟩, ⟨a0, a1, a2⟩, b0, b1, b2⟩ := hu.cells; obtain ⟨x0, x1, x2, x3, x4⟩ := HCA.out _ hu.1; obtain ⟨z0, z1⟩ := HCP.out _ hu.1); go_simp; try (with_reducible rfl))
                try simp only [puts]
                refine gv 4 (v := ?_) (fun u hu => ?_) hS ?_
                rotate_left
                · ((obtain ⟨⟨r0, r1, r2, r3, r4⟩, ⟨a0, a1, a2⟩, b0, b1, b2⟩ := hu.cells; obtain ⟨x0, x1, x2, x3, x4⟩ := HCA.out _ hu.1; obtain ⟨z0, z1⟩ := HCP.out _ hu.1); go_simp; try (with_reducible rfl))
                try simp only [puts]
                refine gv 5 (v := ?_) (fun u hu => ?_) hS ?_
                rotate_left
                · ((obtain ⟨⟨r0, r1, r2, r3, r4⟩, ⟨a0, a1, a2⟩, b0, b1, b2⟩ := hu.cells; obtain ⟨x0, x1, x2, x3, x4⟩ := HCA.out _ hu.1; obtain ⟨z0, z1⟩ := HCP.out _ hu.1); go_simp; try (with_reducible rfl))
                try simp only [puts]
                refine gv 6 (v := ?_) (fun u hu => ?_) hS ?_
                rotate_left
                · ((obtain ⟨⟨r0, r1, r2, r3, r4⟩, ⟨a0, a1, a2⟩, b0, b1, b2⟩ := hu.cells; obtain ⟨x0, x1, x2, x3, x4⟩ := HCA.out _ hu.1; obtain ⟨z0, z1⟩ := HCP.out _ hu.1); go_simp; try (with_reducible rfl))
                try simp only [puts]
                refine gv 7 (v := ?_) (fun u hu => ?_) hS ?_
                rotate_left
                · ((obtain ⟨⟨r0, r1, r2, r3, r4⟩, ⟨a0, a1, a2⟩, b0, b1, b2⟩ := hu.cells; obtain ⟨x0, x1, x2, x3, x4⟩ := HCA.out _ hu.1; obtain ⟨z0, z1⟩ := HCP.out _ hu.1); go_simp; try (with_reducible rfl))
                try simp only [puts]
                refine gv 8 (v := ?_) (fun u hu => ?_) hS ?_
                rotate_left
                · ((obtain ⟨⟨r0, r1, r2, r3, r4⟩, ⟨a0, a1, a2⟩, b0, b1, b2⟩ := hu.cells; obtain ⟨x0, x1, x2, x3, x4⟩ := HCA.out _ hu.1; obtain ⟨z0, z1⟩ := HCP.out _ hu.1); go_simp; try (with_reducible rfl))
                try simp only [puts]
                refine gv 9 (v := ?_) (fun u hu => ?_) hS ?_
                rotate_left
                · ((obtain ⟨⟨r0, r1, r2, r3, r4⟩, ⟨a0, a1, a2⟩, b0, b1, b2⟩ := hu.cells; obtain ⟨x0, x1, x2, x3, x4⟩ := HCA.out _ hu.1; obtain ⟨z0, z1⟩ := HCP.out _ hu.1); go_simp; try (with_reducible rfl))
                try simp only [puts]
                refine gv 10 (v := ?_) (fun u hu => ?_) hS ?_
                rotate_left
                · ((obtain ⟨⟨r0, r1, r2, r3, r4⟩, ⟨a0, a1, a2⟩, b0, b1, b2⟩ := hu.cells; obtain ⟨x0, x1, x2, x3, x4⟩ := HCA.out _ hu.1; obtain ⟨z0, z1⟩ := HCP.out _ hu.1); go_simp; try (with_reducible rfl))
                try simp only [puts]
                refine only_call (i := 11) 41 #[.agg #[.int .i64 n1, .int .i64 c1, .int .i64 f1, .int .i64 lo1, .int .i64 hi1], .string x] rfl (by kernel_rfl) (by rfl) ((HX1.out _).mono fun e w' he => ⟨he.1, hS.below he.2⟩) ?_ ?_
                · (go_simp; try (with_reducible rfl))
                clear hS
                intro w11 hS
                try simp only [puts]
                refine gv 12 (v := ?_) (fun u hu => ?_) hS ?_
                rotate_left
                · ((obtain ⟨⟨r0, r1, r2, r3, r4⟩, ⟨a0, a1, a2⟩, b0, b1, b2⟩ := hu.cells; obtain ⟨x0, x1, x2, x3, x4⟩ := HCA.out _ hu.1; obtain ⟨z0, z1⟩ := HCP.out _ hu.1); go_simp; try (with_reducible rfl))
                try simp only [puts]
                refine wpAnyH_done (by kernel_rfl) (NoPanic.normal ?_) _
                have HQ4 := Lib.hid hS
                clear hS
                by_cases he1 : e1 = 0
                · subst he1
                  go_wp2_with fail
                  refine wp_region_noPanic ?_
                  refine wp_region_held_drew (S := (RQ w 5 f t ⟨#[]⟩ (some pa) n cP st v (some aa) la ca st' v' (some bb) lb cb)) (by kernel_rfl) (HQ4.out.drew) (fun hS => ?_)
                  refine gv 0 (v := ?_) (fun u hu => ?_) hS ?_
                  rotate_left
                  · ((obtain ⟨⟨r0, r1, r2, r3, r4⟩, ⟨a0, a1, a2⟩, b0, b1, b2⟩ := hu.cells; obtain ⟨x0, x1, x2, x3, x4⟩ := HCB.out _ hu.1; obtain ⟨z0, z1⟩ := HCP.out _ hu.1); go_simp; try (with_reducible rfl))
                  try simp only [puts]
                  refine gv 1 (v := ?_) (fun u hu => ?_) hS ?_
                  rotate_left
                  · ((obtain ⟨⟨r0, r1, r2, r3, r4⟩, ⟨a0, a1, a2⟩, b0, b1, b2⟩ := hu.cells; obtain ⟨x0, x1, x2, x3, x4⟩ := HCB.out _ hu.1; obtain ⟨z0, z1⟩ := HCP.out _ hu.1); go_simp; try (with_reducible rfl))
                  try simp only [puts]
                  refine gv 2 (v := ?_) (fun u hu => ?_) hS ?_
                  rotate_left
                  · ((obtain ⟨⟨r0, r1, r2, r3, r4⟩, ⟨a0, a1, a2⟩, b0, b1, b2⟩ := hu.cells; obtain ⟨x0, x1, x2, x3, x4⟩ := HCB.out _ hu.1; obtain ⟨z0, z1⟩ := HCP.out _ hu.1); go_simp; try (with_reducible rfl))
                  try simp only [puts]
                  refine gv 3 (v := ?_) (fun u hu => ?_) hS ?_
                  rotate_left
                  · ((obtain ⟨⟨r0, r1, r2, r3, r4⟩, ⟨a0, a1, a2⟩, b0, b1, b2⟩ := hu.cells; obtain ⟨x0, x1, x2, x3, x4⟩ := HCB.out _ hu.1; obtain ⟨z0, z1⟩ := HCP.out _ hu.1); go_simp; try (with_reducible rfl))
                  try simp only [puts]
                  refine gv 4 (v := ?_) (fun u hu => ?_) hS ?_
                  rotate_left
                  · ((obtain ⟨⟨r0, r1, r2, r3, r4⟩, ⟨a0, a1, a2⟩, b0, b1, b2⟩ := hu.cells; obtain ⟨x0, x1, x2, x3, x4⟩ := HCB.out _ hu.1; obtain ⟨z0, z1⟩ := HCP.out _ hu.1); go_simp; try (with_reducible rfl))
                  try simp only [puts]
                  refine gv 5 (v := ?_) (fun u hu => ?_) hS ?_
                  rotate_left
                  · ((obtain ⟨⟨r0, r1, r2, r3, r4⟩, ⟨a0, a1, a2⟩, b0, b1, b2⟩ := hu.cells; obtain ⟨x0, x1, x2, x3, x4⟩ := HCB.out _ hu.1; obtain ⟨z0, z1⟩ := HCP.out _ hu.1); go_simp; try (with_reducible rfl))
                  try simp only [puts]
                  refine gv 6 (v := ?_) (fun u hu => ?_) hS ?_
                  rotate_left
                  · ((obtain ⟨⟨r0, r1, r2, r3, r4⟩, ⟨a0, a1, a2⟩, b0, b1, b2⟩ := hu.cells; obtain ⟨x0, x1, x2, x3, x4⟩ := HCB.out _ hu.1; obtain ⟨z0, z1⟩ := HCP.out _ hu.1); go_simp; try (with_reducible rfl))
                  try simp only [puts]
                  refine gv 7 (v := ?_) (fun u hu => ?_) hS ?_
                  rotate_left
                  · ((obtain ⟨⟨r0, r1, r2, r3, r4⟩, ⟨a0, a1, a2⟩, b0, b1, b2⟩ := hu.cells; obtain ⟨x0, x1, x2, x3, x4⟩ := HCB.out _ hu.1; obtain ⟨z0, z1⟩ := HCP.out _ hu.1); go_simp; try (with_reducible rfl))
                  try simp only [puts]
                  refine gv 8 (v := ?_) (fun u hu => ?_) hS ?_
                  rotate_left
                  · ((obtain ⟨⟨r0, r1, r2, r3, r4⟩, ⟨a0, a1, a2⟩, b0, b1, b2⟩ := hu.cells; obtain ⟨x0, x1, x2, x3, x4⟩ := HCB.out _ hu.1; obtain ⟨z0, z1⟩ := HCP.out _ hu.1); go_simp; try (with_reducible rfl))
                  try simp only [puts]
                  refine gv 9 (v := ?_) (fun u hu => ?_) hS ?_
                  rotate_left
                  · ((obtain ⟨⟨r0, r1, r2, r3, r4⟩, ⟨a0, a1, a2⟩, b0, b1, b2⟩ := hu.cells; obtain ⟨x0, x1, x2, x3, x4⟩ := HCB.out _ hu.1; obtain ⟨z0, z1⟩ := HCP.out _ hu.1); go_simp; try (with_reducible rfl))
                  try simp only [puts]
                  refine gv 10 (v := ?_) (fun u hu => ?_) hS ?_
                  rotate_left
                  · ((obtain ⟨⟨r0, r1, r2, r3, r4⟩, ⟨a0, a1, a2⟩, b0, b1, b2⟩ := hu.cells; obtain ⟨x0, x1, x2, x3, x4⟩ := HCB.out _ hu.1; obtain ⟨z0, z1⟩ := HCP.out _ hu.1); go_simp; try (with_reducible rfl))
                  try simp only [puts]
                  refine only_call (i := 11) 41 #[.agg #[.int .i64 n2, .int .i64 c2, .int .i64 f2, .int .i64 lo2, .int .i64 hi2], .string y'] rfl (by kernel_rfl) (by rfl) ((HX2.out _).mono fun e w' he => ⟨he.1, hS.below he.2⟩) ?_ ?_
                  · (go_simp; try (with_reducible rfl))
                  clear hS
                  intro w11 hS
                  try simp only [puts]
                  refine gv 12 (v := ?_) (fun u hu => ?_) hS ?_
                  rotate_left
                  · ((obtain ⟨⟨r0, r1, r2, r3, r4⟩, ⟨a0, a1, a2⟩, b0, b1, b2⟩ := hu.cells; obtain ⟨x0, x1, x2, x3, x4⟩ := HCB.out _ hu.1; obtain ⟨z0, z1⟩ := HCP.out _ hu.1); go_simp; try (with_reducible rfl))
                  try simp only [puts]
                  refine wpAnyH_done (by kernel_rfl) (NoPanic.normal ?_) _
                  have HQ5 := Lib.hid hS
                  clear hS
                  by_cases he2 : e2 = 0
                  · subst he2
                    have HY := Lib.hid (HV3.out trivial rfl)
                    go_wp2
                    go_roundw
                    case rel => exact ⟨q + 1, by omega, by go_num, HQ5.out, by rw [← HR.out, HD.out, HY.out]⟩
                    case measure => simp [intOf]; omega
                  · have HY := Lib.hid (HV2.out trivial he2)
                    have te : (e2 != 0) = true := by simpa using he2
                    clear he2
                    go_wp2
                    go_ret
                    exact ⟨by rw [HE4.out, HE5.out, ← HR.out, HD.out, HY.out] <;> rfl, HQ5.out.1⟩
                · have HY := Lib.hid (HV1.out he1)
                  have te : (e1 != 0) = true := by simpa using he1
                  clear he1
                  go_wp2
                  go_ret
                  exact ⟨by rw [HE4.out, HE5.out, ← HR.out, HD.out, HY.out] <;> rfl, HQ4.out.1⟩
              · have HY : Hid (P.drop q = []) := List.drop_eq_nil_of_le (by have := HLP.out; omega)
                go_wp2
                go_ret
                exact ⟨by rw [HE4.out, HE5.out, ← HR.out, HY.out] <;> rfl, HQ3.out.1⟩
          · have HE6 : Hid ((tabN P).1 ≠ 0 ∨ P = []) := Or.inl hz
            have tz : (((tabN P).1 : Int) != 0) = true := by simp; omega
            generalize (tabN P).1 = x at *
            generalize (tabN P).2 = y at *
            clear hz
            go_wp2
            go_ret
            exact ⟨by rw [HE4.out, HE5.out, if_pos HE6.out] <;> rfl, HQ2.out.1⟩
      · have HE := Lib.hid (HN3.out HRA.out HRB.out (by simp [rlC, noS, hs0]))
        have ts : s.toList.isEmpty = false := text_some hs0
        clear hs0
        go_wp2
        go_ret
        exact ⟨by rw [HE.out] <;> rfl, HQ2.out.1⟩
theorem rlref_any (k : Int) (f t : Int) (s : ByteArray) (B : Option Addr) (cP : Nat) (P : List PairT) (st v : Int) (A : Option Addr) (ca : Nat) (a : List Sp) (st' v' : Int) (A' : Option Addr) (cb : Nat) (b : List Sp) (w : World) (hP : Prs w B P) (hA : Spl w A a) (hB : Spl w A' b) (hla : a.length ≤ 1000) (hlb : b.length ≤ 1000) (hlP : P.length ≤ maxLen) (hf : Fit2 P) (hs : s.size ≤ maxLen) : Calls Tryz.prog 30 #[.agg #[.int .i64 k, .int .i64 f, .int .i64 t, .string s, .slice B P.length cP], .agg #[.int .i64 st, .int .i64 v, .slice A a.length ca], .agg #[.int .i64 st', .int .i64 v', .slice A' b.length cb]] w fun e w' => e = .returned (.int .i64 (rulN k f t s P a b)) ∧ Below w.heap.size w w' := by
  by_cases hk : k < 1 ∨ 5 < k
  · rw [rulN_arg hk]
    rcases hk with h | h
    · exact rlref_low k f t s B _ cP st v A _ ca st' v' A' _ cb w h
    · exact rlref_high k f t s B _ cP st v A _ ca st' v' A' _ cb w h
  · rcases kind_cases hk with rfl | rfl | rfl | rfl | rfl
    · exact rlref_1 f t s B cP P st v A ca a st' v' A' cb b w hP hA hB hla hlb hlP hf hs
    · exact rlref_2 f t s B cP P st v A ca a st' v' A' cb b w hP hA hB hla hlb hlP hf hs
    · exact rlref_3 f t s B cP P st v A ca a st' v' A' cb b w hP hA hB hla hlb hlP hf hs
    · exact rlref_4 f t s B cP P st v A ca a st' v' A' cb b w hP hA hB hla hlb hlP hf hs
    · exact rlref_5 f t s B cP P st v A ca a st' v' A' cb b w hP hA hB hla hlb hlP hf hs

end Go.Proofs.YthheflgfbdcnlaaGreatDoor
