/-
  RuleChecks: for every input, in every world that holds the table of kinds, where the program's Check and Apply answer as they are to.
-/
import Derived.Test.YtkbpinjcenfjlaaDoorRulAwk
import Derived.Test.YtkbpinjcenfjlaaDoorRulRef
import Derived.Test.YtkbpinjcenfjlaaDoorRulApp
import Derived.Test.YtkbpinjcenfjlaaDoorRulCopy
import Derived.Test.YtkbpinjcenfjlaaDoorPackBase
import Derived.Deep.DeepCutAuto
namespace Go.Proofs.YtkbpinjcenfjlaaDoor
open Go.RowKit

set_option maxRecDepth 100000 in
set_option maxHeartbeats 6400000 in
theorem rlc_great (hchk : RChk) (happ : RApp) (k f t : Int) (s : ByteArray) (B : Option Addr) (cP : Nat) (P : List PairT) (st v : Int) (A : Option Addr) (ca : Nat) (a : List Sp) (st' v' : Int) (A' : Option Addr) (cb : Nat) (b : List Sp) (w : World) (hK : Kinds w) (hP : Prs w B P) (_ : Spl w A a) (_ : Spl w A' b) (hmP : P.length ≤ maxLen) (_ : a.length ≤ maxLen) (_ : b.length ≤ maxLen) (hf : Fit2 P) (hs : s.size ≤ maxLen) (hg : rgreatB s P = true) : Calls Tryd.prog 3 #[.agg #[.int .i64 k, .int .i64 f, .int .i64 t, .string s, .slice B P.length cP], .agg #[.int .i64 st, .int .i64 v, .slice A a.length ca], .agg #[.int .i64 st', .int .i64 v', .slice A' b.length cb]] w fun e w' => e = .returned (.bool true) ∧ Below w.heap.size w w' := by
  have HK := Lib.hid hK
  have HP := Lib.hid hP
  have HG := Lib.hid (fun W h => rgreat_any k f t s B cP P W h hs hmP hf)
  have HQ0 := Lib.hid (rq_new w k f t s B P.length cP st v A a.length ca st' v' A' b.length cb)
  rw [hg] at HG
  clear hg hf hs hmP
  clear hK hP
  generalize P.length = n at *
  generalize a.length = la at *
  generalize b.length = lb at *
  go_enter Tryd.func3, Tryd.ntmps3
  go_wp2_with fail
  generalize ((w.alloc (.cells #[.int .i64 k, .int .i64 f, .int .i64 t, .string s, .slice B n cP] 24)).alloc (.cells #[.int .i64 st, .int .i64 v, .slice A la ca] 27)).alloc (.cells #[.int .i64 st', .int .i64 v', .slice A' lb cb] 27) = U at *
  refine (rawake_any hchk happ _ (HK.out.below HQ0.out.1)).mono ?_
  rintro e w1 ⟨rfl, hb1⟩
  have HQ1 := Lib.hid (HQ0.out.below hb1)
  clear hb1 HQ0
  obtain ⟨⟨r0, r1, r2, r3, r4⟩, ⟨a0, a1, a2⟩, b0, b1, b2⟩ := HQ1.out.cells
  go_wp2_with fail
  clear r0 r1 r2 r3 r4 a0 a1 a2 b0 b1 b2
  refine (HG.out _ (HP.out.below HQ1.out.1)).mono ?_
  rintro e w2 ⟨rfl, hb2⟩
  have HQ2 := Lib.hid (HQ1.out.below hb2)
  clear hb2 HQ1
  obtain ⟨⟨r0, r1, r2, r3, r4⟩, ⟨a0, a1, a2⟩, b0, b1, b2⟩ := HQ2.out.cells
  go_wp2_with fail
  refine (rawake_any hchk happ _ (HK.out.below HQ2.out.1)).mono ?_
  rintro e w3 ⟨rfl, hb3⟩
  have HQ3 := Lib.hid (HQ2.out.below hb3)
  clear hb3
  go_wp2
  go_ret
  exact ⟨rfl, HQ3.out.1⟩
set_option maxRecDepth 100000 in
set_option maxHeartbeats 6400000 in
theorem rlc_a (hchk : RChk) (happ : RApp) (k f t : Int) (s : ByteArray) (B : Option Addr) (cP : Nat) (P : List PairT) (st v : Int) (A : Option Addr) (ca : Nat) (a : List Sp) (st' v' : Int) (A' : Option Addr) (cb : Nat) (b : List Sp) (w : World) (hK : Kinds w) (hP : Prs w B P) (_ : Spl w A a) (_ : Spl w A' b) (hmP : P.length ≤ maxLen) (hma : a.length ≤ maxLen) (_ : b.length ≤ maxLen) (hf : Fit2 P) (hs : s.size ≤ maxLen) (hg : rgreatB s P = false) (h1 : 200 < a.length) : Calls Tryd.prog 3 #[.agg #[.int .i64 k, .int .i64 f, .int .i64 t, .string s, .slice B P.length cP], .agg #[.int .i64 st, .int .i64 v, .slice A a.length ca], .agg #[.int .i64 st', .int .i64 v', .slice A' b.length cb]] w fun e w' => e = .returned (.bool true) ∧ Below w.heap.size w w' := by
  have HK := Lib.hid hK
  have HP := Lib.hid hP
  have HG := Lib.hid (fun W h => rgreat_any k f t s B cP P W h hs hmP hf)
  have HQ0 := Lib.hid (rq_new w k f t s B P.length cP st v A a.length ca st' v' A' b.length cb)
  rw [hg] at HG
  clear hg hf hs hmP
  clear hK hP
  generalize P.length = n at *
  generalize a.length = la at *
  generalize b.length = lb at *
  unfold maxLen at hma
  go_enter Tryd.func3, Tryd.ntmps3
  go_wp2_with fail
  generalize ((w.alloc (.cells #[.int .i64 k, .int .i64 f, .int .i64 t, .string s, .slice B n cP] 24)).alloc (.cells #[.int .i64 st, .int .i64 v, .slice A la ca] 27)).alloc (.cells #[.int .i64 st', .int .i64 v', .slice A' lb cb] 27) = U at *
  refine (rawake_any hchk happ _ (HK.out.below HQ0.out.1)).mono ?_
  rintro e w1 ⟨rfl, hb1⟩
  have HQ1 := Lib.hid (HQ0.out.below hb1)
  clear hb1 HQ0
  obtain ⟨⟨r0, r1, r2, r3, r4⟩, ⟨a0, a1, a2⟩, b0, b1, b2⟩ := HQ1.out.cells
  go_wp2_with fail
  clear r0 r1 r2 r3 r4 a0 a1 a2 b0 b1 b2
  refine (HG.out _ (HP.out.below HQ1.out.1)).mono ?_
  rintro e w2 ⟨rfl, hb2⟩
  have HQ2 := Lib.hid (HQ1.out.below hb2)
  clear hb2 HQ1
  obtain ⟨⟨r0, r1, r2, r3, r4⟩, ⟨a0, a1, a2⟩, b0, b1, b2⟩ := HQ2.out.cells
  go_wp2_with fail
  refine (rawake_any hchk happ _ (HK.out.below HQ2.out.1)).mono ?_
  rintro e w3 ⟨rfl, hb3⟩
  have HQ3 := Lib.hid (HQ2.out.below hb3)
  clear hb3
  go_wp2
  go_ret
  exact ⟨rfl, HQ3.out.1⟩
set_option maxRecDepth 100000 in
set_option maxHeartbeats 6400000 in
theorem rlc_b (hchk : RChk) (happ : RApp) (k f t : Int) (s : ByteArray) (B : Option Addr) (cP : Nat) (P : List PairT) (st v : Int) (A : Option Addr) (ca : Nat) (a : List Sp) (st' v' : Int) (A' : Option Addr) (cb : Nat) (b : List Sp) (w : World) (hK : Kinds w) (hP : Prs w B P) (_ : Spl w A a) (_ : Spl w A' b) (hmP : P.length ≤ maxLen) (hma : a.length ≤ maxLen) (hmb : b.length ≤ maxLen) (hf : Fit2 P) (hs : s.size ≤ maxLen) (hg : rgreatB s P = false) (h1 : a.length ≤ 200) (h2 : 200 < b.length) : Calls Tryd.prog 3 #[.agg #[.int .i64 k, .int .i64 f, .int .i64 t, .string s, .slice B P.length cP], .agg #[.int .i64 st, .int .i64 v, .slice A a.length ca], .agg #[.int .i64 st', .int .i64 v', .slice A' b.length cb]] w fun e w' => e = .returned (.bool true) ∧ Below w.heap.size w w' := by
  have HK := Lib.hid hK
  have HP := Lib.hid hP
  have HG := Lib.hid (fun W h => rgreat_any k f t s B cP P W h hs hmP hf)
  have HQ0 := Lib.hid (rq_new w k f t s B P.length cP st v A a.length ca st' v' A' b.length cb)
  rw [hg] at HG
  clear hg hf hs hmP
  clear hK hP
  generalize P.length = n at *
  generalize a.length = la at *
  generalize b.length = lb at *
  unfold maxLen at hma hmb
  go_enter Tryd.func3, Tryd.ntmps3
  go_wp2_with fail
  generalize ((w.alloc (.cells #[.int .i64 k, .int .i64 f, .int .i64 t, .string s, .slice B n cP] 24)).alloc (.cells #[.int .i64 st, .int .i64 v, .slice A la ca] 27)).alloc (.cells #[.int .i64 st', .int .i64 v', .slice A' lb cb] 27) = U at *
  refine (rawake_any hchk happ _ (HK.out.below HQ0.out.1)).mono ?_
  rintro e w1 ⟨rfl, hb1⟩
  have HQ1 := Lib.hid (HQ0.out.below hb1)
  clear hb1 HQ0
  obtain ⟨⟨r0, r1, r2, r3, r4⟩, ⟨a0, a1, a2⟩, b0, b1, b2⟩ := HQ1.out.cells
  go_wp2_with fail
  clear r0 r1 r2 r3 r4 a0 a1 a2 b0 b1 b2
  refine (HG.out _ (HP.out.below HQ1.out.1)).mono ?_
  rintro e w2 ⟨rfl, hb2⟩
  have HQ2 := Lib.hid (HQ1.out.below hb2)
  clear hb2 HQ1
  obtain ⟨⟨r0, r1, r2, r3, r4⟩, ⟨a0, a1, a2⟩, b0, b1, b2⟩ := HQ2.out.cells
  go_wp2_with fail
  refine (rawake_any hchk happ _ (HK.out.below HQ2.out.1)).mono ?_
  rintro e w3 ⟨rfl, hb3⟩
  have HQ3 := Lib.hid (HQ2.out.below hb3)
  clear hb3
  go_wp2
  go_ret
  exact ⟨rfl, HQ3.out.1⟩
set_option maxRecDepth 100000 in
set_option maxHeartbeats 6400000 in
theorem rlc_main (hchk : RChk) (happ : RApp) (k f t : Int) (s : ByteArray) (B : Option Addr) (cP : Nat) (P : List PairT) (st v : Int) (A : Option Addr) (ca : Nat) (a : List Sp) (st' v' : Int) (A' : Option Addr) (cb : Nat) (b : List Sp) (w : World) (hK : Kinds w) (hP : Prs w B P) (hA : Spl w A a) (hB : Spl w A' b) (hmP : P.length ≤ maxLen) (hma : a.length ≤ maxLen) (hmb : b.length ≤ maxLen) (hf : Fit2 P) (hs : s.size ≤ maxLen) (hg : rgreatB s P = false) (h1 : a.length ≤ 200) (h2 : b.length ≤ 200) : Calls Tryd.prog 3 #[.agg #[.int .i64 k, .int .i64 f, .int .i64 t, .string s, .slice B P.length cP], .agg #[.int .i64 st, .int .i64 v, .slice A a.length ca], .agg #[.int .i64 st', .int .i64 v', .slice A' b.length cb]] w fun e w' => e = .returned (.bool true) ∧ Below w.heap.size w w' := by
  have HK := Lib.hid hK
  have HP := Lib.hid hP
  have HG := Lib.hid (fun W h => rgreat_any k f t s B cP P W h hs hmP hf)
  have HQ0 := Lib.hid (rq_new w k f t s B P.length cP st v A a.length ca st' v' A' b.length cb)
  have hl3 := (rgreat_in hg).2
  rw [hg] at HG
  have HA := Lib.hid hA
  have HB := Lib.hid hB
  have HCR : Hid (∀ W, Prs W B P → Calls Tryd.prog 10 #[.agg #[.int .i64 k, .int .i64 f, .int .i64 t, .string s, .slice B P.length cP]] W fun e w' => ∃ x, e = .returned x ∧ ∃ B' c', x = .agg #[.int .i64 k, .int .i64 f, .int .i64 t, .string s, .slice B' P.length c'] ∧ Prs w' B' P ∧ Below W.heap.size W w') := fun W h => (rcopy_any k f t s B cP P W h (by omega)).mono fun e w' ⟨B', c', h1, h2, h3⟩ => ⟨_, h1, B', c', rfl, h2, h3⟩
  have HCA : Hid (∀ W, Spl W A a → Calls Tryd.prog 11 #[.agg #[.int .i64 st, .int .i64 v, .slice A a.length ca]] W fun e w' => ∃ x, e = .returned x ∧ ∃ B' c', x = .agg #[.int .i64 st, .int .i64 v, .slice B' a.length c'] ∧ Spl w' B' a ∧ Below W.heap.size W w') := fun W h => (scopy_any st v A ca a W h (by omega)).mono fun e w' ⟨B', c', h1, h2, h3⟩ => ⟨_, h1, B', c', rfl, h2, h3⟩
  have HCB : Hid (∀ W, Spl W A' b → Calls Tryd.prog 11 #[.agg #[.int .i64 st', .int .i64 v', .slice A' b.length cb]] W fun e w' => ∃ x, e = .returned x ∧ ∃ B' c', x = .agg #[.int .i64 st', .int .i64 v', .slice B' b.length c'] ∧ Spl w' B' b ∧ Below W.heap.size W w') := fun W h => (scopy_any st' v' A' cb b W h (by omega)).mono fun e w' ⟨B', c', h1, h2, h3⟩ => ⟨_, h1, B', c', rfl, h2, h3⟩
  have HCK := Lib.hid (fun B' c' A2 c2 A3 c3 W h1 h2 h3 h4 => hchk k f t s B' c' P st v A2 c2 a st' v' A3 c3 b W h1 h2 h3 h4 (by omega) (by omega) (by omega) hf hs)
  have HCF := Lib.hid (fun W h2 h3 h4 => rlref_any k f t s B cP P st v A ca a st' v' A' cb b W h2 h3 h4 (by omega) (by omega) hmP hf hs)
  generalize rulN k f t s P a b = z at *
  clear hg hf hs hmP hA hB hl3
  clear hK hP
  generalize P.length = n at *
  generalize a.length = la at *
  generalize b.length = lb at *
  unfold maxLen at hma hmb
  go_enter Tryd.func3, Tryd.ntmps3
  go_wp2_with fail
  generalize ((w.alloc (.cells #[.int .i64 k, .int .i64 f, .int .i64 t, .string s, .slice B n cP] 24)).alloc (.cells #[.int .i64 st, .int .i64 v, .slice A la ca] 27)).alloc (.cells #[.int .i64 st', .int .i64 v', .slice A' lb cb] 27) = U at *
  refine (rawake_any hchk happ _ (HK.out.below HQ0.out.1)).mono ?_
  rintro e w1 ⟨rfl, hb1⟩
  have HQ1 := Lib.hid (HQ0.out.below hb1)
  clear hb1 HQ0
  obtain ⟨⟨r0, r1, r2, r3, r4⟩, ⟨a0, a1, a2⟩, b0, b1, b2⟩ := HQ1.out.cells
  go_wp2_with fail
  clear r0 r1 r2 r3 r4 a0 a1 a2 b0 b1 b2
  refine (HG.out _ (HP.out.below HQ1.out.1)).mono ?_
  rintro e w2 ⟨rfl, hb2⟩
  have HQ2 := Lib.hid (HQ1.out.below hb2)
  clear hb2 HQ1
  obtain ⟨⟨r0, r1, r2, r3, r4⟩, ⟨a0, a1, a2⟩, b0, b1, b2⟩ := HQ2.out.cells
  go_wp2_with fail
  clear r0 r1 r2 r3 r4 a0 a1 a2 b0 b1 b2
  refine wp_region_noPanic ?_
  refine wp_region_held_drew (S := (RQ w k f t s B n cP st v A la ca st' v' A' lb cb)) (by kernel_rfl) (HQ2.out.drew) (fun hS => ?_)
  refine give_val (i := 0) (v := ?_) rfl (by kernel_rfl) (by kernel_rfl) (by kernel_rfl) (fun _ _ _ h => h) (by rfl) (fun u hu => ?_) hS ?_
  rotate_left
  · ((obtain ⟨⟨r0, r1, r2, r3, r4⟩, ⟨a0, a1, a2⟩, b0, b1, b2⟩ := hu.cells); go_simp; try (with_reducible rfl))
  try simp only [Act.put, List.setIfInBounds_toArray, List.set_cons_zero, List.set_cons_succ]
  refine give_val (i := 2) (v := ?_) rfl (by kernel_rfl) (by kernel_rfl) (by kernel_rfl) (fun _ _ _ h => h) (by rfl) (fun u hu => ?_) hS ?_
  rotate_left
  · ((obtain ⟨⟨r0, r1, r2, r3, r4⟩, ⟨a0, a1, a2⟩, b0, b1, b2⟩ := hu.cells); go_simp; try (with_reducible rfl))
  try simp only [Act.put, List.setIfInBounds_toArray, List.set_cons_zero, List.set_cons_succ]
  refine give_val (i := 4) (v := ?_) rfl (by kernel_rfl) (by kernel_rfl) (by kernel_rfl) (fun _ _ _ h => h) (by rfl) (fun u hu => ?_) hS ?_
  rotate_left
  · ((obtain ⟨⟨r0, r1, r2, r3, r4⟩, ⟨a0, a1, a2⟩, b0, b1, b2⟩ := hu.cells); go_simp; try (with_reducible rfl))
  try simp only [Act.put, List.setIfInBounds_toArray, List.set_cons_zero, List.set_cons_succ]
  refine give_val (i := 7) (v := ?_) rfl (by kernel_rfl) (by kernel_rfl) (by kernel_rfl) (fun _ _ _ h => h) (by rfl) (fun u hu => ?_) hS ?_
  rotate_left
  · ((obtain ⟨⟨r0, r1, r2, r3, r4⟩, ⟨a0, a1, a2⟩, b0, b1, b2⟩ := hu.cells); go_simp; try (with_reducible rfl))
  try simp only [Act.put, List.setIfInBounds_toArray, List.set_cons_zero, List.set_cons_succ]
  refine give_val (i := 8) (v := ?_) rfl (by kernel_rfl) (by kernel_rfl) (by kernel_rfl) (fun _ _ _ h => h) (by rfl) (fun u hu => ?_) hS ?_
  rotate_left
  · ((obtain ⟨⟨r0, r1, r2, r3, r4⟩, ⟨a0, a1, a2⟩, b0, b1, b2⟩ := hu.cells); go_simp; try (with_reducible rfl))
  try simp only [Act.put, List.setIfInBounds_toArray, List.set_cons_zero, List.set_cons_succ]
  refine give_val (i := 9) (v := ?_) rfl (by kernel_rfl) (by kernel_rfl) (by kernel_rfl) (fun _ _ _ h => h) (by rfl) (fun u hu => ?_) hS ?_
  rotate_left
  · ((obtain ⟨⟨r0, r1, r2, r3, r4⟩, ⟨a0, a1, a2⟩, b0, b1, b2⟩ := hu.cells); go_simp; try (with_reducible rfl))
  try simp only [Act.put, List.setIfInBounds_toArray, List.set_cons_zero, List.set_cons_succ]
  refine wpAnyH_ready (rs := [1]) (by kernel_rfl) (by simp) (arm_some (i := 1) 10 #[.agg #[.int .i64 k, .int .i64 f, .int .i64 t, .string s, .slice B n cP]] rfl (by rfl) (HCR.out _ (HP.out.below hS.1)) ?_ ?_ AllReadyH.nil)
  · (go_simp; try (with_reducible rfl))
  · intro v1 u' hT
    obtain ⟨A1, c1, rfl, ht1, hb⟩ := hT
    have hS' : (RQ w k f t s B n cP st v A la ca st' v' A' lb cb) u' := hS.below hb
    refine ⟨hS', ?_⟩
    clear hS hb
    have hS := hS'; clear hS'
    rename World => u
    try simp only [Act.put, List.setIfInBounds_toArray, List.set_cons_zero, List.set_cons_succ]
    refine wpAnyH_ready (rs := [3]) (by kernel_rfl) (by simp) (arm_some (i := 3) 11 #[.agg #[.int .i64 st, .int .i64 v, .slice A la ca]] rfl (by rfl) (HCA.out _ (HA.out.below hS.1)) ?_ ?_ AllReadyH.nil)
    · (go_simp; try (with_reducible rfl))
    · intro v3 u' hT
      obtain ⟨A3, c3, rfl, ht3, hb⟩ := hT
      have hS' : (RQ w k f t s B n cP st v A la ca st' v' A' lb cb) u' := hS.below hb
      refine ⟨hS', ?_⟩
      replace ht1 := ht1.below hb
      clear hS hb
      have hS := hS'; clear hS'
      rename World => u
      try simp only [Act.put, List.setIfInBounds_toArray, List.set_cons_zero, List.set_cons_succ]
      refine wpAnyH_ready (rs := [5]) (by kernel_rfl) (by simp) (arm_some (i := 5) 11 #[.agg #[.int .i64 st', .int .i64 v', .slice A' lb cb]] rfl (by rfl) (HCB.out _ (HB.out.below hS.1)) ?_ ?_ AllReadyH.nil)
      · (go_simp; try (with_reducible rfl))
      · intro v5 u' hT
        obtain ⟨A5, c5, rfl, ht5, hb⟩ := hT
        have hS' : (RQ w k f t s B n cP st v A la ca st' v' A' lb cb) u' := hS.below hb
        refine ⟨hS', ?_⟩
        replace ht1 := ht1.below hb
        replace ht3 := ht3.below hb
        clear hS hb
        have hS := hS'; clear hS'
        rename World => u
        try simp only [Act.put, List.setIfInBounds_toArray, List.set_cons_zero, List.set_cons_succ]
        refine wpAnyH_ready (rs := [6]) (by kernel_rfl) (by simp) (arm_call (i := 6) 9 #[.agg #[.int .i64 k, .int .i64 f, .int .i64 t, .string s, .slice A1 n c1], .agg #[.int .i64 st, .int .i64 v, .slice A3 la c3], .agg #[.int .i64 st', .int .i64 v', .slice A5 lb c5]] rfl (by rfl) (HCK.out _ _ _ _ _ _ _ (HK.out.below hS.1) ht1 ht3 ht5) ?_ ?_ AllReadyH.nil)
        · (go_simp; try (with_reducible rfl))
        · intro u' hb
          have hS' : (RQ w k f t s B n cP st v A la ca st' v' A' lb cb) u' := hS.below hb
          refine ⟨hS', ?_⟩
          replace ht1 := ht1.below hb
          replace ht3 := ht3.below hb
          replace ht5 := ht5.below hb
          clear hS hb
          have hS := hS'; clear hS'
          rename World => u
          try simp only [Act.put, List.setIfInBounds_toArray, List.set_cons_zero, List.set_cons_succ]
          refine wpAnyH_ready (rs := [10]) (by kernel_rfl) (by simp) (arm_call (i := 10) 12 #[.agg #[.int .i64 k, .int .i64 f, .int .i64 t, .string s, .slice B n cP], .agg #[.int .i64 st, .int .i64 v, .slice A la ca], .agg #[.int .i64 st', .int .i64 v', .slice A' lb cb]] rfl (by rfl) (HCF.out _ (HP.out.below hS.1) (HA.out.below hS.1) (HB.out.below hS.1)) ?_ ?_ AllReadyH.nil)
          · (go_simp; try (with_reducible rfl))
          · intro u' hb
            have hS' : (RQ w k f t s B n cP st v A la ca st' v' A' lb cb) u' := hS.below hb
            refine ⟨hS', ?_⟩
            replace ht1 := ht1.below hb
            replace ht3 := ht3.below hb
            replace ht5 := ht5.below hb
            clear hS hb
            have hS := hS'; clear hS'
            rename World => u
            try simp only [Act.put, List.setIfInBounds_toArray, List.set_cons_zero, List.set_cons_succ]
            refine give_val (i := 11) (v := ?_) rfl (by kernel_rfl) (by kernel_rfl) (by kernel_rfl) (fun _ _ _ h => h) (by rfl) (fun u hu => ?_) hS ?_
            rotate_left
            · ((obtain ⟨⟨r0, r1, r2, r3, r4⟩, ⟨a0, a1, a2⟩, b0, b1, b2⟩ := hu.cells); go_simp; try (with_reducible rfl))
            try simp only [Act.put, List.setIfInBounds_toArray, List.set_cons_zero, List.set_cons_succ]
            refine give_val (i := 12) (v := ?_) rfl (by kernel_rfl) (by kernel_rfl) (by kernel_rfl) (fun _ _ _ h => h) (by rfl) (fun u hu => ?_) hS ?_
            rotate_left
            · ((obtain ⟨⟨r0, r1, r2, r3, r4⟩, ⟨a0, a1, a2⟩, b0, b1, b2⟩ := hu.cells); go_simp; try (with_reducible rfl))
            try simp only [Act.put, List.setIfInBounds_toArray, List.set_cons_zero, List.set_cons_succ]
            refine wpAnyH_done (by kernel_rfl) (NoPanic.normal ?_) _
            have HQ3 := Lib.hid hS
            clear hS
            go_wp2
            go_ret
            exact ⟨by simp, HQ3.out.1⟩
theorem ruleChecks_walk (hchk : RChk) (happ : RApp) (k f t : Int) (s : ByteArray) (B : Option Addr) (cP : Nat) (P : List PairT) (st v : Int) (A : Option Addr) (ca : Nat) (a : List Sp) (st' v' : Int) (A' : Option Addr) (cb : Nat) (b : List Sp) (w : World) (hK : Kinds w) (hP : Prs w B P) (hA : Spl w A a) (hB : Spl w A' b) (hmP : P.length ≤ maxLen) (hma : a.length ≤ maxLen) (hmb : b.length ≤ maxLen) (hf : Fit2 P) (hs : s.size ≤ maxLen) : Calls Tryd.prog 3 #[.agg #[.int .i64 k, .int .i64 f, .int .i64 t, .string s, .slice B P.length cP], .agg #[.int .i64 st, .int .i64 v, .slice A a.length ca], .agg #[.int .i64 st', .int .i64 v', .slice A' b.length cb]] w fun e w' => e = .returned (.bool true) ∧ Below w.heap.size w w' := by
  cases hg : rgreatB s P
  · by_cases h1 : 200 < a.length
    · exact rlc_a hchk happ k f t s B cP P st v A ca a st' v' A' cb b w hK hP hA hB hmP hma hmb hf hs hg h1
    · by_cases h2 : 200 < b.length
      · exact rlc_b hchk happ k f t s B cP P st v A ca a st' v' A' cb b w hK hP hA hB hmP hma hmb hf hs hg (by omega) h2
      · exact rlc_main hchk happ k f t s B cP P st v A ca a st' v' A' cb b w hK hP hA hB hmP hma hmb hf hs hg (by omega) (by omega)
  · exact rlc_great hchk happ k f t s B cP P st v A ca a st' v' A' cb b w hK hP hA hB hmP hma hmb hf hs hg

end Go.Proofs.YtkbpinjcenfjlaaDoor
