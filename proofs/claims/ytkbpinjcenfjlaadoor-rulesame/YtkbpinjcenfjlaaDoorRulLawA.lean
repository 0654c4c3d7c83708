/-
  RuleApply: for every input, in every world that holds the table of kinds, where the program's Check and Apply answer as they are to.
-/
import Derived.Test.YtkbpinjcenfjlaaDoorRulAwk
import Derived.Test.YtkbpinjcenfjlaaDoorRulApp
import Derived.Test.YtkbpinjcenfjlaaDoorRulCopy
import Derived.Test.YtkbpinjcenfjlaaDoorPackBase
import Derived.Deep.DeepCutAuto
namespace Go.Proofs.YtkbpinjcenfjlaaDoor
open Go.RowKit

/-- A rule and a schema in the first blocks of a call. -/
def R2 (w : World) (k f t : Int) (s : ByteArray) (B : Option Addr) (n c : Nat) (st v : Int) (A : Option Addr) (la ca : Nat) (u : World) : Prop :=
  Below w.heap.size w u ∧ RBox u w.heap.size k f t s B n c ∧ Box u (w.heap.size + 1) st v A la ca
theorem R2.below {w : World} {k f t : Int} {s : ByteArray} {B : Option Addr} {n c : Nat} {st v : Int} {A : Option Addr} {la ca : Nat} {u u' : World} (h : R2 w k f t s B n c st v A la ca u) (hb : Below u.heap.size u u') : R2 w k f t s B n c st v A la ca u' :=
  ⟨hbt h.1 hb, h.2.1.below hb, h.2.2.below hb⟩
theorem r2_new (w : World) (k f t : Int) (s : ByteArray) (B : Option Addr) (n c : Nat) (st v : Int) (A : Option Addr) (la ca : Nat) :
    R2 w k f t s B n c st v A la ca ((w.alloc (.cells #[.int .i64 k, .int .i64 f, .int .i64 t, .string s, .slice B n c] 24)).alloc (.cells #[.int .i64 st, .int .i64 v, .slice A la ca] 27)) :=
  ⟨hbt (below_al _ _) (below_al _ _), obj_below (heap_alloc_new _ _) (below_al _ _), heap_al _ _ _ (by simp)⟩
theorem R2.cells {w : World} {k f t : Int} {s : ByteArray} {B : Option Addr} {n c : Nat} {st v : Int} {A : Option Addr} {la ca : Nat} {u : World} (h : R2 w k f t s B n c st v A la ca u) :
    (u.cell? ⟨w.heap.size, 0, none⟩ = some (.int .i64 k) ∧ u.cell? ⟨w.heap.size, 1, none⟩ = some (.int .i64 f) ∧ u.cell? ⟨w.heap.size, 2, none⟩ = some (.int .i64 t) ∧ u.cell? ⟨w.heap.size, 3, none⟩ = some (.string s) ∧ u.cell? ⟨w.heap.size, 4, none⟩ = some (.slice B n c)) ∧
    u.cell? ⟨w.heap.size + 1, 0, none⟩ = some (.int .i64 st) ∧ u.cell? ⟨w.heap.size + 1, 1, none⟩ = some (.int .i64 v) ∧ u.cell? ⟨w.heap.size + 1, 2, none⟩ = some (.slice A la ca) := ⟨obj_cells5 h.2.1, obj_cells3 h.2.2⟩

set_option maxRecDepth 100000 in
set_option maxHeartbeats 6400000 in
theorem rla_great (hchk : RChk) (happ : RApp) (k f t : Int) (s : ByteArray) (B : Option Addr) (cP : Nat) (P : List PairT) (st v : Int) (A : Option Addr) (ca : Nat) (b : List Sp) (x : ByteArray) (w : World) (hK : Kinds w) (hP : Prs w B P) (_ : Spl w A b) (hmP : P.length ≤ maxLen) (_ : b.length ≤ maxLen) (hf : Fit2 P) (hs : s.size ≤ maxLen) (_ : x.size ≤ maxLen) (hg : rgreatB s P = true) : Calls Tryd.prog 4 #[.agg #[.int .i64 k, .int .i64 f, .int .i64 t, .string s, .slice B P.length cP], .agg #[.int .i64 st, .int .i64 v, .slice A b.length ca], .string x] w fun e w' => e = .returned (.bool true) ∧ Below w.heap.size w w' := by
  have HK := Lib.hid hK
  have HP := Lib.hid hP
  have HG := Lib.hid (fun W h => rgreat_any k f t s B cP P W h hs hmP hf)
  have HQ0 := Lib.hid (r2_new w k f t s B P.length cP st v A b.length ca)
  rw [hg] at HG
  clear hg hf hs hmP
  clear hK hP
  generalize P.length = n at *
  generalize b.length = lb at *
  go_enter Tryd.func4, Tryd.ntmps4
  go_wp2_with fail
  generalize (w.alloc (.cells #[.int .i64 k, .int .i64 f, .int .i64 t, .string s, .slice B n cP] 24)).alloc (.cells #[.int .i64 st, .int .i64 v, .slice A lb ca] 27) = U at *
  refine (rawake_any hchk happ _ (HK.out.below HQ0.out.1)).mono ?_
  rintro e w1 ⟨rfl, hb1⟩
  have HQ1 := Lib.hid (HQ0.out.below hb1)
  clear hb1 HQ0
  obtain ⟨⟨r0, r1, r2, r3, r4⟩, a0, a1, a2⟩ := HQ1.out.cells
  go_wp2_with fail
  clear r0 r1 r2 r3 r4 a0 a1 a2
  refine (HG.out _ (HP.out.below HQ1.out.1)).mono ?_
  rintro e w2 ⟨rfl, hb2⟩
  have HQ2 := Lib.hid (HQ1.out.below hb2)
  clear hb2 HQ1
  obtain ⟨⟨r0, r1, r2, r3, r4⟩, a0, a1, a2⟩ := HQ2.out.cells
  go_wp2_with fail
  refine (rawake_any hchk happ _ (HK.out.below HQ2.out.1)).mono ?_
  rintro e w3 ⟨rfl, hb3⟩
  have HQ3 := Lib.hid (HQ2.out.below hb3)
  clear hb3
  go_wp2
  go_ret
  exact ⟨rfl, HQ3.out.1⟩
set_option maxRecDepth 100000 in
set_option maxHeartbeats 6400000 in
theorem rla_b (hchk : RChk) (happ : RApp) (k f t : Int) (s : ByteArray) (B : Option Addr) (cP : Nat) (P : List PairT) (st v : Int) (A : Option Addr) (ca : Nat) (b : List Sp) (x : ByteArray) (w : World) (hK : Kinds w) (hP : Prs w B P) (_ : Spl w A b) (hmP : P.length ≤ maxLen) (hmb : b.length ≤ maxLen) (hf : Fit2 P) (hs : s.size ≤ maxLen) (_ : x.size ≤ maxLen) (hg : rgreatB s P = false) (h2 : 200 < b.length) : Calls Tryd.prog 4 #[.agg #[.int .i64 k, .int .i64 f, .int .i64 t, .string s, .slice B P.length cP], .agg #[.int .i64 st, .int .i64 v, .slice A b.length ca], .string x] w fun e w' => e = .returned (.bool true) ∧ Below w.heap.size w w' := by
  have HK := Lib.hid hK
  have HP := Lib.hid hP
  have HG := Lib.hid (fun W h => rgreat_any k f t s B cP P W h hs hmP hf)
  have HQ0 := Lib.hid (r2_new w k f t s B P.length cP st v A b.length ca)
  rw [hg] at HG
  clear hg hf hs hmP
  clear hK hP
  generalize P.length = n at *
  generalize b.length = lb at *
  unfold maxLen at hmb
  go_enter Tryd.func4, Tryd.ntmps4
  go_wp2_with fail
  generalize (w.alloc (.cells #[.int .i64 k, .int .i64 f, .int .i64 t, .string s, .slice B n cP] 24)).alloc (.cells #[.int .i64 st, .int .i64 v, .slice A lb ca] 27) = U at *
  refine (rawake_any hchk happ _ (HK.out.below HQ0.out.1)).mono ?_
  rintro e w1 ⟨rfl, hb1⟩
  have HQ1 := Lib.hid (HQ0.out.below hb1)
  clear hb1 HQ0
  obtain ⟨⟨r0, r1, r2, r3, r4⟩, a0, a1, a2⟩ := HQ1.out.cells
  go_wp2_with fail
  clear r0 r1 r2 r3 r4 a0 a1 a2
  refine (HG.out _ (HP.out.below HQ1.out.1)).mono ?_
  rintro e w2 ⟨rfl, hb2⟩
  have HQ2 := Lib.hid (HQ1.out.below hb2)
  clear hb2 HQ1
  obtain ⟨⟨r0, r1, r2, r3, r4⟩, a0, a1, a2⟩ := HQ2.out.cells
  go_wp2_with fail
  refine (rawake_any hchk happ _ (HK.out.below HQ2.out.1)).mono ?_
  rintro e w3 ⟨rfl, hb3⟩
  have HQ3 := Lib.hid (HQ2.out.below hb3)
  clear hb3
  go_wp2
  go_ret
  exact ⟨rfl, HQ3.out.1⟩
set_option maxRecDepth 100000 in
set_option maxHeartbeats 6400000 in
theorem rla_x (hchk : RChk) (happ : RApp) (k f t : Int) (s : ByteArray) (B : Option Addr) (cP : Nat) (P : List PairT) (st v : Int) (A : Option Addr) (ca : Nat) (b : List Sp) (x : ByteArray) (w : World) (hK : Kinds w) (hP : Prs w B P) (_ : Spl w A b) (hmP : P.length ≤ maxLen) (_ : b.length ≤ maxLen) (hf : Fit2 P) (hs : s.size ≤ maxLen) (hx : x.size ≤ maxLen) (hg : rgreatB s P = false) (h2 : b.length ≤ 200) (h3 : 1200 < x.size) : Calls Tryd.prog 4 #[.agg #[.int .i64 k, .int .i64 f, .int .i64 t, .string s, .slice B P.length cP], .agg #[.int .i64 st, .int .i64 v, .slice A b.length ca], .string x] w fun e w' => e = .returned (.bool true) ∧ Below w.heap.size w w' := by
  have HK := Lib.hid hK
  have HP := Lib.hid hP
  have HG := Lib.hid (fun W h => rgreat_any k f t s B cP P W h hs hmP hf)
  have HQ0 := Lib.hid (r2_new w k f t s B P.length cP st v A b.length ca)
  rw [hg] at HG
  clear hg hf hs hmP
  unfold maxLen at hx
  clear hK hP
  generalize P.length = n at *
  generalize b.length = lb at *
  go_enter Tryd.func4, Tryd.ntmps4
  go_wp2_with fail
  generalize (w.alloc (.cells #[.int .i64 k, .int .i64 f, .int .i64 t, .string s, .slice B n cP] 24)).alloc (.cells #[.int .i64 st, .int .i64 v, .slice A lb ca] 27) = U at *
  refine (rawake_any hchk happ _ (HK.out.below HQ0.out.1)).mono ?_
  rintro e w1 ⟨rfl, hb1⟩
  have HQ1 := Lib.hid (HQ0.out.below hb1)
  clear hb1 HQ0
  obtain ⟨⟨r0, r1, r2, r3, r4⟩, a0, a1, a2⟩ := HQ1.out.cells
  go_wp2_with fail
  clear r0 r1 r2 r3 r4 a0 a1 a2
  refine (HG.out _ (HP.out.below HQ1.out.1)).mono ?_
  rintro e w2 ⟨rfl, hb2⟩
  have HQ2 := Lib.hid (HQ1.out.below hb2)
  clear hb2 HQ1
  obtain ⟨⟨r0, r1, r2, r3, r4⟩, a0, a1, a2⟩ := HQ2.out.cells
  go_wp2_with fail
  refine (rawake_any hchk happ _ (HK.out.below HQ2.out.1)).mono ?_
  rintro e w3 ⟨rfl, hb3⟩
  have HQ3 := Lib.hid (HQ2.out.below hb3)
  clear hb3
  go_wp2
  go_ret
  exact ⟨rfl, HQ3.out.1⟩
set_option maxRecDepth 100000 in
set_option maxHeartbeats 6400000 in
theorem rla_main (hchk : RChk) (happ : RApp) (k f t : Int) (s : ByteArray) (B : Option Addr) (cP : Nat) (P : List PairT) (st v : Int) (A : Option Addr) (ca : Nat) (b : List Sp) (x : ByteArray) (w : World) (hK : Kinds w) (hP : Prs w B P) (hA : Spl w A b) (hmP : P.length ≤ maxLen) (_ : b.length ≤ maxLen) (hf : Fit2 P) (hs : s.size ≤ maxLen) (hx : x.size ≤ maxLen) (hg : rgreatB s P = false) (h2 : b.length ≤ 200) (h3 : x.size ≤ 1200) : Calls Tryd.prog 4 #[.agg #[.int .i64 k, .int .i64 f, .int .i64 t, .string s, .slice B P.length cP], .agg #[.int .i64 st, .int .i64 v, .slice A b.length ca], .string x] w fun e w' => e = .returned (.bool true) ∧ Below w.heap.size w w' := by
  have HK := Lib.hid hK
  have HP := Lib.hid hP
  have HG := Lib.hid (fun W h => rgreat_any k f t s B cP P W h hs hmP hf)
  have HQ0 := Lib.hid (r2_new w k f t s B P.length cP st v A b.length ca)
  have hl3 := (rgreat_in hg).2
  rw [hg] at HG
  have HA := Lib.hid hA
  have HCR : Hid (∀ W, Prs W B P → Calls Tryd.prog 10 #[.agg #[.int .i64 k, .int .i64 f, .int .i64 t, .string s, .slice B P.length cP]] W fun e w' => ∃ x, e = .returned x ∧ ∃ B' c', x = .agg #[.int .i64 k, .int .i64 f, .int .i64 t, .string s, .slice B' P.length c'] ∧ Prs w' B' P ∧ Below W.heap.size W w') := fun W h => (rcopy_any k f t s B cP P W h (by omega)).mono fun e w' ⟨B', c', h1, h2, h3⟩ => ⟨_, h1, B', c', rfl, h2, h3⟩
  have HCA : Hid (∀ W, Spl W A b → Calls Tryd.prog 11 #[.agg #[.int .i64 st, .int .i64 v, .slice A b.length ca]] W fun e w' => ∃ x, e = .returned x ∧ ∃ B' c', x = .agg #[.int .i64 st, .int .i64 v, .slice B' b.length c'] ∧ Spl w' B' b ∧ Below W.heap.size W w') := fun W h => (scopy_any st v A ca b W h (by omega)).mono fun e w' ⟨B', c', h1, h2, h3⟩ => ⟨_, h1, B', c', rfl, h2, h3⟩
  have HCK := Lib.hid (fun B' c' A2 c2 W h1 h2 h3 => happ k f t s B' c' P st v A2 c2 b x W h1 h2 h3 (by omega) (by omega) hf hs hx)
  have HCF := Lib.hid (fun W h2 h3 => rpref_any k f t s B cP P st v A ca b x W h2 h3 (by omega) (by omega) hx)
  generalize (rapN k t s P b x).1 = z1 at *
  generalize (rapN k t s P b x).2.1 = z2 at *
  generalize (rapN k t s P b x).2.2 = z3 at *
  clear hg hf hs hmP hA hl3 hx
  clear hK hP
  generalize P.length = n at *
  generalize b.length = lb at *
  go_enter Tryd.func4, Tryd.ntmps4
  go_wp2_with fail
  generalize (w.alloc (.cells #[.int .i64 k, .int .i64 f, .int .i64 t, .string s, .slice B n cP] 24)).alloc (.cells #[.int .i64 st, .int .i64 v, .slice A lb ca] 27) = U at *
  refine (rawake_any hchk happ _ (HK.out.below HQ0.out.1)).mono ?_
  rintro e w1 ⟨rfl, hb1⟩
  have HQ1 := Lib.hid (HQ0.out.below hb1)
  clear hb1 HQ0
  obtain ⟨⟨r0, r1, r2, r3, r4⟩, a0, a1, a2⟩ := HQ1.out.cells
  go_wp2_with fail
  clear r0 r1 r2 r3 r4 a0 a1 a2
  refine (HG.out _ (HP.out.below HQ1.out.1)).mono ?_
  rintro e w2 ⟨rfl, hb2⟩
  have HQ2 := Lib.hid (HQ1.out.below hb2)
  clear hb2 HQ1
  obtain ⟨⟨r0, r1, r2, r3, r4⟩, a0, a1, a2⟩ := HQ2.out.cells
  go_upto_region 3 with fail
  clear r0 r1 r2 r3 r4 a0 a1 a2
  go_cut [7, 8] (fun s7 s8 wx => ∃ p : Nat, s7 = .pointer (some ⟨p, 0, none⟩) ∧ s8 = .int .i64 z3 ∧ wx.heap[p]? = some (.cells #[.int .i64 z1, .string z2] 37) ∧ Below w2.heap.size w2 wx)
  case first =>
    refine wp_region_noPanic ?_
    refine wp_region_held_drew (S := (fun u => Below w2.heap.size w2 u)) (by kernel_rfl) ((Below.refl _ _).drew) (fun hS => ?_)
    refine give_val (i := 0) (v := ?_) rfl (by kernel_rfl) (by kernel_rfl) (by kernel_rfl) (fun _ _ _ h => h) (by rfl) (fun u hu => ?_) hS ?_
    rotate_left
    · ((obtain ⟨⟨r0, r1, r2, r3, r4⟩, a0, a1, a2⟩ := (HQ2.out.below hu).cells); go_simp; try (with_reducible rfl))
    try simp only [Act.put, List.setIfInBounds_toArray, List.set_cons_zero, List.set_cons_succ]
    refine give_val (i := 2) (v := ?_) rfl (by kernel_rfl) (by kernel_rfl) (by kernel_rfl) (fun _ _ _ h => h) (by rfl) (fun u hu => ?_) hS ?_
    rotate_left
    · ((obtain ⟨⟨r0, r1, r2, r3, r4⟩, a0, a1, a2⟩ := (HQ2.out.below hu).cells); go_simp; try (with_reducible rfl))
    try simp only [Act.put, List.setIfInBounds_toArray, List.set_cons_zero, List.set_cons_succ]
    refine give_val (i := 4) (v := ?_) rfl (by kernel_rfl) (by kernel_rfl) (by kernel_rfl) (fun _ _ _ h => h) (by rfl) (fun u hu => ?_) hS ?_
    rotate_left
    · ((obtain ⟨⟨r0, r1, r2, r3, r4⟩, a0, a1, a2⟩ := (HQ2.out.below hu).cells); go_simp; try (with_reducible rfl))
    try simp only [Act.put, List.setIfInBounds_toArray, List.set_cons_zero, List.set_cons_succ]
    refine wpAnyH_ready (rs := [1, 9]) (by kernel_rfl) (by simp) (arm_some (i := 1) 10 #[.agg #[.int .i64 k, .int .i64 f, .int .i64 t, .string s, .slice B n cP]] rfl (by rfl) (HCR.out _ (HP.out.below (HQ2.out.below hS).1)) ?_ ?_ (arm_alloc (i := 9) (.cells #[.int .i64 0, .string ⟨#[]⟩] 37) rfl (by rfl) ?_ ?_ AllReadyH.nil))
    · (go_simp; try (with_reducible rfl))
    · intro v1 u' hT
      obtain ⟨A1, c1, rfl, ht1, hb⟩ := hT
      have hS' : (fun u => Below w2.heap.size w2 u) u' := hbt hS hb
      refine ⟨hS', ?_⟩
      clear hS hb
      have hS := hS'; clear hS'
      rename World => u
      try simp only [Act.put, List.setIfInBounds_toArray, List.set_cons_zero, List.set_cons_succ]
      refine wpAnyH_ready (rs := [3, 9]) (by kernel_rfl) (by simp) (arm_some (i := 3) 11 #[.agg #[.int .i64 st, .int .i64 v, .slice A lb ca]] rfl (by rfl) (HCA.out _ (HA.out.below (HQ2.out.below hS).1)) ?_ ?_ (arm_alloc (i := 9) (.cells #[.int .i64 0, .string ⟨#[]⟩] 37) rfl (by rfl) ?_ ?_ AllReadyH.nil))
      · (go_simp; try (with_reducible rfl))
      · intro v3 u' hT
        obtain ⟨A3, c3, rfl, ht3, hb⟩ := hT
        have hS' : (fun u => Below w2.heap.size w2 u) u' := hbt hS hb
        refine ⟨hS', ?_⟩
        replace ht1 := ht1.below hb
        clear hS hb
        have hS := hS'; clear hS'
        rename World => u
        try simp only [Act.put, List.setIfInBounds_toArray, List.set_cons_zero, List.set_cons_succ]
        refine wpAnyH_ready (rs := [5, 9]) (by kernel_rfl) (by simp) (arm_call (i := 5) 13 #[.agg #[.int .i64 k, .int .i64 f, .int .i64 t, .string s, .slice A1 n c1], .agg #[.int .i64 st, .int .i64 v, .slice A3 lb c3], .string x] rfl (by rfl) (HCK.out _ _ _ _ _ (HK.out.below (HQ2.out.below hS).1) ht1 ht3) ?_ ?_ (arm_alloc (i := 9) (.cells #[.int .i64 0, .string ⟨#[]⟩] 37) rfl (by rfl) ?_ ?_ AllReadyH.nil))
        · (go_simp; try (with_reducible rfl))
        · intro u' hb
          have hS' : (fun u => Below w2.heap.size w2 u) u' := hbt hS hb
          refine ⟨hS', ?_⟩
          replace ht1 := ht1.below hb
          replace ht3 := ht3.below hb
          clear hS hb
          have hS := hS'; clear hS'
          rename World => u
          try simp only [Act.put, List.setIfInBounds_toArray, List.set_cons_zero, List.set_cons_succ]
          refine give_val (i := 6) (v := ?_) rfl (by kernel_rfl) (by kernel_rfl) (by kernel_rfl) (fun _ _ _ h => h) (by rfl) (fun u hu => ?_) hS ?_
          rotate_left
          · ((obtain ⟨⟨r0, r1, r2, r3, r4⟩, a0, a1, a2⟩ := (HQ2.out.below hu).cells); go_simp; try (with_reducible rfl))
          try simp only [Act.put, List.setIfInBounds_toArray, List.set_cons_zero, List.set_cons_succ]
          refine give_val (i := 7) (v := ?_) rfl (by kernel_rfl) (by kernel_rfl) (by kernel_rfl) (fun _ _ _ h => h) (by rfl) (fun u hu => ?_) hS ?_
          rotate_left
          · ((obtain ⟨⟨r0, r1, r2, r3, r4⟩, a0, a1, a2⟩ := (HQ2.out.below hu).cells); go_simp; try (with_reducible rfl))
          try simp only [Act.put, List.setIfInBounds_toArray, List.set_cons_zero, List.set_cons_succ]
          refine give_val (i := 8) (v := ?_) rfl (by kernel_rfl) (by kernel_rfl) (by kernel_rfl) (fun _ _ _ h => h) (by rfl) (fun u hu => ?_) hS ?_
          rotate_left
          · ((obtain ⟨⟨r0, r1, r2, r3, r4⟩, a0, a1, a2⟩ := (HQ2.out.below hu).cells); go_simp; try (with_reducible rfl))
          try simp only [Act.put, List.setIfInBounds_toArray, List.set_cons_zero, List.set_cons_succ]
          refine wpAnyH_ready (rs := [9]) (by kernel_rfl) (by simp) (arm_alloc (i := 9) (.cells #[.int .i64 0, .string ⟨#[]⟩] 37) rfl (by rfl) ?_ ?_ AllReadyH.nil)
          · (go_simp; try (with_reducible rfl))
          · intro p9 u' hb ho9 hp9
            replace hp9 := Nat.le_trans (hS.size) hp9
            have hS' : (fun u => Below w2.heap.size w2 u) u' := hbt hS hb
            refine ⟨hS', ?_⟩
            replace ht1 := ht1.below hb
            replace ht3 := ht3.below hb
            clear hS hb
            have hS := hS'; clear hS'
            rename World => u
            try simp only [Act.put, List.setIfInBounds_toArray, List.set_cons_zero, List.set_cons_succ]
            obtain ⟨d0, d1, f0, f1⟩ := obj_cells ho9
            have hr9 := obj_set2 ho9 (.int .i64 z1) (.string z2)
            have hS4 : Below w2.heap.size w2 _ := below_set2 hS hp9 (.int .i64 z1) (.string z2)
            refine only (i := 10) rfl (by kernel_rfl) (by rfl) (fun K hK => ?_)
            go_simp
            refine hK.out _ _ hS4 ?_
            clear hK
            try simp only [Act.put, List.setIfInBounds_toArray, List.set_cons_zero, List.set_cons_succ]
            clear hS
            have hS := hS4
            refine give_val (i := 11) (v := ?_) rfl (by kernel_rfl) (by kernel_rfl) (by kernel_rfl) (fun _ _ _ h => h) (by rfl) (fun u hu => ?_) hS ?_
            rotate_left
            · ((obtain ⟨⟨r0, r1, r2, r3, r4⟩, a0, a1, a2⟩ := (HQ2.out.below hu).cells); go_simp; try (with_reducible rfl))
            try simp only [Act.put, List.setIfInBounds_toArray, List.set_cons_zero, List.set_cons_succ]
            refine wpAnyH_done (by kernel_rfl) (NoPanic.normal ?_) _
            go_wp2_with fail
            go_meet
            exact ⟨p9, rfl, rfl, hr9, hS4⟩
        · (go_simp; try (with_reducible rfl))
        · intro p9 u' hb ho9 hp9
          replace hp9 := Nat.le_trans (hS.size) hp9
          have hS' : (fun u => Below w2.heap.size w2 u) u' := hbt hS hb
          refine ⟨hS', ?_⟩
          replace ht1 := ht1.below hb
          replace ht3 := ht3.below hb
          clear hS hb
          have hS := hS'; clear hS'
          rename World => u
          try simp only [Act.put, List.setIfInBounds_toArray, List.set_cons_zero, List.set_cons_succ]
          refine wpAnyH_ready (rs := [5]) (by kernel_rfl) (by simp) (arm_call (i := 5) 13 #[.agg #[.int .i64 k, .int .i64 f, .int .i64 t, .string s, .slice A1 n c1], .agg #[.int .i64 st, .int .i64 v, .slice A3 lb c3], .string x] rfl (by rfl) (HCK.out _ _ _ _ _ (HK.out.below (HQ2.out.below hS).1) ht1 ht3) ?_ ?_ AllReadyH.nil)
          · (go_simp; try (with_reducible rfl))
          · intro u' hb
            have hS' : (fun u => Below w2.heap.size w2 u) u' := hbt hS hb
            refine ⟨hS', ?_⟩
            replace ho9 := obj_below ho9 hb
            replace ht1 := ht1.below hb
            replace ht3 := ht3.below hb
            clear hS hb
            have hS := hS'; clear hS'
            rename World => u
            try simp only [Act.put, List.setIfInBounds_toArray, List.set_cons_zero, List.set_cons_succ]
            refine give_val (i := 6) (v := ?_) rfl (by kernel_rfl) (by kernel_rfl) (by kernel_rfl) (fun _ _ _ h => h) (by rfl) (fun u hu => ?_) hS ?_
            rotate_left
            · ((obtain ⟨⟨r0, r1, r2, r3, r4⟩, a0, a1, a2⟩ := (HQ2.out.below hu).cells); go_simp; try (with_reducible rfl))
            try simp only [Act.put, List.setIfInBounds_toArray, List.set_cons_zero, List.set_cons_succ]
            refine give_val (i := 7) (v := ?_) rfl (by kernel_rfl) (by kernel_rfl) (by kernel_rfl) (fun _ _ _ h => h) (by rfl) (fun u hu => ?_) hS ?_
            rotate_left
            · ((obtain ⟨⟨r0, r1, r2, r3, r4⟩, a0, a1, a2⟩ := (HQ2.out.below hu).cells); go_simp; try (with_reducible rfl))
            try simp only [Act.put, List.setIfInBounds_toArray, List.set_cons_zero, List.set_cons_succ]
            refine give_val (i := 8) (v := ?_) rfl (by kernel_rfl) (by kernel_rfl) (by kernel_rfl) (fun _ _ _ h => h) (by rfl) (fun u hu => ?_) hS ?_
            rotate_left
            · ((obtain ⟨⟨r0, r1, r2, r3, r4⟩, a0, a1, a2⟩ := (HQ2.out.below hu).cells); go_simp; try (with_reducible rfl))
            try simp only [Act.put, List.setIfInBounds_toArray, List.set_cons_zero, List.set_cons_succ]
            obtain ⟨d0, d1, f0, f1⟩ := obj_cells ho9
            have hr9 := obj_set2 ho9 (.int .i64 z1) (.string z2)
            have hS4 : Below w2.heap.size w2 _ := below_set2 hS hp9 (.int .i64 z1) (.string z2)
            refine only (i := 10) rfl (by kernel_rfl) (by rfl) (fun K hK => ?_)
            go_simp
            refine hK.out _ _ hS4 ?_
            clear hK
            try simp only [Act.put, List.setIfInBounds_toArray, List.set_cons_zero, List.set_cons_succ]
            clear hS
            have hS := hS4
            refine give_val (i := 11) (v := ?_) rfl (by kernel_rfl) (by kernel_rfl) (by kernel_rfl) (fun _ _ _ h => h) (by rfl) (fun u hu => ?_) hS ?_
            rotate_left
            · ((obtain ⟨⟨r0, r1, r2, r3, r4⟩, a0, a1, a2⟩ := (HQ2.out.below hu).cells); go_simp; try (with_reducible rfl))
            try simp only [Act.put, List.setIfInBounds_toArray, List.set_cons_zero, List.set_cons_succ]
            refine wpAnyH_done (by kernel_rfl) (NoPanic.normal ?_) _
            go_wp2_with fail
            go_meet
            exact ⟨p9, rfl, rfl, hr9, hS4⟩
      · (go_simp; try (with_reducible rfl))
      · intro p9 u' hb ho9 hp9
        replace hp9 := Nat.le_trans (hS.size) hp9
        have hS' : (fun u => Below w2.heap.size w2 u) u' := hbt hS hb
        refine ⟨hS', ?_⟩
        replace ht1 := ht1.below hb
        clear hS hb
        have hS := hS'; clear hS'
        rename World => u
        try simp only [Act.put, List.setIfInBounds_toArray, List.set_cons_zero, List.set_cons_succ]
        refine wpAnyH_ready (rs := [3]) (by kernel_rfl) (by simp) (arm_some (i := 3) 11 #[.agg #[.int .i64 st, .int .i64 v, .slice A lb ca]] rfl (by rfl) (HCA.out _ (HA.out.below (HQ2.out.below hS).1)) ?_ ?_ AllReadyH.nil)
        · (go_simp; try (with_reducible rfl))
        · intro v3 u' hT
          obtain ⟨A3, c3, rfl, ht3, hb⟩ := hT
          have hS' : (fun u => Below w2.heap.size w2 u) u' := hbt hS hb
          refine ⟨hS', ?_⟩
          replace ho9 := obj_below ho9 hb
          replace ht1 := ht1.below hb
          clear hS hb
          have hS := hS'; clear hS'
          rename World => u
          try simp only [Act.put, List.setIfInBounds_toArray, List.set_cons_zero, List.set_cons_succ]
          refine wpAnyH_ready (rs := [5]) (by kernel_rfl) (by simp) (arm_call (i := 5) 13 #[.agg #[.int .i64 k, .int .i64 f, .int .i64 t, .string s, .slice A1 n c1], .agg #[.int .i64 st, .int .i64 v, .slice A3 lb c3], .string x] rfl (by rfl) (HCK.out _ _ _ _ _ (HK.out.below (HQ2.out.below hS).1) ht1 ht3) ?_ ?_ AllReadyH.nil)
          · (go_simp; try (with_reducible rfl))
          · intro u' hb
            have hS' : (fun u => Below w2.heap.size w2 u) u' := hbt hS hb
            refine ⟨hS', ?_⟩
            replace ho9 := obj_below ho9 hb
            replace ht1 := ht1.below hb
            replace ht3 := ht3.below hb
            clear hS hb
            have hS := hS'; clear hS'
            rename World => u
            try simp only [Act.put, List.setIfInBounds_toArray, List.set_cons_zero, List.set_cons_succ]
            refine give_val (i := 6) (v := ?_) rfl (by kernel_rfl) (by kernel_rfl) (by kernel_rfl) (fun _ _ _ h => h) (by rfl) (fun u hu => ?_) hS ?_
            rotate_left
            · ((obtain ⟨⟨r0, r1, r2, r3, r4⟩, a0, a1, a2⟩ := (HQ2.out.below hu).cells); go_simp; try (with_reducible rfl))
            try simp only [Act.put, List.setIfInBounds_toArray, List.set_cons_zero, List.set_cons_succ]
            refine give_val (i := 7) (v := ?_) rfl (by kernel_rfl) (by kernel_rfl) (by kernel_rfl) (fun _ _ _ h => h) (by rfl) (fun u hu => ?_) hS ?_
            rotate_left
            · ((obtain ⟨⟨r0, r1, r2, r3, r4⟩, a0, a1, a2⟩ := (HQ2.out.below hu).cells); go_simp; try (with_reducible rfl))
            try simp only [Act.put, List.setIfInBounds_toArray, List.set_cons_zero, List.set_cons_succ]
            refine give_val (i := 8) (v := ?_) rfl (by kernel_rfl) (by kernel_rfl) (by kernel_rfl) (fun _ _ _ h => h) (by rfl) (fun u hu => ?_) hS ?_
            rotate_left
            · ((obtain ⟨⟨r0, r1, r2, r3, r4⟩, a0, a1, a2⟩ := (HQ2.out.below hu).cells); go_simp; try (with_reducible rfl))
            try simp only [Act.put, List.setIfInBounds_toArray, List.set_cons_zero, List.set_cons_succ]
            obtain ⟨d0, d1, f0, f1⟩ := obj_cells ho9
            have hr9 := obj_set2 ho9 (.int .i64 z1) (.string z2)
            have hS4 : Below w2.heap.size w2 _ := below_set2 hS hp9 (.int .i64 z1) (.string z2)
            refine only (i := 10) rfl (by kernel_rfl) (by rfl) (fun K hK => ?_)
            go_simp
            refine hK.out _ _ hS4 ?_
            clear hK
            try simp only [Act.put, List.setIfInBounds_toArray, List.set_cons_zero, List.set_cons_succ]
            clear hS
            have hS := hS4
            refine give_val (i := 11) (v := ?_) rfl (by kernel_rfl) (by kernel_rfl) (by kernel_rfl) (fun _ _ _ h => h) (by rfl) (fun u hu => ?_) hS ?_
            rotate_left
            · ((obtain ⟨⟨r0, r1, r2, r3, r4⟩, a0, a1, a2⟩ := (HQ2.out.below hu).cells); go_simp; try (with_reducible rfl))
            try simp only [Act.put, List.setIfInBounds_toArray, List.set_cons_zero, List.set_cons_succ]
            refine wpAnyH_done (by kernel_rfl) (NoPanic.normal ?_) _
            go_wp2_with fail
            go_meet
            exact ⟨p9, rfl, rfl, hr9, hS4⟩
    · (go_simp; try (with_reducible rfl))
    · intro p9 u' hb ho9 hp9
      replace hp9 := Nat.le_trans (hS.size) hp9
      have hS' : (fun u => Below w2.heap.size w2 u) u' := hbt hS hb
      refine ⟨hS', ?_⟩
      clear hS hb
      have hS := hS'; clear hS'
      rename World => u
      try simp only [Act.put, List.setIfInBounds_toArray, List.set_cons_zero, List.set_cons_succ]
      refine wpAnyH_ready (rs := [1]) (by kernel_rfl) (by simp) (arm_some (i := 1) 10 #[.agg #[.int .i64 k, .int .i64 f, .int .i64 t, .string s, .slice B n cP]] rfl (by rfl) (HCR.out _ (HP.out.below (HQ2.out.below hS).1)) ?_ ?_ AllReadyH.nil)
      · (go_simp; try (with_reducible rfl))
      · intro v1 u' hT
        obtain ⟨A1, c1, rfl, ht1, hb⟩ := hT
        have hS' : (fun u => Below w2.heap.size w2 u) u' := hbt hS hb
        refine ⟨hS', ?_⟩
        replace ho9 := obj_below ho9 hb
        clear hS hb
        have hS := hS'; clear hS'
        rename World => u
        try simp only [Act.put, List.setIfInBounds_toArray, List.set_cons_zero, List.set_cons_succ]
        refine wpAnyH_ready (rs := [3]) (by kernel_rfl) (by simp) (arm_some (i := 3) 11 #[.agg #[.int .i64 st, .int .i64 v, .slice A lb ca]] rfl (by rfl) (HCA.out _ (HA.out.below (HQ2.out.below hS).1)) ?_ ?_ AllReadyH.nil)
        · (go_simp; try (with_reducible rfl))
        · intro v3 u' hT
          obtain ⟨A3, c3, rfl, ht3, hb⟩ := hT
          have hS' : (fun u => Below w2.heap.size w2 u) u' := hbt hS hb
          refine ⟨hS', ?_⟩
          replace ho9 := obj_below ho9 hb
          replace ht1 := ht1.below hb
          clear hS hb
          have hS := hS'; clear hS'
          rename World => u
          try simp only [Act.put, List.setIfInBounds_toArray, List.set_cons_zero, List.set_cons_succ]
          refine wpAnyH_ready (rs := [5]) (by kernel_rfl) (by simp) (arm_call (i := 5) 13 #[.agg #[.int .i64 k, .int .i64 f, .int .i64 t, .string s, .slice A1 n c1], .agg #[.int .i64 st, .int .i64 v, .slice A3 lb c3], .string x] rfl (by rfl) (HCK.out _ _ _ _ _ (HK.out.below (HQ2.out.below hS).1) ht1 ht3) ?_ ?_ AllReadyH.nil)
          · (go_simp; try (with_reducible rfl))
          · intro u' hb
            have hS' : (fun u => Below w2.heap.size w2 u) u' := hbt hS hb
            refine ⟨hS', ?_⟩
            replace ho9 := obj_below ho9 hb
            replace ht1 := ht1.below hb
            replace ht3 := ht3.below hb
            clear hS hb
            have hS := hS'; clear hS'
            rename World => u
            try simp only [Act.put, List.setIfInBounds_toArray, List.set_cons_zero, List.set_cons_succ]
            refine give_val (i := 6) (v := ?_) rfl (by kernel_rfl) (by kernel_rfl) (by kernel_rfl) (fun _ _ _ h => h) (by rfl) (fun u hu => ?_) hS ?_
            rotate_left
            · ((obtain ⟨⟨r0, r1, r2, r3, r4⟩, a0, a1, a2⟩ := (HQ2.out.below hu).cells); go_simp; try (with_reducible rfl))
            try simp only [Act.put, List.setIfInBounds_toArray, List.set_cons_zero, List.set_cons_succ]
            refine give_val (i := 7) (v := ?_) rfl (by kernel_rfl) (by kernel_rfl) (by kernel_rfl) (fun _ _ _ h => h) (by rfl) (fun u hu => ?_) hS ?_
            rotate_left
            · ((obtain ⟨⟨r0, r1, r2, r3, r4⟩, a0, a1, a2⟩ := (HQ2.out.below hu).cells); go_simp; try (with_reducible rfl))
            try simp only [Act.put, List.setIfInBounds_toArray, List.set_cons_zero, List.set_cons_succ]
            refine give_val (i := 8) (v := ?_) rfl (by kernel_rfl) (by kernel_rfl) (by kernel_rfl) (fun _ _ _ h => h) (by rfl) (fun u hu => ?_) hS ?_
            rotate_left
            · ((obtain ⟨⟨r0, r1, r2, r3, r4⟩, a0, a1, a2⟩ := (HQ2.out.below hu).cells); go_simp; try (with_reducible rfl))
            try simp only [Act.put, List.setIfInBounds_toArray, List.set_cons_zero, List.set_cons_succ]
            obtain ⟨d0, d1, f0, f1⟩ := obj_cells ho9
            have hr9 := obj_set2 ho9 (.int .i64 z1) (.string z2)
            have hS4 : Below w2.heap.size w2 _ := below_set2 hS hp9 (.int .i64 z1) (.string z2)
            refine only (i := 10) rfl (by kernel_rfl) (by rfl) (fun K hK => ?_)
            go_simp
            refine hK.out _ _ hS4 ?_
            clear hK
            try simp only [Act.put, List.setIfInBounds_toArray, List.set_cons_zero, List.set_cons_succ]
            clear hS
            have hS := hS4
            refine give_val (i := 11) (v := ?_) rfl (by kernel_rfl) (by kernel_rfl) (by kernel_rfl) (fun _ _ _ h => h) (by rfl) (fun u hu => ?_) hS ?_
            rotate_left
            · ((obtain ⟨⟨r0, r1, r2, r3, r4⟩, a0, a1, a2⟩ := (HQ2.out.below hu).cells); go_simp; try (with_reducible rfl))
            try simp only [Act.put, List.setIfInBounds_toArray, List.set_cons_zero, List.set_cons_succ]
            refine wpAnyH_done (by kernel_rfl) (NoPanic.normal ?_) _
            go_wp2_with fail
            go_meet
            exact ⟨p9, rfl, rfl, hr9, hS4⟩
  case rest =>
    obtain ⟨p, rfl, rfl, hp, hb⟩ := hcut
    rename World => w3
    have HQ3 := Lib.hid (HQ2.out.below hb)
    have HV3 := Lib.hid hp
    clear hb hp HQ2 HCK HCR HCA
    obtain ⟨⟨r0, r1, r2, r3, r4⟩, a0, a1, a2⟩ := HQ3.out.cells
    go_wp2_with fail
    clear r0 r1 r2 r3 r4 a0 a1 a2
    refine (HCF.out _ (HP.out.below HQ3.out.1) (HA.out.below HQ3.out.1)).mono ?_
    rintro e w5 ⟨rfl, hb5⟩
    have hb6 := hbt hb5 (below_al w5 (.cells #[.int .i64 z1, .string z2] 37))
    have HV6 := Lib.hid (obj_below HV3.out hb6)
    have HB6 := Lib.hid (hbt HQ3.out.1 hb6)
    clear hb5 hb6
    obtain ⟨d0, d1, _, _⟩ := obj_cells HV6.out
    go_wp2
    go_ret
    exact ⟨by simp, HB6.out⟩
theorem ruleApply_walk (hchk : RChk) (happ : RApp) (k f t : Int) (s : ByteArray) (B : Option Addr) (cP : Nat) (P : List PairT) (st v : Int) (A : Option Addr) (ca : Nat) (b : List Sp) (x : ByteArray) (w : World) (hK : Kinds w) (hP : Prs w B P) (hA : Spl w A b) (hmP : P.length ≤ maxLen) (hmb : b.length ≤ maxLen) (hf : Fit2 P) (hs : s.size ≤ maxLen) (hx : x.size ≤ maxLen) : Calls Tryd.prog 4 #[.agg #[.int .i64 k, .int .i64 f, .int .i64 t, .string s, .slice B P.length cP], .agg #[.int .i64 st, .int .i64 v, .slice A b.length ca], .string x] w fun e w' => e = .returned (.bool true) ∧ Below w.heap.size w w' := by
  cases hg : rgreatB s P
  · by_cases h1 : 200 < b.length
    · exact rla_b hchk happ k f t s B cP P st v A ca b x w hK hP hA hmP hmb hf hs hx hg h1
    · by_cases h2 : 1200 < x.size
      · exact rla_x hchk happ k f t s B cP P st v A ca b x w hK hP hA hmP hmb hf hs hx hg (by omega) h2
      · exact rla_main hchk happ k f t s B cP P st v A ca b x w hK hP hA hmP hmb hf hs hx hg (by omega) (by omega)
  · exact rla_great hchk happ k f t s B cP P st v A ca b x w hK hP hA hmP hmb hf hs hx hg

end Go.Proofs.YtkbpinjcenfjlaaDoor
