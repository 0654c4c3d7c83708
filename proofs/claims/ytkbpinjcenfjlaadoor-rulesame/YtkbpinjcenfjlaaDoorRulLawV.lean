/-
  RuleValid: for every input, in every world that holds the table of kinds, where the program's Check and Apply answer as they are to.
-/
import Derived.Test.YtkbpinjcenfjlaaDoorRulAwk
import Derived.Test.YtkbpinjcenfjlaaDoorRulPure
import Derived.Test.YtkbpinjcenfjlaaDoorRulApp
import Derived.Test.YtkbpinjcenfjlaaDoorPackSch
import Derived.Test.YtkbpinjcenfjlaaDoorPackSpc
import Derived.Deep.DeepCutAuto
namespace Go.Proofs.YtkbpinjcenfjlaaDoor
open Go.RowKit

theorem obj_cells6 {u : World} {g : Nat} {a b c d e f : Value} {t : TypeId} (h : u.heap[g]? = some (.cells #[a, b, c, d, e, f] t)) :
    u.cell? ⟨g, 0, none⟩ = some a ∧ u.cell? ⟨g, 1, none⟩ = some b ∧ u.cell? ⟨g, 2, none⟩ = some c ∧ u.cell? ⟨g, 3, none⟩ = some d ∧ u.cell? ⟨g, 4, none⟩ = some e ∧ u.cell? ⟨g, 5, none⟩ = some f :=
  ⟨cell_of_row u g 0 _ t _ h, cell_of_row u g 1 _ t _ h, cell_of_row u g 2 _ t _ h, cell_of_row u g 3 _ t _ h, cell_of_row u g 4 _ t _ h, cell_of_row u g 5 _ t _ h⟩
/-- A rule in a call's first block, two schemas somewhere behind it. -/
def VQ (w : World) (k f t : Int) (s : ByteArray) (B : Option Addr) (n c : Nat) (p : Nat) (st v : Int) (A : Option Addr) (la ca : Nat) (q : Nat) (st' v' : Int) (A' : Option Addr) (lb cb : Nat) (u : World) : Prop :=
  Below w.heap.size w u ∧ RBox u w.heap.size k f t s B n c ∧ Box u p st v A la ca ∧ Box u q st' v' A' lb cb
theorem VQ.below {w : World} {k f t : Int} {s : ByteArray} {B : Option Addr} {n c p : Nat} {st v : Int} {A : Option Addr} {la ca q : Nat} {st' v' : Int} {A' : Option Addr} {lb cb : Nat} {u u' : World} (h : VQ w k f t s B n c p st v A la ca q st' v' A' lb cb u) (hb : Below u.heap.size u u') : VQ w k f t s B n c p st v A la ca q st' v' A' lb cb u' :=
  ⟨hbt h.1 hb, h.2.1.below hb, h.2.2.1.below hb, h.2.2.2.below hb⟩
theorem VQ.cells {w : World} {k f t : Int} {s : ByteArray} {B : Option Addr} {n c p : Nat} {st v : Int} {A : Option Addr} {la ca q : Nat} {st' v' : Int} {A' : Option Addr} {lb cb : Nat} {u : World} (h : VQ w k f t s B n c p st v A la ca q st' v' A' lb cb u) :
    (u.cell? ⟨w.heap.size, 0, none⟩ = some (.int .i64 k) ∧ u.cell? ⟨w.heap.size, 1, none⟩ = some (.int .i64 f) ∧ u.cell? ⟨w.heap.size, 2, none⟩ = some (.int .i64 t) ∧ u.cell? ⟨w.heap.size, 3, none⟩ = some (.string s) ∧ u.cell? ⟨w.heap.size, 4, none⟩ = some (.slice B n c)) ∧
    (u.cell? ⟨p, 0, none⟩ = some (.int .i64 st) ∧ u.cell? ⟨p, 1, none⟩ = some (.int .i64 v) ∧ u.cell? ⟨p, 2, none⟩ = some (.slice A la ca)) ∧
    u.cell? ⟨q, 0, none⟩ = some (.int .i64 st') ∧ u.cell? ⟨q, 1, none⟩ = some (.int .i64 v') ∧ u.cell? ⟨q, 2, none⟩ = some (.slice A' lb cb) := by
  obtain ⟨_, h1, h2, h3⟩ := h
  exact ⟨obj_cells5 h1, obj_cells3 h2, obj_cells3 h3⟩

theorem obj_set3_far {u : World} {p q : Nat} {O : Obj} (h : u.heap[q]? = some O) (hq : q ≠ p) (x y z : Value) : (((u.setCell ⟨p, 0, none⟩ x).setCell ⟨p, 1, none⟩ y).setCell ⟨p, 2, none⟩ z).heap[q]? = some O := by
  rw [heap_setCell_other _ _ _ _ hq, heap_setCell_other _ _ _ _ hq, heap_setCell_other _ _ _ _ hq]
  exact h
theorem rap_size {k t : Int} {s : ByteArray} {P : List PairT} {b : List Sp} {u : ByteArray} (hf : Fit2 P) (hs : s.size ≤ maxLen) (hu : u.size ≤ maxLen) : (rapN k t s P b u).2.1.size ≤ maxLen := by
  by_cases h0 : k < 1 ∨ 5 < k
  · rw [rap_else h0]; exact Nat.zero_le _
  · rcases kind_cases h0 with rfl | rfl | rfl | rfl | rfl
    · exact hu
    · exact Nat.zero_le _
    · exact hs
    · rw [rap_4]
      split
      · exact Nat.zero_le _
      · split
        · exact Nat.zero_le _
        · rename_i h
          have hp : padB u.data.toList (fndP t b).1.2.2.2.1 = true := by simpa using h
          show (padS u.data.toList (fndP t b).1.2.2.2.1).size ≤ maxLen
          rw [padS_yes hp]
          have := padB_in hp
          show ((padL u.data.toList (fndP t b).1.2.2.2.1).toArray.size) ≤ maxLen
          rw [List.size_toArray, padL_size]
          unfold maxLen
          omega
    · rw [rap_5]
      split
      · exact Nat.zero_le _
      · rename_i h
        have hm := app_mem (l := P) (t := u) (by simpa using h)
        exact (hf _ hm).2
set_option maxRecDepth 100000 in
set_option maxHeartbeats 25600000 in
theorem ruleValid_walk (hchk : RChk) (happ : RApp) (k f t : Int) (s : ByteArray) (B : Option Addr) (cP : Nat) (P : List PairT) (st v : Int) (A : Option Addr) (ca : Nat) (a : List Sp) (st' v' : Int) (A' : Option Addr) (cb : Nat) (b : List Sp) (x : ByteArray) (w : World) (hK : Kinds w) (hP : Prs w B P) (hA : Spl w A a) (hB : Spl w A' b) (hmP : P.length ≤ maxLen) (hma : a.length ≤ maxLen) (hmb : b.length ≤ maxLen) (hf : Fit2 P) (hs : s.size ≤ maxLen) (hx : x.size ≤ maxLen) : Calls Tryd.prog 5 #[.agg #[.int .i64 k, .int .i64 f, .int .i64 t, .string s, .slice B P.length cP], .agg #[.int .i64 st, .int .i64 v, .slice A a.length ca, .int .i64 st', .int .i64 v', .slice A' b.length cb], .string x] w fun e w' => e = .returned (.bool true) ∧ Below w.heap.size w w' := by
  have HK := Lib.hid hK
  have HP := Lib.hid hP
  have HA := Lib.hid hA
  have HB := Lib.hid hB
  have HG := Lib.hid (fun W h => rgreat_any k f t s B cP P W h hs hmP hf)
  have HCK := Lib.hid (fun (hl : P.length ≤ 300) (h1 : a.length ≤ 200) (h2 : b.length ≤ 200) W k1 k2 k3 k4 => hchk k f t s B cP P st v A ca a st' v' A' cb b W k1 k2 k3 k4 (by omega) (by omega) (by omega) hf hs)
  have HRA := Lib.hid (fun (h1 : a.length ≤ 200) W h => sright_any st v A ca a W h (by omega))
  have HRB := Lib.hid (fun (h1 : b.length ≤ 200) W h => sright_any st' v' A' cb b W h (by omega))
  have HFA := Lib.hid (fun (h1 : a.length ≤ 200) W h => sreffind_any st v A ca a f W h (by omega))
  have HFB := Lib.hid (fun (h1 : b.length ≤ 200) W h => sreffind_any st' v' A' cb b t W h (by omega))
  have HAP0 := Lib.hid (fun (hl : P.length ≤ 300) (h1 : b.length ≤ 200) (h2 : x.size ≤ 1200) W k1 k2 k3 => happ k f t s B cP P st' v' A' cb b x W k1 k2 k3 (by omega) (by omega) hf hs hx)
  have HVL := Lib.hid (fun n1 c1 f1 lo1 hi1 W => sprefValue_any n1 c1 f1 lo1 hi1 x W hx)
  have HRV := Lib.hid (fun h hb hx => @rul_valid k f t s P a b st' v' x h hb hx)
  have HZS0 := Lib.hid (rap_size (k := k) (t := t) (s := s) (P := P) (b := b) (u := x) hf hs hx)
  have HGI := Lib.hid (fun h => rgreat_in (s := s) (P := P) h)
  generalize hlP : P.length = n at *
  generalize hla : a.length = la at *
  generalize hlb : b.length = lb at *
  have HLA := Lib.hid hla
  have HLB := Lib.hid hlb
  clear hlP hla hlb hK hP hA hB hs hf hmP
  unfold maxLen at hma hmb hx
  have HU0 : Hid (RBox ((w.alloc (.cells #[.int .i64 k, .int .i64 f, .int .i64 t, .string s, .slice B n cP] 24)).alloc (.cells #[.int .i64 st, .int .i64 v, .slice A la ca, .int .i64 st', .int .i64 v', .slice A' lb cb] 43)) w.heap.size k f t s B n cP) := obj_below (heap_alloc_new _ _) (below_al _ _)
  have HU1 : Hid (((w.alloc (.cells #[.int .i64 k, .int .i64 f, .int .i64 t, .string s, .slice B n cP] 24)).alloc (.cells #[.int .i64 st, .int .i64 v, .slice A la ca, .int .i64 st', .int .i64 v', .slice A' lb cb] 43)).heap[w.heap.size + 1]? = some (.cells #[.int .i64 st, .int .i64 v, .slice A la ca, .int .i64 st', .int .i64 v', .slice A' lb cb] 43)) := heap_al _ _ _ (by simp)
  have HU2 : Hid (Below w.heap.size w ((w.alloc (.cells #[.int .i64 k, .int .i64 f, .int .i64 t, .string s, .slice B n cP] 24)).alloc (.cells #[.int .i64 st, .int .i64 v, .slice A la ca, .int .i64 st', .int .i64 v', .slice A' lb cb] 43))) := hbt (below_al _ _) (below_al _ _)
  go_enter Tryd.func5, Tryd.ntmps5
  go_upto_region 1 with fail
  generalize (w.alloc (.cells #[.int .i64 k, .int .i64 f, .int .i64 t, .string s, .slice B n cP] 24)).alloc (.cells #[.int .i64 st, .int .i64 v, .slice A la ca, .int .i64 st', .int .i64 v', .slice A' lb cb] 43) = U at *
  go_cut [7, 8] (fun s7 s8 wx => ∃ p q : Nat, s7 = .pointer (some ⟨p, 0, none⟩) ∧ s8 = .pointer (some ⟨q, 0, none⟩) ∧ Box wx p st v A la ca ∧ Box wx q st' v' A' lb cb ∧ Below U.heap.size U wx)
  case first =>
    refine wp_region_noPanic ?_
    refine wp_region_held_drew (S := (fun u => Below U.heap.size U u)) (by kernel_rfl) ((Below.refl _ _).drew) (fun hS => ?_)
    refine give_val (i := 0) (v := ?_) rfl (by kernel_rfl) (by kernel_rfl) (by kernel_rfl) (fun _ _ _ h => h) (by rfl) (fun u hu => ?_) hS ?_
    rotate_left
    · ((obtain ⟨e0, e1, e2, e3, e4, e5⟩ := obj_cells6 (obj_below HU1.out hu)); go_simp; try (with_reducible rfl))
    try simp only [Act.put, List.setIfInBounds_toArray, List.set_cons_zero, List.set_cons_succ]
    refine give_val (i := 1) (v := ?_) rfl (by kernel_rfl) (by kernel_rfl) (by kernel_rfl) (fun _ _ _ h => h) (by rfl) (fun u hu => ?_) hS ?_
    rotate_left
    · ((obtain ⟨e0, e1, e2, e3, e4, e5⟩ := obj_cells6 (obj_below HU1.out hu)); go_simp; try (with_reducible rfl))
    try simp only [Act.put, List.setIfInBounds_toArray, List.set_cons_zero, List.set_cons_succ]
    refine give_val (i := 2) (v := ?_) rfl (by kernel_rfl) (by kernel_rfl) (by kernel_rfl) (fun _ _ _ h => h) (by rfl) (fun u hu => ?_) hS ?_
    rotate_left
    · ((obtain ⟨e0, e1, e2, e3, e4, e5⟩ := obj_cells6 (obj_below HU1.out hu)); go_simp; try (with_reducible rfl))
    try simp only [Act.put, List.setIfInBounds_toArray, List.set_cons_zero, List.set_cons_succ]
    refine give_val (i := 3) (v := ?_) rfl (by kernel_rfl) (by kernel_rfl) (by kernel_rfl) (fun _ _ _ h => h) (by rfl) (fun u hu => ?_) hS ?_
    rotate_left
    · ((obtain ⟨e0, e1, e2, e3, e4, e5⟩ := obj_cells6 (obj_below HU1.out hu)); go_simp; try (with_reducible rfl))
    try simp only [Act.put, List.setIfInBounds_toArray, List.set_cons_zero, List.set_cons_succ]
    refine wpAnyH_ready (rs := [4, 5]) (by kernel_rfl) (by simp) (arm_alloc (i := 4) (.cells #[.int .i64 0, .int .i64 0, .slice none 0 0] 27) rfl (by rfl) ?_ ?_ (arm_alloc (i := 5) (.cells #[.int .i64 0, .int .i64 0, .slice none 0 0] 27) rfl (by rfl) ?_ ?_ AllReadyH.nil))
    · (go_simp; try (with_reducible rfl))
    · intro p4 u' hb ho4 hp4
      replace hp4 := Nat.le_trans (hS.size) hp4
      have hS' : (fun u => Below U.heap.size U u) u' := hbt hS hb
      refine ⟨hS', ?_⟩
      clear hS hb
      have hS := hS'; clear hS'
      rename World => u
      try simp only [Act.put, List.setIfInBounds_toArray, List.set_cons_zero, List.set_cons_succ]
      refine wpAnyH_ready (rs := [5]) (by kernel_rfl) (by simp) (arm_alloc (i := 5) (.cells #[.int .i64 0, .int .i64 0, .slice none 0 0] 27) rfl (by rfl) ?_ ?_ AllReadyH.nil)
      · (go_simp; try (with_reducible rfl))
      · intro p5 u' hb ho5 hp5
        have ne4_5 : p4 ≠ p5 := by have := obj_lt ho4; omega
        replace hp5 := Nat.le_trans (hS.size) hp5
        have hS' : (fun u => Below U.heap.size U u) u' := hbt hS hb
        refine ⟨hS', ?_⟩
        replace ho4 := obj_below ho4 hb
        clear hS hb
        have hS := hS'; clear hS'
        rename World => u
        try simp only [Act.put, List.setIfInBounds_toArray, List.set_cons_zero, List.set_cons_succ]
        obtain ⟨d0, d1, d2⟩ := obj_cells3 ho4
        obtain ⟨g0, g1, g2⟩ := obj_warm3 ho4
        have hr4 := obj_set3 ho4 (.int .i64 st) (.int .i64 v) (.slice A la ca)
        have ho5' := obj_set3_far ho5 (Ne.symm ne4_5) (.int .i64 st) (.int .i64 v) (.slice A la ca)
        have hS4 : Below U.heap.size U _ := below_set3 hS hp4 (.int .i64 st) (.int .i64 v) (.slice A la ca)
        refine only (i := 6) rfl (by kernel_rfl) (by rfl) (fun K hK => ?_)
        go_simp
        refine hK.out _ _ hS4 ?_
        clear hK
        try simp only [Act.put, List.setIfInBounds_toArray, List.set_cons_zero, List.set_cons_succ]
        clear d0 d1 d2 g0 g1 g2 hS ho4 ho5
        generalize (((u.setCell _ _).setCell _ _).setCell _ _) = u4 at *
        obtain ⟨d0, d1, d2⟩ := obj_cells3 ho5'
        obtain ⟨g0, g1, g2⟩ := obj_warm3 ho5'
        have hr5 := obj_set3 ho5' (.int .i64 st') (.int .i64 v') (.slice A' lb cb)
        have hr4' := obj_set3_far hr4 ne4_5 (.int .i64 st') (.int .i64 v') (.slice A' lb cb)
        have hS5 : Below U.heap.size U _ := below_set3 hS4 hp5 (.int .i64 st') (.int .i64 v') (.slice A' lb cb)
        refine only (i := 7) rfl (by kernel_rfl) (by rfl) (fun K hK => ?_)
        go_simp
        refine hK.out _ _ hS5 ?_
        clear hK
        try simp only [Act.put, List.setIfInBounds_toArray, List.set_cons_zero, List.set_cons_succ]
        refine wpAnyH_done (by kernel_rfl) (NoPanic.normal ?_) _
        go_wp2_with fail
        go_meet
        exact ⟨p4, p5, rfl, rfl, hr4', hr5, hS5⟩
    · (go_simp; try (with_reducible rfl))
    · intro p5 u' hb ho5 hp5
      replace hp5 := Nat.le_trans (hS.size) hp5
      have hS' : (fun u => Below U.heap.size U u) u' := hbt hS hb
      refine ⟨hS', ?_⟩
      clear hS hb
      have hS := hS'; clear hS'
      rename World => u
      try simp only [Act.put, List.setIfInBounds_toArray, List.set_cons_zero, List.set_cons_succ]
      refine wpAnyH_ready (rs := [4]) (by kernel_rfl) (by simp) (arm_alloc (i := 4) (.cells #[.int .i64 0, .int .i64 0, .slice none 0 0] 27) rfl (by rfl) ?_ ?_ AllReadyH.nil)
      · (go_simp; try (with_reducible rfl))
      · intro p4 u' hb ho4 hp4
        have ne4_5 : p4 ≠ p5 := by have := obj_lt ho5; omega
        replace hp4 := Nat.le_trans (hS.size) hp4
        have hS' : (fun u => Below U.heap.size U u) u' := hbt hS hb
        refine ⟨hS', ?_⟩
        replace ho5 := obj_below ho5 hb
        clear hS hb
        have hS := hS'; clear hS'
        rename World => u
        try simp only [Act.put, List.setIfInBounds_toArray, List.set_cons_zero, List.set_cons_succ]
        obtain ⟨d0, d1, d2⟩ := obj_cells3 ho4
        obtain ⟨g0, g1, g2⟩ := obj_warm3 ho4
        have hr4 := obj_set3 ho4 (.int .i64 st) (.int .i64 v) (.slice A la ca)
        have ho5' := obj_set3_far ho5 (Ne.symm ne4_5) (.int .i64 st) (.int .i64 v) (.slice A la ca)
        have hS4 : Below U.heap.size U _ := below_set3 hS hp4 (.int .i64 st) (.int .i64 v) (.slice A la ca)
        refine only (i := 6) rfl (by kernel_rfl) (by rfl) (fun K hK => ?_)
        go_simp
        refine hK.out _ _ hS4 ?_
        clear hK
        try simp only [Act.put, List.setIfInBounds_toArray, List.set_cons_zero, List.set_cons_succ]
        clear d0 d1 d2 g0 g1 g2 hS ho4 ho5
        generalize (((u.setCell _ _).setCell _ _).setCell _ _) = u4 at *
        obtain ⟨d0, d1, d2⟩ := obj_cells3 ho5'
        obtain ⟨g0, g1, g2⟩ := obj_warm3 ho5'
        have hr5 := obj_set3 ho5' (.int .i64 st') (.int .i64 v') (.slice A' lb cb)
        have hr4' := obj_set3_far hr4 ne4_5 (.int .i64 st') (.int .i64 v') (.slice A' lb cb)
        have hS5 : Below U.heap.size U _ := below_set3 hS4 hp5 (.int .i64 st') (.int .i64 v') (.slice A' lb cb)
        refine only (i := 7) rfl (by kernel_rfl) (by rfl) (fun K hK => ?_)
        go_simp
        refine hK.out _ _ hS5 ?_
        clear hK
        try simp only [Act.put, List.setIfInBounds_toArray, List.set_cons_zero, List.set_cons_succ]
        refine wpAnyH_done (by kernel_rfl) (NoPanic.normal ?_) _
        go_wp2_with fail
        go_meet
        exact ⟨p4, p5, rfl, rfl, hr4', hr5, hS5⟩
  case rest =>
    obtain ⟨p, q, rfl, rfl, hbp, hbq, hbu⟩ := hcut
    rename World => w1
    have HQ1 : Hid (VQ w k f t s B n cP p st v A la ca q st' v' A' lb cb w1) := ⟨hbt HU2.out hbu, HU0.out.below hbu, hbp, hbq⟩
    clear hbp hbq hbu HU0 HU1 HU2
    go_wp2_with fail
    refine (rawake_any hchk happ _ (HK.out.below HQ1.out.1)).mono ?_
    rintro e w2 ⟨rfl, hb2⟩
    have HQ2 := Lib.hid (HQ1.out.below hb2)
    clear hb2 HQ1
    obtain ⟨⟨r0, r1, r2, r3, r4⟩, ⟨a0, a1, a2⟩, b0, b1, b2⟩ := HQ2.out.cells
    go_wp2_with fail
    clear r0 r1 r2 r3 r4 a0 a1 a2 b0 b1 b2
    cases hg : rgreatB s P
    · rw [hg] at HG
      have hl3 := (HGI.out hg).2
      clear hg HGI
      refine (HG.out _ (HP.out.below HQ2.out.1)).mono ?_
      rintro e w3 ⟨rfl, hb3⟩
      have HQ3 := Lib.hid (HQ2.out.below hb3)
      clear hb3 HQ2 HG
      obtain ⟨⟨r0, r1, r2, r3, r4⟩, ⟨a0, a1, a2⟩, b0, b1, b2⟩ := HQ3.out.cells
      by_cases h1 : 200 < la
      · go_wp2_with fail
        refine (rawake_any hchk happ _ (HK.out.below HQ3.out.1)).mono ?_
        rintro e wz ⟨rfl, hbz⟩
        have HBZ := Lib.hid (hbt HQ3.out.1 hbz)
        clear hbz
        go_wp2
        go_ret
        exact ⟨rfl, HBZ.out⟩
      · by_cases h2 : 200 < lb
        · go_wp2_with fail
          refine (rawake_any hchk happ _ (HK.out.below HQ3.out.1)).mono ?_
          rintro e wz ⟨rfl, hbz⟩
          have HBZ := Lib.hid (hbt HQ3.out.1 hbz)
          clear hbz
          go_wp2
          go_ret
          exact ⟨rfl, HBZ.out⟩
        · by_cases h3 : 1200 < x.size
          · go_wp2_with fail
            refine (rawake_any hchk happ _ (HK.out.below HQ3.out.1)).mono ?_
            rintro e wz ⟨rfl, hbz⟩
            have HBZ := Lib.hid (hbt HQ3.out.1 hbz)
            clear hbz
            go_wp2
            go_ret
            exact ⟨rfl, HBZ.out⟩
          · have HCK1 := Lib.hid (HCK.out hl3 (by omega) (by omega))
            have HRA1 := Lib.hid (HRA.out (by omega))
            have HRB1 := Lib.hid (HRB.out (by omega))
            have HFA1 := Lib.hid (HFA.out (by omega))
            have HF2 := Lib.hid (HFB.out (by omega))
            have HAP := Lib.hid (HAP0.out hl3 (by omega) (by omega))
            clear HCK HRA HRB HFA HFB HAP0
            go_wp2_with fail
            clear r0 r1 r2 r3 r4 a0 a1 a2 b0 b1 b2
            refine (HCK1.out _ (HK.out.below HQ3.out.1) (HP.out.below HQ3.out.1) (HA.out.below HQ3.out.1) (HB.out.below HQ3.out.1)).mono ?_
            rintro e w4 ⟨rfl, hb4⟩
            have HQ4 := Lib.hid (HQ3.out.below hb4)
            clear hb4 HQ3 HCK1
            obtain ⟨⟨r0, r1, r2, r3, r4⟩, ⟨a0, a1, a2⟩, b0, b1, b2⟩ := HQ4.out.cells
            by_cases hn : rulN k f t s P a b = 0
            · rw [hn]
              have HRV1 := Lib.hid (fun hb hx => HRV.out hn hb hx)
              clear hn HRV
              go_wp2_with fail
              clear r0 r1 r2 r3 r4 a0 a1 a2 b0 b1 b2
              refine (HRA1.out _ (HA.out.below HQ4.out.1)).mono ?_
              rintro e w5 ⟨rfl, hb5⟩
              have HQ5 := Lib.hid (HQ4.out.below hb5)
              clear hb5 HQ4 HRA1
              obtain ⟨⟨r0, r1, r2, r3, r4⟩, ⟨a0, a1, a2⟩, b0, b1, b2⟩ := HQ5.out.cells
              cases hra : decide ((schN st v a).1 = 0)
              · clear hra
                go_wp2_with fail
                refine (rawake_any hchk happ _ (HK.out.below HQ5.out.1)).mono ?_
                rintro e wz ⟨rfl, hbz⟩
                have HBZ := Lib.hid (hbt HQ5.out.1 hbz)
                clear hbz
                go_wp2
                go_ret
                exact ⟨rfl, HBZ.out⟩
              · clear hra
                go_wp2_with fail
                clear r0 r1 r2 r3 r4 a0 a1 a2 b0 b1 b2
                refine (HRB1.out _ (HB.out.below HQ5.out.1)).mono ?_
                rintro e w6 ⟨rfl, hb6⟩
                have HQ6 := Lib.hid (HQ5.out.below hb6)
                clear hb6 HQ5 HRB1
                obtain ⟨⟨r0, r1, r2, r3, r4⟩, ⟨a0, a1, a2⟩, b0, b1, b2⟩ := HQ6.out.cells
                cases hrb : decide ((schN st' v' b).1 = 0)
                · clear hrb
                  go_wp2_with fail
                  refine (rawake_any hchk happ _ (HK.out.below HQ6.out.1)).mono ?_
                  rintro e wz ⟨rfl, hbz⟩
                  have HBZ := Lib.hid (hbt HQ6.out.1 hbz)
                  clear hbz
                  go_wp2
                  go_ret
                  exact ⟨rfl, HBZ.out⟩
                · have HRV2 := Lib.hid (HRV1.out (by simpa using hrb))
                  clear hrb HRV1
                  generalize (rapN k t s P b x).1 = z1 at *
                  generalize (rapN k t s P b x).2.1 = z2 at *
                  generalize (rapN k t s P b x).2.2 = z3 at *
                  have HZS := HZS0
                  clear HZS0
                  go_wp2_with fail
                  clear r0 r1 r2 r3 r4 a0 a1 a2 b0 b1 b2
                  refine (HFA1.out _ (HA.out.below HQ6.out.1)).mono ?_
                  rintro e w7 ⟨rfl, hb7⟩
                  have HQ7 := Lib.hid (HQ6.out.below hb7)
                  clear hb7 HQ6 HFA1
                  obtain ⟨⟨r0, r1, r2, r3, r4⟩, ⟨a0, a1, a2⟩, b0, b1, b2⟩ := HQ7.out.cells
                  rcases fnd_cases f a with ⟨hi, _⟩ | ⟨i, hil, hi, hp⟩
                  · have HZ := HRV2.out (fun i _ h _ => by rw [hi] at h; omega)
                    rw [hi]
                    clear HRV2 hi
                    go_wp2_with fail
                    clear r0 r1 r2 r3 r4 a0 a1 a2 b0 b1 b2
                    refine (HAP.out _ (HK.out.below HQ7.out.1) (HP.out.below HQ7.out.1) (HB.out.below HQ7.out.1)).mono ?_
                    rintro e wA ⟨rfl, hbA⟩
                    have hbA' := hbt hbA (below_al wA (.cells #[.int .i64 z1, .string z2] 37))
                    have HQA := Lib.hid (HQ7.out.below hbA')
                    have HVA : Hid ((wA.alloc (.cells #[.int .i64 z1, .string z2] 37)).heap[wA.heap.size]? = some (.cells #[.int .i64 z1, .string z2] 37)) := heap_alloc_new _ _
                    clear hbA hbA' HQ7 HAP
                    rcases HZ with ⟨hz, hk, hz1, hz2⟩ | ⟨hz, hk, hz1, hz2⟩ | ⟨hz, hk, hz1, j, hj, hji, hjv⟩
                    · subst hz1
                      subst hz2
                      rcases hk with ⟨rfl, rfl⟩ | ⟨rfl, rfl⟩
                      · obtain ⟨⟨r0, r1, r2, r3, r4⟩, ⟨a0, a1, a2⟩, b0, b1, b2⟩ := HQA.out.cells
                        obtain ⟨v0, v1, _, _⟩ := obj_cells HVA.out
                        clear HVA hz
                        go_wp2
                        go_ret
                        exact ⟨rfl, HQA.out.1⟩
                      · obtain ⟨⟨r0, r1, r2, r3, r4⟩, ⟨a0, a1, a2⟩, b0, b1, b2⟩ := HQA.out.cells
                        obtain ⟨v0, v1, _, _⟩ := obj_cells HVA.out
                        clear HVA hz
                        go_wp2
                        go_ret
                        exact ⟨rfl, HQA.out.1⟩
                    · subst hz
                      subst hk
                      subst hz1
                      subst hz2
                      obtain ⟨⟨r0, r1, r2, r3, r4⟩, ⟨a0, a1, a2⟩, b0, b1, b2⟩ := HQA.out.cells
                      obtain ⟨v0, v1, _, _⟩ := obj_cells HVA.out
                      clear HVA
                      go_wp2
                      go_ret
                      exact ⟨rfl, HQA.out.1⟩
                    · subst hz
                      subst hz1
                      have tk : (k == 2) = false := by simpa using hk
                      rw [hji] at HF2
                      obtain ⟨⟨r0, r1, r2, r3, r4⟩, ⟨a0, a1, a2⟩, b0, b1, b2⟩ := HQA.out.cells
                      obtain ⟨v0, v1, _, _⟩ := obj_cells HVA.out
                      obtain ⟨bb, n2, c2, f2, lo2, hi2, rfl, hxb, hcb⟩ := spl_all HB.out (by rw [HLB.out]; exact hj : j < b.length)
                      have HCB := Lib.hid hcb
                      have hv0 : spv n2 c2 f2 lo2 hi2 z2 = 0 := by rw [hxb] at hjv; exact hjv
                      have HV := Lib.hid (fun W => sprefValue_any n2 c2 f2 lo2 hi2 z2 W HZS.out)
                      rw [hv0] at HV
                      have hjl : j < lb := hj
                      clear hk hji hxb hcb hjv hv0 hj
                      go_wp2_with fail
                      clear r0 r1 r2 r3 r4 a0 a1 a2 b0 b1 b2 v0 v1
                      refine (HF2.out _ (HB.out.below HQA.out.1)).mono ?_
                      rintro e wF ⟨rfl, hbF⟩
                      have HQF := Lib.hid (HQA.out.below hbF)
                      have HVF := Lib.hid (obj_below HVA.out hbF)
                      clear hbF HVA HQA
                      go_wp2_with fail
                      refine wp_region_noPanic ?_
                      refine wp_region_held_drew (S := (fun u => Below wF.heap.size wF u)) (by kernel_rfl) ((Below.refl _ _).drew) (fun hS => ?_)
                      refine give_val (i := 0) (v := ?_) rfl (by kernel_rfl) (by kernel_rfl) (by kernel_rfl) (fun _ _ _ h => h) (by rfl) (fun u hu => ?_) hS ?_
                      rotate_left
                      · ((obtain ⟨⟨r0, r1, r2, r3, r4⟩, ⟨a0, a1, a2⟩, b0, b1, b2⟩ := (HQF.out.below hu).cells; obtain ⟨v0, v1, _, _⟩ := obj_cells (obj_below HVF.out hu); obtain ⟨y0, y1, y2, y3, y4⟩ := HCB.out _ (hbt HQF.out.1 hu)); go_simp; try (with_reducible rfl))
                      try simp only [Act.put, List.setIfInBounds_toArray, List.set_cons_zero, List.set_cons_succ]
                      refine give_val (i := 1) (v := ?_) rfl (by kernel_rfl) (by kernel_rfl) (by kernel_rfl) (fun _ _ _ h => h) (by rfl) (fun u hu => ?_) hS ?_
                      rotate_left
                      · ((obtain ⟨⟨r0, r1, r2, r3, r4⟩, ⟨a0, a1, a2⟩, b0, b1, b2⟩ := (HQF.out.below hu).cells; obtain ⟨v0, v1, _, _⟩ := obj_cells (obj_below HVF.out hu); obtain ⟨y0, y1, y2, y3, y4⟩ := HCB.out _ (hbt HQF.out.1 hu)); go_simp; try (with_reducible rfl))
                      try simp only [Act.put, List.setIfInBounds_toArray, List.set_cons_zero, List.set_cons_succ]
                      refine give_val (i := 2) (v := ?_) rfl (by kernel_rfl) (by kernel_rfl) (by kernel_rfl) (fun _ _ _ h => h) (by rfl) (fun u hu => ?_) hS ?_
                      rotate_left
                      · ((obtain ⟨⟨r0, r1, r2, r3, r4⟩, ⟨a0, a1, a2⟩, b0, b1, b2⟩ := (HQF.out.below hu).cells; obtain ⟨v0, v1, _, _⟩ := obj_cells (obj_below HVF.out hu); obtain ⟨y0, y1, y2, y3, y4⟩ := HCB.out _ (hbt HQF.out.1 hu)); go_simp; try (with_reducible rfl))
                      try simp only [Act.put, List.setIfInBounds_toArray, List.set_cons_zero, List.set_cons_succ]
                      refine give_val (i := 3) (v := ?_) rfl (by kernel_rfl) (by kernel_rfl) (by kernel_rfl) (fun _ _ _ h => h) (by rfl) (fun u hu => ?_) hS ?_
                      rotate_left
                      · ((obtain ⟨⟨r0, r1, r2, r3, r4⟩, ⟨a0, a1, a2⟩, b0, b1, b2⟩ := (HQF.out.below hu).cells; obtain ⟨v0, v1, _, _⟩ := obj_cells (obj_below HVF.out hu); obtain ⟨y0, y1, y2, y3, y4⟩ := HCB.out _ (hbt HQF.out.1 hu)); go_simp; try (with_reducible rfl))
                      try simp only [Act.put, List.setIfInBounds_toArray, List.set_cons_zero, List.set_cons_succ]
                      refine give_val (i := 4) (v := ?_) rfl (by kernel_rfl) (by kernel_rfl) (by kernel_rfl) (fun _ _ _ h => h) (by rfl) (fun u hu => ?_) hS ?_
                      rotate_left
                      · ((obtain ⟨⟨r0, r1, r2, r3, r4⟩, ⟨a0, a1, a2⟩, b0, b1, b2⟩ := (HQF.out.below hu).cells; obtain ⟨v0, v1, _, _⟩ := obj_cells (obj_below HVF.out hu); obtain ⟨y0, y1, y2, y3, y4⟩ := HCB.out _ (hbt HQF.out.1 hu)); go_simp; try (with_reducible rfl))
                      try simp only [Act.put, List.setIfInBounds_toArray, List.set_cons_zero, List.set_cons_succ]
                      refine give_val (i := 5) (v := ?_) rfl (by kernel_rfl) (by kernel_rfl) (by kernel_rfl) (fun _ _ _ h => h) (by rfl) (fun u hu => ?_) hS ?_
                      rotate_left
                      · ((obtain ⟨⟨r0, r1, r2, r3, r4⟩, ⟨a0, a1, a2⟩, b0, b1, b2⟩ := (HQF.out.below hu).cells; obtain ⟨v0, v1, _, _⟩ := obj_cells (obj_below HVF.out hu); obtain ⟨y0, y1, y2, y3, y4⟩ := HCB.out _ (hbt HQF.out.1 hu)); go_simp; try (with_reducible rfl))
                      try simp only [Act.put, List.setIfInBounds_toArray, List.set_cons_zero, List.set_cons_succ]
                      refine give_val (i := 6) (v := ?_) rfl (by kernel_rfl) (by kernel_rfl) (by kernel_rfl) (fun _ _ _ h => h) (by rfl) (fun u hu => ?_) hS ?_
                      rotate_left
                      · ((obtain ⟨⟨r0, r1, r2, r3, r4⟩, ⟨a0, a1, a2⟩, b0, b1, b2⟩ := (HQF.out.below hu).cells; obtain ⟨v0, v1, _, _⟩ := obj_cells (obj_below HVF.out hu); obtain ⟨y0, y1, y2, y3, y4⟩ := HCB.out _ (hbt HQF.out.1 hu)); go_simp; try (with_reducible rfl))
                      try simp only [Act.put, List.setIfInBounds_toArray, List.set_cons_zero, List.set_cons_succ]
                      refine give_val (i := 7) (v := ?_) rfl (by kernel_rfl) (by kernel_rfl) (by kernel_rfl) (fun _ _ _ h => h) (by rfl) (fun u hu => ?_) hS ?_
                      rotate_left
                      · ((obtain ⟨⟨r0, r1, r2, r3, r4⟩, ⟨a0, a1, a2⟩, b0, b1, b2⟩ := (HQF.out.below hu).cells; obtain ⟨v0, v1, _, _⟩ := obj_cells (obj_below HVF.out hu); obtain ⟨y0, y1, y2, y3, y4⟩ := HCB.out _ (hbt HQF.out.1 hu)); go_simp; try (with_reducible rfl))
                      try simp only [Act.put, List.setIfInBounds_toArray, List.set_cons_zero, List.set_cons_succ]
                      refine give_val (i := 8) (v := ?_) rfl (by kernel_rfl) (by kernel_rfl) (by kernel_rfl) (fun _ _ _ h => h) (by rfl) (fun u hu => ?_) hS ?_
                      rotate_left
                      · ((obtain ⟨⟨r0, r1, r2, r3, r4⟩, ⟨a0, a1, a2⟩, b0, b1, b2⟩ := (HQF.out.below hu).cells; obtain ⟨v0, v1, _, _⟩ := obj_cells (obj_below HVF.out hu); obtain ⟨y0, y1, y2, y3, y4⟩ := HCB.out _ (hbt HQF.out.1 hu)); go_simp; try (with_reducible rfl))
                      try simp only [Act.put, List.setIfInBounds_toArray, List.set_cons_zero, List.set_cons_succ]
                      refine give_val (i := 9) (v := ?_) rfl (by kernel_rfl) (by kernel_rfl) (by kernel_rfl) (fun _ _ _ h => h) (by rfl) (fun u hu => ?_) hS ?_
                      rotate_left
                      · ((obtain ⟨⟨r0, r1, r2, r3, r4⟩, ⟨a0, a1, a2⟩, b0, b1, b2⟩ := (HQF.out.below hu).cells; obtain ⟨v0, v1, _, _⟩ := obj_cells (obj_below HVF.out hu); obtain ⟨y0, y1, y2, y3, y4⟩ := HCB.out _ (hbt HQF.out.1 hu)); go_simp; try (with_reducible rfl))
                      try simp only [Act.put, List.setIfInBounds_toArray, List.set_cons_zero, List.set_cons_succ]
                      refine give_val (i := 10) (v := ?_) rfl (by kernel_rfl) (by kernel_rfl) (by kernel_rfl) (fun _ _ _ h => h) (by rfl) (fun u hu => ?_) hS ?_
                      rotate_left
                      · ((obtain ⟨⟨r0, r1, r2, r3, r4⟩, ⟨a0, a1, a2⟩, b0, b1, b2⟩ := (HQF.out.below hu).cells; obtain ⟨v0, v1, _, _⟩ := obj_cells (obj_below HVF.out hu); obtain ⟨y0, y1, y2, y3, y4⟩ := HCB.out _ (hbt HQF.out.1 hu)); go_simp; try (with_reducible rfl))
                      try simp only [Act.put, List.setIfInBounds_toArray, List.set_cons_zero, List.set_cons_succ]
                      refine give_val (i := 11) (v := ?_) rfl (by kernel_rfl) (by kernel_rfl) (by kernel_rfl) (fun _ _ _ h => h) (by rfl) (fun u hu => ?_) hS ?_
                      rotate_left
                      · ((obtain ⟨⟨r0, r1, r2, r3, r4⟩, ⟨a0, a1, a2⟩, b0, b1, b2⟩ := (HQF.out.below hu).cells; obtain ⟨v0, v1, _, _⟩ := obj_cells (obj_below HVF.out hu); obtain ⟨y0, y1, y2, y3, y4⟩ := HCB.out _ (hbt HQF.out.1 hu)); go_simp; try (with_reducible rfl))
                      try simp only [Act.put, List.setIfInBounds_toArray, List.set_cons_zero, List.set_cons_succ]
                      refine give_val (i := 12) (v := ?_) rfl (by kernel_rfl) (by kernel_rfl) (by kernel_rfl) (fun _ _ _ h => h) (by rfl) (fun u hu => ?_) hS ?_
                      rotate_left
                      · ((obtain ⟨⟨r0, r1, r2, r3, r4⟩, ⟨a0, a1, a2⟩, b0, b1, b2⟩ := (HQF.out.below hu).cells; obtain ⟨v0, v1, _, _⟩ := obj_cells (obj_below HVF.out hu); obtain ⟨y0, y1, y2, y3, y4⟩ := HCB.out _ (hbt HQF.out.1 hu)); go_simp; try (with_reducible rfl))
                      try simp only [Act.put, List.setIfInBounds_toArray, List.set_cons_zero, List.set_cons_succ]
                      refine give_val (i := 13) (v := ?_) rfl (by kernel_rfl) (by kernel_rfl) (by kernel_rfl) (fun _ _ _ h => h) (by rfl) (fun u hu => ?_) hS ?_
                      rotate_left
                      · ((obtain ⟨⟨r0, r1, r2, r3, r4⟩, ⟨a0, a1, a2⟩, b0, b1, b2⟩ := (HQF.out.below hu).cells; obtain ⟨v0, v1, _, _⟩ := obj_cells (obj_below HVF.out hu); obtain ⟨y0, y1, y2, y3, y4⟩ := HCB.out _ (hbt HQF.out.1 hu)); go_simp; try (with_reducible rfl))
                      try simp only [Act.put, List.setIfInBounds_toArray, List.set_cons_zero, List.set_cons_succ]
                      refine give_val (i := 14) (v := ?_) rfl (by kernel_rfl) (by kernel_rfl) (by kernel_rfl) (fun _ _ _ h => h) (by rfl) (fun u hu => ?_) hS ?_
                      rotate_left
                      · ((obtain ⟨⟨r0, r1, r2, r3, r4⟩, ⟨a0, a1, a2⟩, b0, b1, b2⟩ := (HQF.out.below hu).cells; obtain ⟨v0, v1, _, _⟩ := obj_cells (obj_below HVF.out hu); obtain ⟨y0, y1, y2, y3, y4⟩ := HCB.out _ (hbt HQF.out.1 hu)); go_simp; try (with_reducible rfl))
                      try simp only [Act.put, List.setIfInBounds_toArray, List.set_cons_zero, List.set_cons_succ]
                      refine give_val (i := 15) (v := ?_) rfl (by kernel_rfl) (by kernel_rfl) (by kernel_rfl) (fun _ _ _ h => h) (by rfl) (fun u hu => ?_) hS ?_
                      rotate_left
                      · ((obtain ⟨⟨r0, r1, r2, r3, r4⟩, ⟨a0, a1, a2⟩, b0, b1, b2⟩ := (HQF.out.below hu).cells; obtain ⟨v0, v1, _, _⟩ := obj_cells (obj_below HVF.out hu); obtain ⟨y0, y1, y2, y3, y4⟩ := HCB.out _ (hbt HQF.out.1 hu)); go_simp; try (with_reducible rfl))
                      try simp only [Act.put, List.setIfInBounds_toArray, List.set_cons_zero, List.set_cons_succ]
                      refine give_val (i := 16) (v := ?_) rfl (by kernel_rfl) (by kernel_rfl) (by kernel_rfl) (fun _ _ _ h => h) (by rfl) (fun u hu => ?_) hS ?_
                      rotate_left
                      · ((obtain ⟨⟨r0, r1, r2, r3, r4⟩, ⟨a0, a1, a2⟩, b0, b1, b2⟩ := (HQF.out.below hu).cells; obtain ⟨v0, v1, _, _⟩ := obj_cells (obj_below HVF.out hu); obtain ⟨y0, y1, y2, y3, y4⟩ := HCB.out _ (hbt HQF.out.1 hu)); go_simp; try (with_reducible rfl))
                      try simp only [Act.put, List.setIfInBounds_toArray, List.set_cons_zero, List.set_cons_succ]
                      refine only_call (i := 17) 17 #[.agg #[.int .i64 n2, .int .i64 c2, .int .i64 f2, .int .i64 lo2, .int .i64 hi2], .string z2] rfl (by kernel_rfl) (by rfl) ((HV.out _).mono fun e w' he => ⟨he.1, hbt hS he.2⟩) ?_ ?_
                      · (go_simp; try (with_reducible rfl))
                      clear hS
                      intro w17 hS
                      try simp only [Act.put, List.setIfInBounds_toArray, List.set_cons_zero, List.set_cons_succ]
                      refine give_val (i := 18) (v := ?_) rfl (by kernel_rfl) (by kernel_rfl) (by kernel_rfl) (fun _ _ _ h => h) (by rfl) (fun u hu => ?_) hS ?_
                      rotate_left
                      · ((obtain ⟨⟨r0, r1, r2, r3, r4⟩, ⟨a0, a1, a2⟩, b0, b1, b2⟩ := (HQF.out.below hu).cells; obtain ⟨v0, v1, _, _⟩ := obj_cells (obj_below HVF.out hu); obtain ⟨y0, y1, y2, y3, y4⟩ := HCB.out _ (hbt HQF.out.1 hu)); go_simp; try (with_reducible rfl))
                      try simp only [Act.put, List.setIfInBounds_toArray, List.set_cons_zero, List.set_cons_succ]
                      refine give_val (i := 19) (v := ?_) rfl (by kernel_rfl) (by kernel_rfl) (by kernel_rfl) (fun _ _ _ h => h) (by rfl) (fun u hu => ?_) hS ?_
                      rotate_left
                      · ((obtain ⟨⟨r0, r1, r2, r3, r4⟩, ⟨a0, a1, a2⟩, b0, b1, b2⟩ := (HQF.out.below hu).cells; obtain ⟨v0, v1, _, _⟩ := obj_cells (obj_below HVF.out hu); obtain ⟨y0, y1, y2, y3, y4⟩ := HCB.out _ (hbt HQF.out.1 hu)); go_simp; try (with_reducible rfl))
                      try simp only [Act.put, List.setIfInBounds_toArray, List.set_cons_zero, List.set_cons_succ]
                      refine give_val (i := 20) (v := ?_) rfl (by kernel_rfl) (by kernel_rfl) (by kernel_rfl) (fun _ _ _ h => h) (by rfl) (fun u hu => ?_) hS ?_
                      rotate_left
                      · ((obtain ⟨⟨r0, r1, r2, r3, r4⟩, ⟨a0, a1, a2⟩, b0, b1, b2⟩ := (HQF.out.below hu).cells; obtain ⟨v0, v1, _, _⟩ := obj_cells (obj_below HVF.out hu); obtain ⟨y0, y1, y2, y3, y4⟩ := HCB.out _ (hbt HQF.out.1 hu)); go_simp; try (with_reducible rfl))
                      try simp only [Act.put, List.setIfInBounds_toArray, List.set_cons_zero, List.set_cons_succ]
                      refine wpAnyH_done (by kernel_rfl) (NoPanic.normal ?_) _
                      have HBZ := Lib.hid (hbt HQF.out.1 hS)
                      clear hS
                      go_wp2
                      go_ret
                      exact ⟨rfl, HBZ.out⟩
                  · rw [hi]
                    obtain ⟨aa, n1, c1, f1, lo1, hi1, rfl, hxa, hca⟩ := spl_all HA.out hil
                    have hil2 : i < la := by rw [← HLA.out]; exact hil
                    obtain ⟨x0, x1, x2, x3, x4⟩ := hca _ HQ7.out.1
                    have HV1 := Lib.hid (HVL.out n1 c1 f1 lo1 hi1)
                    have HRV3 : Hid (spv n1 c1 f1 lo1 hi1 x = 0 → _) := fun h => HRV2.out (fun i' _ h1 _ => by rw [hi] at h1; obtain rfl : i = i' := (by omega); rw [hxa]; exact h)
                    clear HRV2 hi hp hxa hca hil HA
                    go_wp2_with fail
                    clear r0 r1 r2 r3 r4 a0 a1 a2 b0 b1 b2 x0 x1 x2 x3 x4
                    refine (HV1.out _).mono ?_
                    rintro e w8 ⟨rfl, hb8⟩
                    have HQ8 := Lib.hid (HQ7.out.below hb8)
                    clear hb8 HQ7 HV1
                    obtain ⟨⟨r0, r1, r2, r3, r4⟩, ⟨a0, a1, a2⟩, b0, b1, b2⟩ := HQ8.out.cells
                    by_cases hr : spv n1 c1 f1 lo1 hi1 x = 0
                    · rw [hr]
                      have HZ := HRV3.out hr
                      clear HRV3 hr
                      go_wp2_with fail
                      clear r0 r1 r2 r3 r4 a0 a1 a2 b0 b1 b2
                      refine (HAP.out _ (HK.out.below HQ8.out.1) (HP.out.below HQ8.out.1) (HB.out.below HQ8.out.1)).mono ?_
                      rintro e wA ⟨rfl, hbA⟩
                      have hbA' := hbt hbA (below_al wA (.cells #[.int .i64 z1, .string z2] 37))
                      have HQA := Lib.hid (HQ8.out.below hbA')
                      have HVA : Hid ((wA.alloc (.cells #[.int .i64 z1, .string z2] 37)).heap[wA.heap.size]? = some (.cells #[.int .i64 z1, .string z2] 37)) := heap_alloc_new _ _
                      clear hbA hbA' HQ8 HAP
                      rcases HZ with ⟨hz, hk, hz1, hz2⟩ | ⟨hz, hk, hz1, hz2⟩ | ⟨hz, hk, hz1, j, hj, hji, hjv⟩
                      · subst hz1
                        subst hz2
                        rcases hk with ⟨rfl, rfl⟩ | ⟨rfl, rfl⟩
                        · obtain ⟨⟨r0, r1, r2, r3, r4⟩, ⟨a0, a1, a2⟩, b0, b1, b2⟩ := HQA.out.cells
                          obtain ⟨v0, v1, _, _⟩ := obj_cells HVA.out
                          clear HVA hz
                          go_wp2
                          go_ret
                          exact ⟨rfl, HQA.out.1⟩
                        · obtain ⟨⟨r0, r1, r2, r3, r4⟩, ⟨a0, a1, a2⟩, b0, b1, b2⟩ := HQA.out.cells
                          obtain ⟨v0, v1, _, _⟩ := obj_cells HVA.out
                          clear HVA hz
                          go_wp2
                          go_ret
                          exact ⟨rfl, HQA.out.1⟩
                      · subst hz
                        subst hk
                        subst hz1
                        subst hz2
                        obtain ⟨⟨r0, r1, r2, r3, r4⟩, ⟨a0, a1, a2⟩, b0, b1, b2⟩ := HQA.out.cells
                        obtain ⟨v0, v1, _, _⟩ := obj_cells HVA.out
                        clear HVA
                        go_wp2
                        go_ret
                        exact ⟨rfl, HQA.out.1⟩
                      · subst hz
                        subst hz1
                        have tk : (k == 2) = false := by simpa using hk
                        rw [hji] at HF2
                        obtain ⟨⟨r0, r1, r2, r3, r4⟩, ⟨a0, a1, a2⟩, b0, b1, b2⟩ := HQA.out.cells
                        obtain ⟨v0, v1, _, _⟩ := obj_cells HVA.out
                        obtain ⟨bb, n2, c2, f2, lo2, hi2, rfl, hxb, hcb⟩ := spl_all HB.out (by rw [HLB.out]; exact hj : j < b.length)
                        have HCB := Lib.hid hcb
                        have hv0 : spv n2 c2 f2 lo2 hi2 z2 = 0 := by rw [hxb] at hjv; exact hjv
                        have HV := Lib.hid (fun W => sprefValue_any n2 c2 f2 lo2 hi2 z2 W HZS.out)
                        rw [hv0] at HV
                        have hjl : j < lb := hj
                        clear hk hji hxb hcb hjv hv0 hj
                        go_wp2_with fail
                        clear r0 r1 r2 r3 r4 a0 a1 a2 b0 b1 b2 v0 v1
                        refine (HF2.out _ (HB.out.below HQA.out.1)).mono ?_
                        rintro e wF ⟨rfl, hbF⟩
                        have HQF := Lib.hid (HQA.out.below hbF)
                        have HVF := Lib.hid (obj_below HVA.out hbF)
                        clear hbF HVA HQA
                        go_wp2_with fail
                        refine wp_region_noPanic ?_
                        refine wp_region_held_drew (S := (fun u => Below wF.heap.size wF u)) (by kernel_rfl) ((Below.refl _ _).drew) (fun hS => ?_)
                        refine give_val (i := 0) (v := ?_) rfl (by kernel_rfl) (by kernel_rfl) (by kernel_rfl) (fun _ _ _ h => h) (by rfl) (fun u hu => ?_) hS ?_
                        rotate_left
                        · ((obtain ⟨⟨r0, r1, r2, r3, r4⟩, ⟨a0, a1, a2⟩, b0, b1, b2⟩ := (HQF.out.below hu).cells; obtain ⟨v0, v1, _, _⟩ := obj_cells (obj_below HVF.out hu); obtain ⟨y0, y1, y2, y3, y4⟩ := HCB.out _ (hbt HQF.out.1 hu)); go_simp; try (with_reducible rfl))
                        try simp only [Act.put, List.setIfInBounds_toArray, List.set_cons_zero, List.set_cons_succ]
                        refine give_val (i := 1) (v := ?_) rfl (by kernel_rfl) (by kernel_rfl) (by kernel_rfl) (fun _ _ _ h => h) (by rfl) (fun u hu => ?_) hS ?_
                        rotate_left
                        · ((obtain ⟨⟨r0, r1, r2, r3, r4⟩, ⟨a0, a1, a2⟩, b0, b1, b2⟩ := (HQF.out.below hu).cells; obtain ⟨v0, v1, _, _⟩ := obj_cells (obj_below HVF.out hu); obtain ⟨y0, y1, y2, y3, y4⟩ := HCB.out _ (hbt HQF.out.1 hu)); go_simp; try (with_reducible rfl))
                        try simp only [Act.put, List.setIfInBounds_toArray, List.set_cons_zero, List.set_cons_succ]
                        refine give_val (i := 2) (v := ?_) rfl (by kernel_rfl) (by kernel_rfl) (by kernel_rfl) (fun _ _ _ h => h) (by rfl) (fun u hu => ?_) hS ?_
                        rotate_left
                        · ((obtain ⟨⟨r0, r1, r2, r3, r4⟩, ⟨a0, a1, a2⟩, b0, b1, b2⟩ := (HQF.out.below hu).cells; obtain ⟨v0, v1, _, _⟩ := obj_cells (obj_below HVF.out hu); obtain ⟨y0, y1, y2, y3, y4⟩ := HCB.out _ (hbt HQF.out.1 hu)); go_simp; try (with_reducible rfl))
                        try simp only [Act.put, List.setIfInBounds_toArray, List.set_cons_zero, List.set_cons_succ]
                        refine give_val (i := 3) (v := ?_) rfl (by kernel_rfl) (by kernel_rfl) (by kernel_rfl) (fun _ _ _ h => h) (by rfl) (fun u hu => ?_) hS ?_
                        rotate_left
                        · ((obtain ⟨⟨r0, r1, r2, r3, r4⟩, ⟨a0, a1, a2⟩, b0, b1, b2⟩ := (HQF.out.below hu).cells; obtain ⟨v0, v1, _, _⟩ := obj_cells (obj_below HVF.out hu); obtain ⟨y0, y1, y2, y3, y4⟩ := HCB.out _ (hbt HQF.out.1 hu)); go_simp; try (with_reducible rfl))
                        try simp only [Act.put, List.setIfInBounds_toArray, List.set_cons_zero, List.set_cons_succ]
                        refine give_val (i := 4) (v := ?_) rfl (by kernel_rfl) (by kernel_rfl) (by kernel_rfl) (fun _ _ _ h => h) (by rfl) (fun u hu => ?_) hS ?_
                        rotate_left
                        · ((obtain ⟨⟨r0, r1, r2, r3, r4⟩, ⟨a0, a1, a2⟩, b0, b1, b2⟩ := (HQF.out.below hu).cells; obtain ⟨v0, v1, _, _⟩ := obj_cells (obj_below HVF.out hu); obtain ⟨y0, y1, y2, y3, y4⟩ := HCB.out _ (hbt HQF.out.1 hu)); go_simp; try (with_reducible rfl))
                        try simp only [Act.put, List.setIfInBounds_toArray, List.set_cons_zero, List.set_cons_succ]
                        refine give_val (i := 5) (v := ?_) rfl (by kernel_rfl) (by kernel_rfl) (by kernel_rfl) (fun _ _ _ h => h) (by rfl) (fun u hu => ?_) hS ?_
                        rotate_left
                        · ((obtain ⟨⟨r0, r1, r2, r3, r4⟩, ⟨a0, a1, a2⟩, b0, b1, b2⟩ := (HQF.out.below hu).cells; obtain ⟨v0, v1, _, _⟩ := obj_cells (obj_below HVF.out hu); obtain ⟨y0, y1, y2, y3, y4⟩ := HCB.out _ (hbt HQF.out.1 hu)); go_simp; try (with_reducible rfl))
                        try simp only [Act.put, List.setIfInBounds_toArray, List.set_cons_zero, List.set_cons_succ]
                        refine give_val (i := 6) (v := ?_) rfl (by kernel_rfl) (by kernel_rfl) (by kernel_rfl) (fun _ _ _ h => h) (by rfl) (fun u hu => ?_) hS ?_
                        rotate_left
                        · ((obtain ⟨⟨r0, r1, r2, r3, r4⟩, ⟨a0, a1, a2⟩, b0, b1, b2⟩ := (HQF.out.below hu).cells; obtain ⟨v0, v1, _, _⟩ := obj_cells (obj_below HVF.out hu); obtain ⟨y0, y1, y2, y3, y4⟩ := HCB.out _ (hbt HQF.out.1 hu)); go_simp; try (with_reducible rfl))
                        try simp only [Act.put, List.setIfInBounds_toArray, List.set_cons_zero, List.set_cons_succ]
                        refine give_val (i := 7) (v := ?_) rfl (by kernel_rfl) (by kernel_rfl) (by kernel_rfl) (fun _ _ _ h => h) (by rfl) (fun u hu => ?_) hS ?_
                        rotate_left
                        · ((obtain ⟨⟨r0, r1, r2, r3, r4⟩, ⟨a0, a1, a2⟩, b0, b1, b2⟩ := (HQF.out.below hu).cells; obtain ⟨v0, v1, _, _⟩ := obj_cells (obj_below HVF.out hu); obtain ⟨y0, y1, y2, y3, y4⟩ := HCB.out _ (hbt HQF.out.1 hu)); go_simp; try (with_reducible rfl))
                        try simp only [Act.put, List.setIfInBounds_toArray, List.set_cons_zero, List.set_cons_succ]
                        refine give_val (i := 8) (v := ?_) rfl (by kernel_rfl) (by kernel_rfl) (by kernel_rfl) (fun _ _ _ h => h) (by rfl) (fun u hu => ?_) hS ?_
                        rotate_left
                        · ((obtain ⟨⟨r0, r1, r2, r3, r4⟩, ⟨a0, a1, a2⟩, b0, b1, b2⟩ := (HQF.out.below hu).cells; obtain ⟨v0, v1, _, _⟩ := obj_cells (obj_below HVF.out hu); obtain ⟨y0, y1, y2, y3, y4⟩ := HCB.out _ (hbt HQF.out.1 hu)); go_simp; try (with_reducible rfl))
                        try simp only [Act.put, List.setIfInBounds_toArray, List.set_cons_zero, List.set_cons_succ]
                        refine give_val (i := 9) (v := ?_) rfl (by kernel_rfl) (by kernel_rfl) (by kernel_rfl) (fun _ _ _ h => h) (by rfl) (fun u hu => ?_) hS ?_
                        rotate_left
                        · ((obtain ⟨⟨r0, r1, r2, r3, r4⟩, ⟨a0, a1, a2⟩, b0, b1, b2⟩ := (HQF.out.below hu).cells; obtain ⟨v0, v1, _, _⟩ := obj_cells (obj_below HVF.out hu); obtain ⟨y0, y1, y2, y3, y4⟩ := HCB.out _ (hbt HQF.out.1 hu)); go_simp; try (with_reducible rfl))
                        try simp only [Act.put, List.setIfInBounds_toArray, List.set_cons_zero, List.set_cons_succ]
                        refine give_val (i := 10) (v := ?_) rfl (by kernel_rfl) (by kernel_rfl) (by kernel_rfl) (fun _ _ _ h => h) (by rfl) (fun u hu => ?_) hS ?_
                        rotate_left
                        · ((obtain ⟨⟨r0, r1, r2, r3, r4⟩, ⟨a0, a1, a2⟩, b0, b1, b2⟩ := (HQF.out.below hu).cells; obtain ⟨v0, v1, _, _⟩ := obj_cells (obj_below HVF.out hu); obtain ⟨y0, y1, y2, y3, y4⟩ := HCB.out _ (hbt HQF.out.1 hu)); go_simp; try (with_reducible rfl))
                        try simp only [Act.put, List.setIfInBounds_toArray, List.set_cons_zero, List.set_cons_succ]
                        refine give_val (i := 11) (v := ?_) rfl (by kernel_rfl) (by kernel_rfl) (by kernel_rfl) (fun _ _ _ h => h) (by rfl) (fun u hu => ?_) hS ?_
                        rotate_left
                        · ((obtain ⟨⟨r0, r1, r2, r3, r4⟩, ⟨a0, a1, a2⟩, b0, b1, b2⟩ := (HQF.out.below hu).cells; obtain ⟨v0, v1, _, _⟩ := obj_cells (obj_below HVF.out hu); obtain ⟨y0, y1, y2, y3, y4⟩ := HCB.out _ (hbt HQF.out.1 hu)); go_simp; try (with_reducible rfl))
                        try simp only [Act.put, List.setIfInBounds_toArray, List.set_cons_zero, List.set_cons_succ]
                        refine give_val (i := 12) (v := ?_) rfl (by kernel_rfl) (by kernel_rfl) (by kernel_rfl) (fun _ _ _ h => h) (by rfl) (fun u hu => ?_) hS ?_
                        rotate_left
                        · ((obtain ⟨⟨r0, r1, r2, r3, r4⟩, ⟨a0, a1, a2⟩, b0, b1, b2⟩ := (HQF.out.below hu).cells; obtain ⟨v0, v1, _, _⟩ := obj_cells (obj_below HVF.out hu); obtain ⟨y0, y1, y2, y3, y4⟩ := HCB.out _ (hbt HQF.out.1 hu)); go_simp; try (with_reducible rfl))
                        try simp only [Act.put, List.setIfInBounds_toArray, List.set_cons_zero, List.set_cons_succ]
                        refine give_val (i := 13) (v := ?_) rfl (by kernel_rfl) (by kernel_rfl) (by kernel_rfl) (fun _ _ _ h => h) (by rfl) (fun u hu => ?_) hS ?_
                        rotate_left
                        · ((obtain ⟨⟨r0, r1, r2, r3, r4⟩, ⟨a0, a1, a2⟩, b0, b1, b2⟩ := (HQF.out.below hu).cells; obtain ⟨v0, v1, _, _⟩ := obj_cells (obj_below HVF.out hu); obtain ⟨y0, y1, y2, y3, y4⟩ := HCB.out _ (hbt HQF.out.1 hu)); go_simp; try (with_reducible rfl))
                        try simp only [Act.put, List.setIfInBounds_toArray, List.set_cons_zero, List.set_cons_succ]
                        refine give_val (i := 14) (v := ?_) rfl (by kernel_rfl) (by kernel_rfl) (by kernel_rfl) (fun _ _ _ h => h) (by rfl) (fun u hu => ?_) hS ?_
                        rotate_left
                        · ((obtain ⟨⟨r0, r1, r2, r3, r4⟩, ⟨a0, a1, a2⟩, b0, b1, b2⟩ := (HQF.out.below hu).cells; obtain ⟨v0, v1, _, _⟩ := obj_cells (obj_below HVF.out hu); obtain ⟨y0, y1, y2, y3, y4⟩ := HCB.out _ (hbt HQF.out.1 hu)); go_simp; try (with_reducible rfl))
                        try simp only [Act.put, List.setIfInBounds_toArray, List.set_cons_zero, List.set_cons_succ]
                        refine give_val (i := 15) (v := ?_) rfl (by kernel_rfl) (by kernel_rfl) (by kernel_rfl) (fun _ _ _ h => h) (by rfl) (fun u hu => ?_) hS ?_
                        rotate_left
                        · ((obtain ⟨⟨r0, r1, r2, r3, r4⟩, ⟨a0, a1, a2⟩, b0, b1, b2⟩ := (HQF.out.below hu).cells; obtain ⟨v0, v1, _, _⟩ := obj_cells (obj_below HVF.out hu); obtain ⟨y0, y1, y2, y3, y4⟩ := HCB.out _ (hbt HQF.out.1 hu)); go_simp; try (with_reducible rfl))
                        try simp only [Act.put, List.setIfInBounds_toArray, List.set_cons_zero, List.set_cons_succ]
                        refine give_val (i := 16) (v := ?_) rfl (by kernel_rfl) (by kernel_rfl) (by kernel_rfl) (fun _ _ _ h => h) (by rfl) (fun u hu => ?_) hS ?_
                        rotate_left
                        · ((obtain ⟨⟨r0, r1, r2, r3, r4⟩, ⟨a0, a1, a2⟩, b0, b1, b2⟩ := (HQF.out.below hu).cells; obtain ⟨v0, v1, _, _⟩ := obj_cells (obj_below HVF.out hu); obtain ⟨y0, y1, y2, y3, y4⟩ := HCB.out _ (hbt HQF.out.1 hu)); go_simp; try (with_reducible rfl))
                        try simp only [Act.put, List.setIfInBounds_toArray, List.set_cons_zero, List.set_cons_succ]
                        refine only_call (i := 17) 17 #[.agg #[.int .i64 n2, .int .i64 c2, .int .i64 f2, .int .i64 lo2, .int .i64 hi2], .string z2] rfl (by kernel_rfl) (by rfl) ((HV.out _).mono fun e w' he => ⟨he.1, hbt hS he.2⟩) ?_ ?_
                        · (go_simp; try (with_reducible rfl))
                        clear hS
                        intro w17 hS
                        try simp only [Act.put, List.setIfInBounds_toArray, List.set_cons_zero, List.set_cons_succ]
                        refine give_val (i := 18) (v := ?_) rfl (by kernel_rfl) (by kernel_rfl) (by kernel_rfl) (fun _ _ _ h => h) (by rfl) (fun u hu => ?_) hS ?_
                        rotate_left
                        · ((obtain ⟨⟨r0, r1, r2, r3, r4⟩, ⟨a0, a1, a2⟩, b0, b1, b2⟩ := (HQF.out.below hu).cells; obtain ⟨v0, v1, _, _⟩ := obj_cells (obj_below HVF.out hu); obtain ⟨y0, y1, y2, y3, y4⟩ := HCB.out _ (hbt HQF.out.1 hu)); go_simp; try (with_reducible rfl))
                        try simp only [Act.put, List.setIfInBounds_toArray, List.set_cons_zero, List.set_cons_succ]
                        refine give_val (i := 19) (v := ?_) rfl (by kernel_rfl) (by kernel_rfl) (by kernel_rfl) (fun _ _ _ h => h) (by rfl) (fun u hu => ?_) hS ?_
                        rotate_left
                        · ((obtain ⟨⟨r0, r1, r2, r3, r4⟩, ⟨a0, a1, a2⟩, b0, b1, b2⟩ := (HQF.out.below hu).cells; obtain ⟨v0, v1, _, _⟩ := obj_cells (obj_below HVF.out hu); obtain ⟨y0, y1, y2, y3, y4⟩ := HCB.out _ (hbt HQF.out.1 hu)); go_simp; try (with_reducible rfl))
                        try simp only [Act.put, List.setIfInBounds_toArray, List.set_cons_zero, List.set_cons_succ]
                        refine give_val (i := 20) (v := ?_) rfl (by kernel_rfl) (by kernel_rfl) (by kernel_rfl) (fun _ _ _ h => h) (by rfl) (fun u hu => ?_) hS ?_
                        rotate_left
                        · ((obtain ⟨⟨r0, r1, r2, r3, r4⟩, ⟨a0, a1, a2⟩, b0, b1, b2⟩ := (HQF.out.below hu).cells; obtain ⟨v0, v1, _, _⟩ := obj_cells (obj_below HVF.out hu); obtain ⟨y0, y1, y2, y3, y4⟩ := HCB.out _ (hbt HQF.out.1 hu)); go_simp; try (with_reducible rfl))
                        try simp only [Act.put, List.setIfInBounds_toArray, List.set_cons_zero, List.set_cons_succ]
                        refine wpAnyH_done (by kernel_rfl) (NoPanic.normal ?_) _
                        have HBZ := Lib.hid (hbt HQF.out.1 hS)
                        clear hS
                        go_wp2
                        go_ret
                        exact ⟨rfl, HBZ.out⟩
                    · have tr : (spv n1 c1 f1 lo1 hi1 x != 0) = true := by simpa using hr
                      generalize spv n1 c1 f1 lo1 hi1 x = r at *
                      clear hr HRV3
                      go_wp2
                      go_ret
                      exact ⟨rfl, HQ8.out.1⟩
            · have tn : (rulN k f t s P a b != 0) = true := by simpa using hn
              generalize rulN k f t s P a b = r at *
              clear hn
              go_wp2_with fail
              refine (rawake_any hchk happ _ (HK.out.below HQ4.out.1)).mono ?_
              rintro e wz ⟨rfl, hbz⟩
              have HBZ := Lib.hid (hbt HQ4.out.1 hbz)
              clear hbz
              go_wp2
              go_ret
              exact ⟨rfl, HBZ.out⟩
    · rw [hg] at HG
      clear hg HGI
      refine (HG.out _ (HP.out.below HQ2.out.1)).mono ?_
      rintro e w3 ⟨rfl, hb3⟩
      have HQ3 := Lib.hid (HQ2.out.below hb3)
      clear hb3 HQ2 HG
      obtain ⟨⟨r0, r1, r2, r3, r4⟩, ⟨a0, a1, a2⟩, b0, b1, b2⟩ := HQ3.out.cells
      go_wp2_with fail
      refine (rawake_any hchk happ _ (HK.out.below HQ3.out.1)).mono ?_
      rintro e wz ⟨rfl, hbz⟩
      have HBZ := Lib.hid (hbt HQ3.out.1 hbz)
      clear hbz
      go_wp2
      go_ret
      exact ⟨rfl, HBZ.out⟩

end Go.Proofs.YtkbpinjcenfjlaaDoor
