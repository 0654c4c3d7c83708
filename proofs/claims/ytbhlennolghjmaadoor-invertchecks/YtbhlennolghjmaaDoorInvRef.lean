/-
  What the document's Check of a map that can be undone answers: for every map of up to 400 pairs, each rule of up to 400, in every world.
-/
import Derived.Test.YtbhlennolghjmaaDoorXltGreat
import Derived.Test.YtbhlennolghjmaaDoorInvKeep
import Derived.Test.YtbhlennolghjmaaDoorPackCod
import Derived.Test.YtbhlennolghjmaaDoorPackSpc
import Derived.Test.YtbhlennolghjmaaDoorPackSch
import Derived.Test.YtbhlennolghjmaaDoorPackBase
namespace Go.Proofs.YtbhlennolghjmaaDoor
open Go.RowKit

theorem inv_kind {a b : List Sp} {k f t : Int} {s : ByteArray} {P : List PairT} : ruInv a b (k, f, t, s, P) = if k = 2 ∨ k = 3 then false else if k = 1 ∧ rlW (fndP f a).1 (fndP t b).1 = false then false else if k = 4 ∧ (fndP t b).1.2.2.2.1 < (fndP f a).1.2.2.2.1 then false else if k = 5 ∧ bijB P = false then false else true := rfl
set_option maxRecDepth 100000 in
set_option maxHeartbeats 25600000 in
theorem iref_any (X : Option Addr) (cM : Nat) (M : List PairT) (Y : Option Addr) (cR : Nat) (R : List Ru) (st v : Int) (A : Option Addr) (ca : Nat) (a : List Sp) (st' v' : Int) (A' : Option Addr) (cb : Nat) (b : List Sp) (w : World) (hM : Prs w X M) (hR : Rls w Y R) (hA : Spl w A a) (hB : Spl w A' b) (hla : a.length ≤ 1000) (hlb : b.length ≤ 1000) (hlM : M.length ≤ 400) (hlR : R.length ≤ maxLen) (hcM : M.length ≤ cM) (hf : Fit2 M) (hf3 : Fit3 R) (hP : ∀ r ∈ R, r.2.2.2.2.length ≤ 400) :
    Calls Tryd.prog 12 #[.agg #[.slice X M.length cM, .slice Y R.length cR], .agg #[.int .i64 st, .int .i64 v, .slice A a.length ca], .agg #[.int .i64 st', .int .i64 v', .slice A' b.length cb]] w fun e w' => e = .returned (.bool (invB st v a st' v' b M R)) ∧ Below w.heap.size w w' := by
  have HRT := Lib.hid (fun W k1 k2 k3 k4 => xright_any X cM M Y cR R st v A ca a st' v' A' cb b W k1 k2 k3 k4 hla hlb (by unfold maxLen; omega) hlR hcM hf hf3)
  have HBJ := Lib.hid (fun W h => crbij_any X cM M W h hlM)
  have HBR := Lib.hid (fun B c P W h h2 => crbij_any B c P W h h2)
  have HFA := Lib.hid (fun f W h => sreffind_any st v A ca a f W h hla)
  have HFB := Lib.hid (fun t W h => sreffind_any st' v' A' cb b t W h hlb)
  have HX1 := Lib.hid (@inv_err st v a st' v' b M R)
  have HX2 := Lib.hid (@inv_bij st v a st' v' b M R)
  have HX3 : Hid (∀ i, i < R.length → ruInv a b (ruAt R i) = false → invB st v a st' v' b M R = false) := fun i hi he => inv_bad hi he
  have HX4 : Hid ((xltN st v a st' v' b M R).1 = 0 → bijB M = true → (∀ i, i < R.length → ruInv a b (ruAt R i) = true) → invB st v a st' v' b M R = true) := inv_yes
  have HFD : Hid ((xltN st v a st' v' b M R).1 = 0 → ∀ i k f t s P, i < R.length → ruAt R i = (k, f, t, s, P) → (k = 1 ∨ k = 2 ∨ k = 3 ∨ k = 4 ∨ k = 5) ∧ (k ≠ 3 → (fndP f a).2 = true) ∧ (k ≠ 2 → (fndP t b).2 = true)) := fun h i k f t s P hi hx => inv_found h hi hx
  have HQ0 := Lib.hid (mq_new w X M.length cM Y R.length cR st v A a.length ca st' v' A' b.length cb)
  have HM := Lib.hid hM
  have HR := Lib.hid hR
  have HA := Lib.hid hA
  have HB := Lib.hid hB
  have HP := Lib.hid hP
  have hz1 : (xltN st v a st' v' b M R).1 = 0 ∨ (xltN st v a st' v' b M R).1 ≠ 0 := by omega
  generalize invB st v a st' v' b M R = Z at *
  generalize bijB M = zb at *
  generalize (xltN st v a st' v' b M R).1 = z1 at *
  clear hM hR hA hB hla hlb hlM hcM hf hf3 hP
  unfold maxLen at hlR
  generalize M.length = n at *
  generalize hm : R.length = m at *
  have HMM := Lib.hid hm
  clear hm
  generalize hla : a.length = la at *
  generalize hlb : b.length = lb at *
  have HLA := Lib.hid hla
  have HLB := Lib.hid hlb
  clear hla hlb
  go_enter Tryd.func12, Tryd.ntmps12
  go_upto_region 1 with fail
  generalize ((w.alloc (.cells #[.slice X n cM, .slice Y m cR] 25)).alloc (.cells #[.int .i64 st, .int .i64 v, .slice A la ca] 28)).alloc (.cells #[.int .i64 st', .int .i64 v', .slice A' lb cb] 28) = U at *
  obtain ⟨⟨m0, m1⟩, ⟨a0, a1, a2⟩, b0, b1, b2⟩ := HQ0.out.cells
  go_wp2_with fail
  clear m0 m1 a0 a1 a2 b0 b1 b2
  refine (HRT.out _ (HM.out.below HQ0.out.1) (HR.out.below HQ0.out.1) (HA.out.below HQ0.out.1) (HB.out.below HQ0.out.1)).mono ?_
  rintro e w1 ⟨rfl, hb1⟩
  have HQ1 := Lib.hid (HQ0.out.below hb1)
  clear hb1 HQ0 HRT
  rcases hz1 with hz | hz
  · have HX6 := Lib.hid (HX4.out hz)
    have HFE := Lib.hid (HFD.out hz)
    clear HX4 HFD
    rw [decide_eq_true hz]
    clear hz
    obtain ⟨⟨m0, m1⟩, ⟨a0, a1, a2⟩, b0, b1, b2⟩ := HQ1.out.cells
    go_wp2_with fail
    clear m0 m1 a0 a1 a2 b0 b1 b2
    refine (HBJ.out _ (HM.out.below HQ1.out.1)).mono ?_
    rintro e w2 ⟨rfl, hb2⟩
    have HQ2 := Lib.hid (HQ1.out.below hb2)
    clear hb2 HQ1
    cases zb
    · have HE := Lib.hid (HX2.out rfl)
      go_wp2
      go_ret
      exact ⟨by rw [HE.out] <;> rfl, HQ2.out.1⟩
    · have HX7 := Lib.hid (HX6.out rfl)
      go_wp2
      go_loopw [7] (fun i wr => ∃ q : Nat, q ≤ m ∧ i = .int .i64 (q : Int) ∧ MQ w X n cM Y m cR st v A la ca st' v' A' lb cb wr ∧ ∀ j, j < q → ruInv a b (ruAt R j) = true) (fun i _ => m - (intOf i).toNat)
      case atStart => exact ⟨0, Nat.zero_le _, rfl, HQ2.out, fun j hj => by omega⟩
      case round =>
        obtain ⟨q, hq, rfl, hQ, hno⟩ := hrel
        have HQ3 := Lib.hid hQ
        have HNO := Lib.hid hno
        clear hQ hno HQ2
        by_cases hlt : q < m
        · have hql : q < R.length := by have := HMM.out; omega
          obtain ⟨aa, k, f, t, s, B, P, c, rfl, hxr, hcr⟩ : ∃ aa k f t s B P c, Y = some aa ∧ ruAt R q = (k, f, t, s, P) ∧ ∀ u, Below w.heap.size w u → (u.cell? (aa.add (q * 5)) = some (.int .i64 k) ∧ u.cell? ⟨(aa.add (q * 5)).block, (aa.add (q * 5)).off + 1, none⟩ = some (.int .i64 f) ∧ u.cell? ⟨(aa.add (q * 5)).block, (aa.add (q * 5)).off + 2, none⟩ = some (.int .i64 t) ∧ u.cell? ⟨(aa.add (q * 5)).block, (aa.add (q * 5)).off + 3, none⟩ = some (.string s) ∧ u.cell? ⟨(aa.add (q * 5)).block, (aa.add (q * 5)).off + 4, none⟩ = some (.slice B P.length c)) ∧ Prs u B P := by
            obtain ⟨aa, k, f, t, s, P, B, c, h⟩ := rls_all HR.out hql
            exact ⟨aa, k, f, t, s, B, P, c, h⟩
          have HPZ : Hid (P.length ≤ 400) := by
            have h := HP.out (ruAt R q) (by rw [ruAt_get hql]; exact List.getElem_mem hql)
            rw [hxr] at h; exact h
          obtain ⟨hkk, hfa, hfb⟩ := HFE.out q k f t s P hlt hxr
          have HKK := Lib.hid hkk
          have HF1 := Lib.hid hfa
          have HF2 := Lib.hid hfb
          have HX5 := Lib.hid (HX3.out q hlt)
          have HST : Hid (ruInv a b (ruAt R q) = if k = 2 ∨ k = 3 then false else if k = 1 ∧ rlW (fndP f a).1 (fndP t b).1 = false then false else if k = 4 ∧ (fndP t b).1.2.2.2.1 < (fndP f a).1.2.2.2.1 then false else if k = 5 ∧ bijB P = false then false else true) := by show _ = _; rw [hxr]; exact inv_kind
          have HQ4 := Lib.hid (HQ3.out.below (below_al wr (.cells #[.int .i64 k, .int .i64 f, .int .i64 t, .string s, .slice B P.length c] 53)))
          have HO4 : Hid (RBox (wr.alloc (.cells #[.int .i64 k, .int .i64 f, .int .i64 t, .string s, .slice B P.length c] 53)) wr.heap.size k f t s B P.length c) := heap_alloc_new wr _
          have HP4 := Lib.hid (hcr _ HQ4.out.1).2
          have HC := Lib.hid (fun W h => HBR.out B c P W h HPZ.out)
          have HG1 := Lib.hid (HFA.out f)
          have HG2 := Lib.hid (HFB.out t)
          obtain ⟨⟨c0, c1', c2, c3, c4⟩, _⟩ := hcr _ HQ3.out.1
          obtain ⟨⟨m0, m1⟩, ⟨a0, a1, a2⟩, b0, b1, b2⟩ := HQ3.out.cells
          clear hxr hql hcr HX3 hkk hfa hfb HFE HPZ HBR HFA HFB
          generalize P.length = pl at *
          generalize bijB P = pb at *
          go_upto_region 7 with fail
          clear c0 c1' c2 c3 c4 m0 m1 a0 a1 a2 b0 b1 b2
          generalize wr.alloc (.cells #[.int .i64 k, .int .i64 f, .int .i64 t, .string s, .slice B pl c] 53) = W4 at *
          generalize wr.heap.size = g4 at *
          clear HQ3
          obtain ⟨r0, r1, r2, r3, r4⟩ := obj_cells5 HO4.out
          by_cases k23 : k = 2 ∨ k = 3
          · rw [if_pos k23] at HST
            have HE := Lib.hid (HX5.out HST.out)
            rcases k23 with rfl | rfl
            · go_wp2
              go_ret
              exact ⟨by rw [HE.out] <;> rfl, HQ4.out.1⟩
            · go_wp2
              go_ret
              exact ⟨by rw [HE.out] <;> rfl, HQ4.out.1⟩
          · rw [if_neg k23] at HST
            have t2 : (k == 2) = false := by simpa using fun h => k23 (Or.inl h)
            have t3 : (k == 3) = false := by simpa using fun h => k23 (Or.inr h)
            obtain ⟨i, hil, hfi, hfx⟩ : ∃ i : Nat, i < a.length ∧ fndI f 0 a = (i : Int) ∧ fndP f a = (spAt a i, true) := by
              rcases fnd_cases f a with ⟨_, h⟩ | h
              · rw [HF1.out fun e => k23 (Or.inr e)] at h; cases h
              · exact h
            obtain ⟨j, hjl, hfj, hfy⟩ : ∃ j : Nat, j < b.length ∧ fndI t 0 b = (j : Int) ∧ fndP t b = (spAt b j, true) := by
              rcases fnd_cases t b with ⟨_, h⟩ | h
              · rw [HF2.out fun e => k23 (Or.inl e)] at h; cases h
              · exact h
            obtain ⟨pa, n1, c1, f1, lo1, hi1, rfl, hxa, hca⟩ := spl_all HA.out hil
            obtain ⟨pb', n2, c2, f2, lo2, hi2, rfl, hxb, hcb⟩ := spl_all HB.out hjl
            have hila : i < la := by have := HLA.out; omega
            have hjlb : j < lb := by have := HLB.out; omega
            rw [hfi] at HG1
            rw [hfj] at HG2
            rw [hfx, hfy, hxa, hxb] at HST
            have HCA := Lib.hid hca
            have HCB := Lib.hid hcb
            have HW := Lib.hid (fun W => sprefWider_any n1 c1 f1 lo1 hi1 n2 c2 f2 lo2 hi2 W)
            have HST : Hid (ruInv a b (ruAt R q) = if k = 1 ∧ spw n1 c1 f1 lo1 hi1 n2 c2 f2 lo2 hi2 = false then false else if k = 4 ∧ lo2 < lo1 then false else if k = 5 ∧ pb = false then false else true) := HST.out
            generalize spw n1 c1 f1 lo1 hi1 n2 c2 f2 lo2 hi2 = z at *
            clear hca hcb hxa hxb hfi hfj hfx hfy k23 hil hjl
            go_wp2_with fail
            clear r0 r1 r2 r3 r4
            go_upto_region 9 with fail
            go_cut [9] (fun s9 wx => ∃ p : Nat, s9 = .pointer (some ⟨p, 0, none⟩) ∧ Below W4.heap.size W4 wx ∧ wx.heap[p]? = some (.cells #[.int .i64 n1, .int .i64 c1, .int .i64 f1, .int .i64 lo1, .int .i64 hi1] 70))
            case first =>
              refine wp_region_noPanic ?_
              refine wp_region_held_drew (S := (fun u => Below W4.heap.size W4 u)) (by kernel_rfl) ((Below.refl _ _).drew) (fun hS => ?_)
              refine gv 0 (v := ?_) (fun u hu => ?_) hS ?_
              rotate_left
              · ((obtain ⟨_, ⟨a0, a1, a2⟩, b0, b1, b2⟩ := (HQ4.out.below hu).cells; obtain ⟨r0, r1, r2, r3, r4⟩ := obj_cells5 (HO4.out.below hu); obtain ⟨x0, x1, x2, x3, x4⟩ := HCA.out _ (HQ4.out.below hu).1); go_simp; try (with_reducible rfl))
              try simp only [puts]
              refine gv 1 (v := ?_) (fun u hu => ?_) hS ?_
              rotate_left
              · ((obtain ⟨_, ⟨a0, a1, a2⟩, b0, b1, b2⟩ := (HQ4.out.below hu).cells; obtain ⟨r0, r1, r2, r3, r4⟩ := obj_cells5 (HO4.out.below hu); obtain ⟨x0, x1, x2, x3, x4⟩ := HCA.out _ (HQ4.out.below hu).1); go_simp; try (with_reducible rfl))
              try simp only [puts]
              refine gv 2 (v := ?_) (fun u hu => ?_) hS ?_
              rotate_left
              · ((obtain ⟨_, ⟨a0, a1, a2⟩, b0, b1, b2⟩ := (HQ4.out.below hu).cells; obtain ⟨r0, r1, r2, r3, r4⟩ := obj_cells5 (HO4.out.below hu); obtain ⟨x0, x1, x2, x3, x4⟩ := HCA.out _ (HQ4.out.below hu).1); go_simp; try (with_reducible rfl))
              try simp only [puts]
              refine gv 3 (v := ?_) (fun u hu => ?_) hS ?_
              rotate_left
              · ((obtain ⟨_, ⟨a0, a1, a2⟩, b0, b1, b2⟩ := (HQ4.out.below hu).cells; obtain ⟨r0, r1, r2, r3, r4⟩ := obj_cells5 (HO4.out.below hu); obtain ⟨x0, x1, x2, x3, x4⟩ := HCA.out _ (HQ4.out.below hu).1); go_simp; try (with_reducible rfl))
              try simp only [puts]
              refine gv 4 (v := ?_) (fun u hu => ?_) hS ?_
              rotate_left
              · ((obtain ⟨_, ⟨a0, a1, a2⟩, b0, b1, b2⟩ := (HQ4.out.below hu).cells; obtain ⟨r0, r1, r2, r3, r4⟩ := obj_cells5 (HO4.out.below hu); obtain ⟨x0, x1, x2, x3, x4⟩ := HCA.out _ (HQ4.out.below hu).1); go_simp; try (with_reducible rfl))
              try simp only [puts]
              refine wpAnyH_ready (rs := [5, 8]) (by kernel_rfl) (by simp) (arm_call (i := 5) 34 #[.agg #[.int .i64 st, .int .i64 v, .slice (some pa) la ca], .int .i64 f] rfl (by rfl) (HG1.out _ (HA.out.below (HQ4.out.below hS).1)) ?_ ?_ (arm_alloc (i := 8) (.cells #[.int .i64 0, .int .i64 0, .int .i64 0, .int .i64 0, .int .i64 0] 70) rfl (by rfl) ?_ ?_ AllReadyH.nil))
              · (go_simp; try (with_reducible rfl))
              intro u' hb
              have hS' : (fun u => Below W4.heap.size W4 u) u' := hbt hS hb
              refine ⟨hS', ?_⟩
              clear hS hb; have hS := hS'; clear hS'; rename World => u; try simp only [puts]
              refine gv 6 (v := ?_) (fun u hu => ?_) hS ?_
              rotate_left
              · ((obtain ⟨_, ⟨a0, a1, a2⟩, b0, b1, b2⟩ := (HQ4.out.below hu).cells; obtain ⟨r0, r1, r2, r3, r4⟩ := obj_cells5 (HO4.out.below hu); obtain ⟨x0, x1, x2, x3, x4⟩ := HCA.out _ (HQ4.out.below hu).1); go_simp; try (with_reducible rfl))
              try simp only [puts]
              refine gv 7 (v := ?_) (fun u hu => ?_) hS ?_
              rotate_left
              · ((obtain ⟨_, ⟨a0, a1, a2⟩, b0, b1, b2⟩ := (HQ4.out.below hu).cells; obtain ⟨r0, r1, r2, r3, r4⟩ := obj_cells5 (HO4.out.below hu); obtain ⟨x0, x1, x2, x3, x4⟩ := HCA.out _ (HQ4.out.below hu).1); go_simp; try (with_reducible rfl))
              try simp only [puts]
              rotate_left
              · (go_simp; try (with_reducible rfl))
              intro p8 u' hb ho8 hp8
              replace hp8 := Nat.le_trans (hS.size) hp8
              have hS' : (fun u => Below W4.heap.size W4 u) u' := hbt hS hb
              refine ⟨hS', ?_⟩
              clear hS hb; have hS := hS'; clear hS'; rename World => u; try simp only [puts]
              rotate_left
              all_goals first
                |
                  refine wpAnyH_ready (rs := [5]) (by kernel_rfl) (by simp) (arm_call (i := 5) 34 #[.agg #[.int .i64 st, .int .i64 v, .slice (some pa) la ca], .int .i64 f] rfl (by rfl) (HG1.out _ (HA.out.below (HQ4.out.below hS).1)) ?_ ?_ AllReadyH.nil)
                  · (go_simp; try (with_reducible rfl))
                  intro u' hb
                  have hS' : (fun u => Below W4.heap.size W4 u) u' := hbt hS hb
                  refine ⟨hS', ?_⟩
                  replace ho8 := obj_below ho8 hb
                  clear hS hb; have hS := hS'; clear hS'; rename World => u; try simp only [puts]
                  refine gv 6 (v := ?_) (fun u hu => ?_) hS ?_
                  rotate_left
                  · ((obtain ⟨_, ⟨a0, a1, a2⟩, b0, b1, b2⟩ := (HQ4.out.below hu).cells; obtain ⟨r0, r1, r2, r3, r4⟩ := obj_cells5 (HO4.out.below hu); obtain ⟨x0, x1, x2, x3, x4⟩ := HCA.out _ (HQ4.out.below hu).1); go_simp; try (with_reducible rfl))
                  try simp only [puts]
                  refine gv 7 (v := ?_) (fun u hu => ?_) hS ?_
                  rotate_left
                  · ((obtain ⟨_, ⟨a0, a1, a2⟩, b0, b1, b2⟩ := (HQ4.out.below hu).cells; obtain ⟨r0, r1, r2, r3, r4⟩ := obj_cells5 (HO4.out.below hu); obtain ⟨x0, x1, x2, x3, x4⟩ := HCA.out _ (HQ4.out.below hu).1); go_simp; try (with_reducible rfl))
                  try simp only [puts]
                |
                  refine wpAnyH_ready (rs := [8]) (by kernel_rfl) (by simp) (arm_alloc (i := 8) (.cells #[.int .i64 0, .int .i64 0, .int .i64 0, .int .i64 0, .int .i64 0] 70) rfl (by rfl) ?_ ?_ AllReadyH.nil)
                  · (go_simp; try (with_reducible rfl))
                  intro p8 u' hb ho8 hp8
                  replace hp8 := Nat.le_trans (hS.size) hp8
                  have hS' : (fun u => Below W4.heap.size W4 u) u' := hbt hS hb
                  refine ⟨hS', ?_⟩
                  clear hS hb; have hS := hS'; clear hS'; rename World => u; try simp only [puts]
              all_goals
                have k1 := obj_set5 ho8 (.int .i64 n1) (.int .i64 c1) (.int .i64 f1) (.int .i64 lo1) (.int .i64 hi1)
                have k2 : Below W4.heap.size W4 _ := below_set5 hS hp8 (.int .i64 n1) (.int .i64 c1) (.int .i64 f1) (.int .i64 lo1) (.int .i64 hi1)
                obtain ⟨d0, d1, d2, d3, d4⟩ := obj_cells5 ho8
                obtain ⟨e0, e1, e2, e3, e4⟩ := obj_warm5 ho8
                refine only (i := 9) rfl (by kernel_rfl) (by rfl) (fun K hK => ?_)
                go_simp
                refine hK.out _ _ k2 ?_
                clear hK
                try simp only [puts]
                refine wpAnyH_done (by kernel_rfl) (NoPanic.normal ?_) _
                go_wp2_with fail
                go_meet
                exact ⟨p8, rfl, k2, k1⟩
            case rest =>
              obtain ⟨p9, rfl, hb5, ho5⟩ := hcut
              have HQ5 := Lib.hid (HQ4.out.below hb5)
              have HO5 := Lib.hid (HO4.out.below hb5)
              have HP5 := Lib.hid (HP4.out.below hb5)
              have HX6 := Lib.hid ho5
              clear hb5 ho5 HQ4 HO4 HP4 HG1
              generalize wc = W5 at *
              go_upto_region 10 with fail
              go_cut [10] (fun s10 wx => ∃ p : Nat, s10 = .pointer (some ⟨p, 0, none⟩) ∧ Below W5.heap.size W5 wx ∧ wx.heap[p]? = some (.cells #[.int .i64 n2, .int .i64 c2, .int .i64 f2, .int .i64 lo2, .int .i64 hi2] 70))
              case first =>
                refine wp_region_noPanic ?_
                refine wp_region_held_drew (S := (fun u => Below W5.heap.size W5 u)) (by kernel_rfl) ((Below.refl _ _).drew) (fun hS => ?_)
                refine gv 0 (v := ?_) (fun u hu => ?_) hS ?_
                rotate_left
                · ((obtain ⟨_, ⟨a0, a1, a2⟩, b0, b1, b2⟩ := (HQ5.out.below hu).cells; obtain ⟨r0, r1, r2, r3, r4⟩ := obj_cells5 (HO5.out.below hu); obtain ⟨x0, x1, x2, x3, x4⟩ := HCB.out _ (HQ5.out.below hu).1); go_simp; try (with_reducible rfl))
                try simp only [puts]
                refine gv 1 (v := ?_) (fun u hu => ?_) hS ?_
                rotate_left
                · ((obtain ⟨_, ⟨a0, a1, a2⟩, b0, b1, b2⟩ := (HQ5.out.below hu).cells; obtain ⟨r0, r1, r2, r3, r4⟩ := obj_cells5 (HO5.out.below hu); obtain ⟨x0, x1, x2, x3, x4⟩ := HCB.out _ (HQ5.out.below hu).1); go_simp; try (with_reducible rfl))
                try simp only [puts]
                refine gv 2 (v := ?_) (fun u hu => ?_) hS ?_
                rotate_left
                · ((obtain ⟨_, ⟨a0, a1, a2⟩, b0, b1, b2⟩ := (HQ5.out.below hu).cells; obtain ⟨r0, r1, r2, r3, r4⟩ := obj_cells5 (HO5.out.below hu); obtain ⟨x0, x1, x2, x3, x4⟩ := HCB.out _ (HQ5.out.below hu).1); go_simp; try (with_reducible rfl))
                try simp only [puts]
                refine gv 3 (v := ?_) (fun u hu => ?_) hS ?_
                rotate_left
                · ((obtain ⟨_, ⟨a0, a1, a2⟩, b0, b1, b2⟩ := (HQ5.out.below hu).cells; obtain ⟨r0, r1, r2, r3, r4⟩ := obj_cells5 (HO5.out.below hu); obtain ⟨x0, x1, x2, x3, x4⟩ := HCB.out _ (HQ5.out.below hu).1); go_simp; try (with_reducible rfl))
                try simp only [puts]
                refine gv 4 (v := ?_) (fun u hu => ?_) hS ?_
                rotate_left
                · ((obtain ⟨_, ⟨a0, a1, a2⟩, b0, b1, b2⟩ := (HQ5.out.below hu).cells; obtain ⟨r0, r1, r2, r3, r4⟩ := obj_cells5 (HO5.out.below hu); obtain ⟨x0, x1, x2, x3, x4⟩ := HCB.out _ (HQ5.out.below hu).1); go_simp; try (with_reducible rfl))
                try simp only [puts]
                refine wpAnyH_ready (rs := [5, 8]) (by kernel_rfl) (by simp) (arm_call (i := 5) 34 #[.agg #[.int .i64 st', .int .i64 v', .slice (some pb') lb cb], .int .i64 t] rfl (by rfl) (HG2.out _ (HB.out.below (HQ5.out.below hS).1)) ?_ ?_ (arm_alloc (i := 8) (.cells #[.int .i64 0, .int .i64 0, .int .i64 0, .int .i64 0, .int .i64 0] 70) rfl (by rfl) ?_ ?_ AllReadyH.nil))
                · (go_simp; try (with_reducible rfl))
                intro u' hb
                have hS' : (fun u => Below W5.heap.size W5 u) u' := hbt hS hb
                refine ⟨hS', ?_⟩
                clear hS hb; have hS := hS'; clear hS'; rename World => u; try simp only [puts]
                refine gv 6 (v := ?_) (fun u hu => ?_) hS ?_
                rotate_left
                · ((obtain ⟨_, ⟨a0, a1, a2⟩, b0, b1, b2⟩ := (HQ5.out.below hu).cells; obtain ⟨r0, r1, r2, r3, r4⟩ := obj_cells5 (HO5.out.below hu); obtain ⟨x0, x1, x2, x3, x4⟩ := HCB.out _ (HQ5.out.below hu).1); go_simp; try (with_reducible rfl))
                try simp only [puts]
                refine gv 7 (v := ?_) (fun u hu => ?_) hS ?_
                rotate_left
                · ((obtain ⟨_, ⟨a0, a1, a2⟩, b0, b1, b2⟩ := (HQ5.out.below hu).cells; obtain ⟨r0, r1, r2, r3, r4⟩ := obj_cells5 (HO5.out.below hu); obtain ⟨x0, x1, x2, x3, x4⟩ := HCB.out _ (HQ5.out.below hu).1); go_simp; try (with_reducible rfl))
                try simp only [puts]
                rotate_left
                · (go_simp; try (with_reducible rfl))
                intro p8 u' hb ho8 hp8
                replace hp8 := Nat.le_trans (hS.size) hp8
                have hS' : (fun u => Below W5.heap.size W5 u) u' := hbt hS hb
                refine ⟨hS', ?_⟩
                clear hS hb; have hS := hS'; clear hS'; rename World => u; try simp only [puts]
                rotate_left
                all_goals first
                  |
                    refine wpAnyH_ready (rs := [5]) (by kernel_rfl) (by simp) (arm_call (i := 5) 34 #[.agg #[.int .i64 st', .int .i64 v', .slice (some pb') lb cb], .int .i64 t] rfl (by rfl) (HG2.out _ (HB.out.below (HQ5.out.below hS).1)) ?_ ?_ AllReadyH.nil)
                    · (go_simp; try (with_reducible rfl))
                    intro u' hb
                    have hS' : (fun u => Below W5.heap.size W5 u) u' := hbt hS hb
                    refine ⟨hS', ?_⟩
                    replace ho8 := obj_below ho8 hb
                    clear hS hb; have hS := hS'; clear hS'; rename World => u; try simp only [puts]
                    refine gv 6 (v := ?_) (fun u hu => ?_) hS ?_
                    rotate_left
                    · ((obtain ⟨_, ⟨a0, a1, a2⟩, b0, b1, b2⟩ := (HQ5.out.below hu).cells; obtain ⟨r0, r1, r2, r3, r4⟩ := obj_cells5 (HO5.out.below hu); obtain ⟨x0, x1, x2, x3, x4⟩ := HCB.out _ (HQ5.out.below hu).1); go_simp; try (with_reducible rfl))
                    try simp only [puts]
                    refine gv 7 (v := ?_) (fun u hu => ?_) hS ?_
                    rotate_left
                    · ((obtain ⟨_, ⟨a0, a1, a2⟩, b0, b1, b2⟩ := (HQ5.out.below hu).cells; obtain ⟨r0, r1, r2, r3, r4⟩ := obj_cells5 (HO5.out.below hu); obtain ⟨x0, x1, x2, x3, x4⟩ := HCB.out _ (HQ5.out.below hu).1); go_simp; try (with_reducible rfl))
                    try simp only [puts]
                  |
                    refine wpAnyH_ready (rs := [8]) (by kernel_rfl) (by simp) (arm_alloc (i := 8) (.cells #[.int .i64 0, .int .i64 0, .int .i64 0, .int .i64 0, .int .i64 0] 70) rfl (by rfl) ?_ ?_ AllReadyH.nil)
                    · (go_simp; try (with_reducible rfl))
                    intro p8 u' hb ho8 hp8
                    replace hp8 := Nat.le_trans (hS.size) hp8
                    have hS' : (fun u => Below W5.heap.size W5 u) u' := hbt hS hb
                    refine ⟨hS', ?_⟩
                    clear hS hb; have hS := hS'; clear hS'; rename World => u; try simp only [puts]
                all_goals
                  have k1 := obj_set5 ho8 (.int .i64 n2) (.int .i64 c2) (.int .i64 f2) (.int .i64 lo2) (.int .i64 hi2)
                  have k2 : Below W5.heap.size W5 _ := below_set5 hS hp8 (.int .i64 n2) (.int .i64 c2) (.int .i64 f2) (.int .i64 lo2) (.int .i64 hi2)
                  obtain ⟨d0, d1, d2, d3, d4⟩ := obj_cells5 ho8
                  obtain ⟨e0, e1, e2, e3, e4⟩ := obj_warm5 ho8
                  refine only (i := 9) rfl (by kernel_rfl) (by rfl) (fun K hK => ?_)
                  go_simp
                  refine hK.out _ _ k2 ?_
                  clear hK
                  try simp only [puts]
                  refine wpAnyH_done (by kernel_rfl) (NoPanic.normal ?_) _
                  go_wp2_with fail
                  go_meet
                  exact ⟨p8, rfl, k2, k1⟩
              case rest =>
                obtain ⟨p10, rfl, hb6, ho6⟩ := hcut
                have HQ6 := Lib.hid (HQ5.out.below hb6)
                have HO6 := Lib.hid (HO5.out.below hb6)
                have HP6 := Lib.hid (HP5.out.below hb6)
                have HX7 := Lib.hid (obj_below HX6.out hb6)
                have HY7 := Lib.hid ho6
                clear hb6 ho6 HQ5 HO5 HP5 HX6 HG2 HCA HCB
                generalize wc = W6 at *
                obtain ⟨r0, r1, r2, r3, r4⟩ := obj_cells5 HO6.out
                obtain ⟨x0, x1, x2, x3, x4⟩ := obj_cells5 HX7.out
                obtain ⟨y0, y1, y2, y3, y4⟩ := obj_cells5 HY7.out
                have hk : k = 1 ∨ k = 4 ∨ k = 5 := by
                  have h2 : k ≠ 2 := by simpa using t2
                  have h3 : k ≠ 3 := by simpa using t3
                  have := HKK.out
                  omega
                clear t2 t3 HKK HF1 HF2
                rcases hk with rfl | rfl | rfl
                · go_wp2_with fail
                  clear r0 r1 r2 r3 r4 x0 x1 x2 x3 x4 y0 y1 y2 y3 y4
                  refine (HW.out _).mono ?_
                  rintro e w7 ⟨rfl, hb7⟩
                  have HQ7 := Lib.hid (HQ6.out.below hb7)
                  obtain ⟨r0, r1, r2, r3, r4⟩ := obj_cells5 (HO6.out.below hb7)
                  clear hb7 HQ6
                  cases z
                  · have HE := Lib.hid (HX5.out (by rw [HST.out]; rfl))
                    go_wp2
                    go_ret
                    exact ⟨by rw [HE.out] <;> rfl, HQ7.out.1⟩
                  · have HE : Hid (ruInv a b (ruAt R q) = true) := by show _ = _; rw [HST.out]; rfl
                    go_wp2
                    go_roundw
                    case rel =>
                      refine ⟨q + 1, by omega, by go_num, HQ7.out, fun j hj => ?_⟩
                      rcases Nat.lt_or_ge j q with h | h
                      · exact HNO.out j h
                      · obtain rfl : j = q := by omega
                        exact HE.out
                    case measure => simp [intOf]; omega
                · by_cases hlo : lo2 < lo1
                  · have HE := Lib.hid (HX5.out (by rw [HST.out]; simp [hlo]))
                    have tl : decide (lo2 < lo1) = true := by simpa using hlo
                    clear hlo
                    go_wp2
                    go_ret
                    exact ⟨by rw [HE.out] <;> rfl, HQ6.out.1⟩
                  · have HE : Hid (ruInv a b (ruAt R q) = true) := by show _ = _; rw [HST.out]; simp [hlo]
                    have tl : decide (lo2 < lo1) = false := by simpa using hlo
                    clear hlo
                    go_wp2
                    go_roundw
                    case rel =>
                      refine ⟨q + 1, by omega, by go_num, HQ6.out, fun j hj => ?_⟩
                      rcases Nat.lt_or_ge j q with h | h
                      · exact HNO.out j h
                      · obtain rfl : j = q := by omega
                        exact HE.out
                    case measure => simp [intOf]; omega
                · go_wp2_with fail
                  clear r0 r1 r2 r3 r4 x0 x1 x2 x3 x4 y0 y1 y2 y3 y4
                  refine (HC.out _ HP6.out).mono ?_
                  rintro e w7 ⟨rfl, hb7⟩
                  have HQ7 := Lib.hid (HQ6.out.below hb7)
                  clear hb7 HQ6
                  cases pb
                  · have HE := Lib.hid (HX5.out (by rw [HST.out]; rfl))
                    go_wp2
                    go_ret
                    exact ⟨by rw [HE.out] <;> rfl, HQ7.out.1⟩
                  · have HE : Hid (ruInv a b (ruAt R q) = true) := by show _ = _; rw [HST.out]; rfl
                    go_wp2
                    go_roundw
                    case rel =>
                      refine ⟨q + 1, by omega, by go_num, HQ7.out, fun j hj => ?_⟩
                      rcases Nat.lt_or_ge j q with h | h
                      · exact HNO.out j h
                      · obtain rfl : j = q := by omega
                        exact HE.out
                    case measure => simp [intOf]; omega
        · have HE := Lib.hid (HX7.out fun j hj => HNO.out j (by omega))
          obtain ⟨⟨m0, m1⟩, ⟨a0, a1, a2⟩, b0, b1, b2⟩ := HQ3.out.cells
          go_wp2
          go_ret
          exact ⟨by rw [HE.out] <;> rfl, HQ3.out.1⟩
  · have HE := Lib.hid (HX1.out hz)
    rw [decide_eq_false hz]
    clear hz
    go_wp2
    go_ret
    exact ⟨by rw [HE.out] <;> rfl, HQ1.out.1⟩

end Go.Proofs.YtbhlennolghjmaaDoor
