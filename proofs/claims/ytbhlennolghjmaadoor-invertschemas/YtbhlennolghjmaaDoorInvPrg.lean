/-
  What the program's Check of a map that can be undone answers: in every world where the table of kinds reads as it is laid.
-/
import Derived.Test.YtbhlennolghjmaaDoorXltPrg
import Derived.Test.YtbhlennolghjmaaDoorInvKeep
import Derived.Test.YtbhlennolghjmaaDoorPackCod
import Derived.Test.YtbhlennolghjmaaDoorPackSpc
import Derived.Test.YtbhlennolghjmaaDoorPackSch
namespace Go.Proofs.YtbhlennolghjmaaDoor
open Go.RowKit

set_option maxRecDepth 100000 in
set_option maxHeartbeats 6400000 in
theorem ikeeps_any (k f t : Int) (s : ByteArray) (B : Option Addr) (cP : Nat) (P : List PairT) (st v : Int) (A : Option Addr) (ca : Nat) (a : List Sp) (st' v' : Int) (A' : Option Addr) (cb : Nat) (b : List Sp) (w : World) (hK : Kinds w) (hP : Prs w B P) (hA : Spl w A a) (hB : Spl w A' b) (hla : a.length ≤ 1000) (hlb : b.length ≤ 1000) (hlP : P.length ≤ maxLen) (hf : Fit2 P) :
    Calls Tryd.prog 29 #[.agg #[.int .i64 k, .int .i64 f, .int .i64 t, .string s, .slice B P.length cP], .agg #[.int .i64 st, .int .i64 v, .slice A a.length ca], .agg #[.int .i64 st', .int .i64 v', .slice A' b.length cb]] w fun e w' => e = .returned (.bool (kpB a b (k, f, t, s, P))) ∧ Below w.heap.size w w' := by
  have HI := Lib.hid (fun W h => sfind_any st v A ca a f W h hla)
  have HJ := Lib.hid (fun W h => sfind_any st' v' A' cb b t W h hlb)
  have HBJ := Lib.hid (fun W h => cbij_any B cP P W h hlP hf)
  have HE : Hid (kpB a b (k, f, t, s, P) = if k = 1 then rlW (fndP f a).1 (fndP t b).1 && rlW (fndP t b).1 (fndP f a).1 else if k = 4 then decide ((fndP f a).1.2.2.2.1 ≤ (fndP t b).1.2.2.2.1) else if k = 5 then bijB P else false) := rfl
  have HQ0 := Lib.hid (rq_new w k f t s B P.length cP st v A a.length ca st' v' A' b.length cb)
  have HK := Lib.hid hK
  have HP := Lib.hid hP
  have HA := Lib.hid hA
  have HB := Lib.hid hB
  generalize kpB a b (k, f, t, s, P) = Z at *
  generalize bijB P = zp at *
  generalize (fndP f a).2 = okA at *
  generalize (fndP t b).2 = okB at *
  generalize (fndP f a).1 = X1 at *
  generalize (fndP t b).1 = X2 at *
  obtain ⟨n1, c1, f1, lo1, hi1⟩ := X1
  obtain ⟨n2, c2, f2, lo2, hi2⟩ := X2
  dsimp only [spV] at HI HJ
  have HW1 := Lib.hid (fun W k => spwider_any n1 c1 f1 lo1 hi1 n2 c2 f2 lo2 hi2 W k)
  have HW2 := Lib.hid (fun W k => spwider_any n2 c2 f2 lo2 hi2 n1 c1 f1 lo1 hi1 W k)
  have HE : Hid (Z = if k = 1 then spw n1 c1 f1 lo1 hi1 n2 c2 f2 lo2 hi2 && spw n2 c2 f2 lo2 hi2 n1 c1 f1 lo1 hi1 else if k = 4 then decide (lo1 ≤ lo2) else if k = 5 then zp else false) := HE.out
  generalize spw n1 c1 f1 lo1 hi1 n2 c2 f2 lo2 hi2 = z1 at *
  generalize spw n2 c2 f2 lo2 hi2 n1 c1 f1 lo1 hi1 = z2 at *
  clear hK hP hA hB hla hlb hlP hf
  generalize P.length = n at *
  generalize a.length = la at *
  generalize b.length = lb at *
  go_enter Tryd.func29, Tryd.ntmps29
  go_upto_region 1 with fail
  generalize ((w.alloc (.cells #[.int .i64 k, .int .i64 f, .int .i64 t, .string s, .slice B n cP] 53)).alloc (.cells #[.int .i64 st, .int .i64 v, .slice A la ca] 28)).alloc (.cells #[.int .i64 st', .int .i64 v', .slice A' lb cb] 28) = U at *
  obtain ⟨⟨r0, r1, r2, r3, r4⟩, ⟨a0, a1, a2⟩, b0, b1, b2⟩ := HQ0.out.cells
  go_wp2_with fail
  clear r0 r1 r2 r3 r4 a0 a1 a2 b0 b1 b2
  refine (HI.out _ (HA.out.below HQ0.out.1)).mono ?_
  rintro e w1 ⟨rfl, hb1⟩
  have hb1' := hbt hb1 (below_al w1 (.cells #[.int .i64 n1, .int .i64 c1, .int .i64 f1, .int .i64 lo1, .int .i64 hi1] 70))
  have HQ1 := Lib.hid (HQ0.out.below hb1')
  have HX1 : Hid ((w1.alloc (.cells #[.int .i64 n1, .int .i64 c1, .int .i64 f1, .int .i64 lo1, .int .i64 hi1] 70)).heap[w1.heap.size]? = some (.cells #[.int .i64 n1, .int .i64 c1, .int .i64 f1, .int .i64 lo1, .int .i64 hi1] 70)) := heap_alloc_new _ _
  clear hb1 hb1' HI HQ0
  obtain ⟨⟨r0, r1, r2, r3, r4⟩, ⟨a0, a1, a2⟩, b0, b1, b2⟩ := HQ1.out.cells
  go_wp2_with fail
  clear r0 r1 r2 r3 r4 a0 a1 a2 b0 b1 b2
  generalize w1.alloc (.cells #[.int .i64 n1, .int .i64 c1, .int .i64 f1, .int .i64 lo1, .int .i64 hi1] 70) = W1 at *
  generalize w1.heap.size = gx at *
  refine (HJ.out _ (HB.out.below HQ1.out.1)).mono ?_
  rintro e w2 ⟨rfl, hb2⟩
  have hb2' := hbt hb2 (below_al w2 (.cells #[.int .i64 n2, .int .i64 c2, .int .i64 f2, .int .i64 lo2, .int .i64 hi2] 70))
  have HQ2 := Lib.hid (HQ1.out.below hb2')
  have HX2 := Lib.hid (obj_below HX1.out hb2')
  have HY2 : Hid ((w2.alloc (.cells #[.int .i64 n2, .int .i64 c2, .int .i64 f2, .int .i64 lo2, .int .i64 hi2] 70)).heap[w2.heap.size]? = some (.cells #[.int .i64 n2, .int .i64 c2, .int .i64 f2, .int .i64 lo2, .int .i64 hi2] 70)) := heap_alloc_new _ _
  clear hb2 hb2' HJ HQ1 HX1
  obtain ⟨⟨r0, r1, r2, r3, r4⟩, ⟨a0, a1, a2⟩, b0, b1, b2⟩ := HQ2.out.cells
  obtain ⟨x0, x1, x2, x3, x4⟩ := obj_cells5 HX2.out
  obtain ⟨y0, y1, y2, y3, y4⟩ := obj_cells5 HY2.out
  by_cases k1 : k = 1
  · subst k1
    rw [if_pos rfl] at HE
    go_wp2_with fail
    refine (HW1.out _ (HK.out.below HQ2.out.1)).mono ?_
    rintro e w3 ⟨rfl, hb3⟩
    have HQ3 := Lib.hid (HQ2.out.below hb3)
    have HX3 := Lib.hid (obj_below HX2.out hb3)
    have HY3 := Lib.hid (obj_below HY2.out hb3)
    clear hb3 r0 r1 r2 r3 r4 a0 a1 a2 b0 b1 b2 x0 x1 x2 x3 x4 y0 y1 y2 y3 y4
    cases z1
    · go_wp2
      go_ret
      exact ⟨by rw [HE.out] <;> rfl, HQ3.out.1⟩
    · obtain ⟨x0, x1, x2, x3, x4⟩ := obj_cells5 HX3.out
      obtain ⟨y0, y1, y2, y3, y4⟩ := obj_cells5 HY3.out
      go_wp2_with fail
      refine (HW2.out _ (HK.out.below HQ3.out.1)).mono ?_
      rintro e w4 ⟨rfl, hb4⟩
      have HB4 := Lib.hid (hbt HQ3.out.1 hb4)
      clear hb4 x0 x1 x2 x3 x4 y0 y1 y2 y3 y4
      go_wp2
      go_ret
      exact ⟨by rw [HE.out] <;> rfl, HB4.out⟩
  · rw [if_neg k1] at HE
    have t1 : (k == 1) = false := by simpa using k1
    by_cases k4 : k = 4
    · subst k4
      rw [if_pos rfl] at HE
      clear k1
      go_wp2
      go_ret
      exact ⟨by rw [HE.out] <;> rfl, HQ2.out.1⟩
    · rw [if_neg k4] at HE
      have t4 : (k == 4) = false := by simpa using k4
      by_cases k5 : k = 5
      · subst k5
        rw [if_pos rfl] at HE
        clear k1 k4
        go_wp2_with fail
        refine (HBJ.out _ (HP.out.below HQ2.out.1)).mono ?_
        rintro e w3 ⟨rfl, hb3⟩
        have HB3 := Lib.hid (hbt HQ2.out.1 hb3)
        clear hb3
        go_wp2
        go_ret
        exact ⟨by rw [HE.out] <;> rfl, HB3.out⟩
      · rw [if_neg k5] at HE
        have t5 : (k == 5) = false := by simpa using k5
        clear k1 k4 k5
        go_wp2
        go_ret
        exact ⟨by rw [HE.out] <;> rfl, HQ2.out.1⟩

set_option maxRecDepth 100000 in
set_option maxHeartbeats 12800000 in
theorem icheck_any (hchk : RChk) (X : Option Addr) (cM : Nat) (M : List PairT) (Y : Option Addr) (cR : Nat) (R : List Ru) (st v : Int) (A : Option Addr) (ca : Nat) (a : List Sp) (st' v' : Int) (A' : Option Addr) (cb : Nat) (b : List Sp) (w : World) (hK : Kinds w) (hM : Prs w X M) (hR : Rls w Y R) (hA : Spl w A a) (hB : Spl w A' b) (hla : a.length ≤ 1000) (hlb : b.length ≤ 1000) (hlM : M.length ≤ maxLen) (hcM : M.length ≤ cM) (hfM : Fit2 M) (hlR : R.length ≤ maxLen) (hf4 : Fit4 R) :
    Calls Tryd.prog 9 #[.agg #[.slice X M.length cM, .slice Y R.length cR], .agg #[.int .i64 st, .int .i64 v, .slice A a.length ca], .agg #[.int .i64 st', .int .i64 v', .slice A' b.length cb]] w fun e w' => e = .returned (.bool (invB st v a st' v' b M R)) ∧ Below w.heap.size w w' := by
  have HCK := Lib.hid (fun W k0 k1 k2 k3 k4 => xchk_any hchk X cM M Y cR R st v A ca a st' v' A' cb b W k0 k1 k2 k3 k4 hla hlb hlM hcM hlR hf4)
  have HBJ := Lib.hid (fun W h => cbij_any X cM M W h hlM hfM)
  have HKP := Lib.hid (fun k f t s B c P W k0 k1 k2 k3 k4 k5 => ikeeps_any k f t s B c P st v A ca a st' v' A' cb b W k0 k1 k2 k3 hla hlb k4 k5)
  have HX1 := Lib.hid (@inv_err st v a st' v' b M R)
  have HX2 := Lib.hid (@inv_bij st v a st' v' b M R)
  have HX3 : Hid ((xltN st v a st' v' b M R).1 = 0 → ∀ i, i < R.length → kpB a b (ruAt R i) = false → invB st v a st' v' b M R = false) := fun h i hi he => inv_bad hi (by rw [← kp_at h hi]; exact he)
  have HX4 : Hid ((xltN st v a st' v' b M R).1 = 0 → bijB M = true → (∀ i, i < R.length → kpB a b (ruAt R i) = true) → invB st v a st' v' b M R = true) := fun h h2 h3 => inv_yes h h2 fun i hi => by rw [← kp_at h hi]; exact h3 i hi
  have HF4 : Hid (∀ i, i < R.length → (ruAt R i).2.2.2.2.length ≤ maxLen ∧ Fit2 (ruAt R i).2.2.2.2) := fun i hi => ⟨by have := (hf4.at_ hi).2.1; unfold maxLen; omega, (hf4.at_ hi).2.2⟩
  have HQ0 := Lib.hid (mq_new w X M.length cM Y R.length cR st v A a.length ca st' v' A' b.length cb)
  have HK := Lib.hid hK
  have HM := Lib.hid hM
  have HR := Lib.hid hR
  have HA := Lib.hid hA
  have HB := Lib.hid hB
  generalize invB st v a st' v' b M R = Z at *
  generalize bijB M = zb at *
  generalize (xltN st v a st' v' b M R).1 = z1 at *
  generalize (xltN st v a st' v' b M R).2.1 = z2 at *
  generalize (xltN st v a st' v' b M R).2.2 = z3 at *
  clear hK hM hR hA hB hla hlb hlM hcM hfM hf4 hchk
  unfold maxLen at hlR
  generalize M.length = n at *
  generalize hm : R.length = m at *
  have HMM := Lib.hid hm
  clear hm
  generalize a.length = la at *
  generalize b.length = lb at *
  go_enter Tryd.func9, Tryd.ntmps9
  go_upto_region 1 with fail
  generalize ((w.alloc (.cells #[.slice X n cM, .slice Y m cR] 25)).alloc (.cells #[.int .i64 st, .int .i64 v, .slice A la ca] 28)).alloc (.cells #[.int .i64 st', .int .i64 v', .slice A' lb cb] 28) = U at *
  obtain ⟨⟨m0, m1⟩, ⟨a0, a1, a2⟩, b0, b1, b2⟩ := HQ0.out.cells
  go_wp2_with fail
  clear m0 m1 a0 a1 a2 b0 b1 b2
  refine (HCK.out _ (HK.out.below HQ0.out.1) (HM.out.below HQ0.out.1) (HR.out.below HQ0.out.1) (HA.out.below HQ0.out.1) (HB.out.below HQ0.out.1)).mono ?_
  rintro e w1 ⟨rfl, hb1⟩
  have HQ1 := Lib.hid (HQ0.out.below hb1)
  clear hb1 HQ0 HCK
  by_cases hz : z1 = 0
  · have HX5 := Lib.hid (HX3.out hz)
    have HX6 := Lib.hid (HX4.out hz)
    clear HX3 HX4
    subst hz
    obtain ⟨⟨m0, m1⟩, ⟨a0, a1, a2⟩, b0, b1, b2⟩ := HQ1.out.cells
    go_wp2_with fail
    clear m0 m1 a0 a1 a2 b0 b1 b2
    refine (HBJ.out _ (HM.out.below HQ1.out.1)).mono ?_
    rintro e w2 ⟨rfl, hb2⟩
    have HQ2 := Lib.hid (HQ1.out.below hb2)
    clear hb2 HQ1
    cases zb
    · have HE := Lib.hid (HX2.out rfl)
      go_wp2
      go_ret
      exact ⟨by rw [HE.out] <;> rfl, HQ2.out.1⟩
    · have HX7 := Lib.hid (HX6.out rfl)
      obtain ⟨⟨m0, m1⟩, ⟨a0, a1, a2⟩, b0, b1, b2⟩ := HQ2.out.cells
      go_wp2
      clear m0 m1 a0 a1 a2 b0 b1 b2
      go_loopw [31] (fun i wr => ∃ q : Nat, q ≤ m ∧ i = .int .i64 (q : Int) ∧ MQ w X n cM Y m cR st v A la ca st' v' A' lb cb wr ∧ ∀ j, j < q → kpB a b (ruAt R j) = true) (fun i _ => m - (intOf i).toNat)
      case atStart => exact ⟨0, Nat.zero_le _, rfl, HQ2.out, fun j hj => by omega⟩
      case round =>
        obtain ⟨q, hq, rfl, hQ, hno⟩ := hrel
        have HQ3 := Lib.hid hQ
        have HNO := Lib.hid hno
        clear hQ hno HQ2
        by_cases hlt : q < m
        · have hql : q < R.length := by have := HMM.out; omega
          obtain ⟨aa, k, f, t, s, B, P, c, rfl, hxr, hcr⟩ : ∃ aa k f t s B P c, Y = some aa ∧ ruAt R q = (k, f, t, s, P) ∧ ∀ u, Below w.heap.size w u → (u.cell? (aa.add (q * 5)) = some (.int .i64 k) ∧ u.cell? ⟨(aa.add (q * 5)).block, (aa.add (q * 5)).off + 1, none⟩ = some (.int .i64 f) ∧ u.cell? ⟨(aa.add (q * 5)).block, (aa.add (q * 5)).off + 2, none⟩ = some (.int .i64 t) ∧ u.cell? ⟨(aa.add (q * 5)).block, (aa.add (q * 5)).off + 3, none⟩ = some (.string s) ∧ u.cell? ⟨(aa.add (q * 5)).block, (aa.add (q * 5)).off + 4, none⟩ = some (.slice B P.length c)) ∧ Prs u B P := by
            obtain ⟨aa, k, f, t, s, P, B, c, h⟩ := rls_all HR.out hql
            exact ⟨aa, k, f, t, s, B, P, c, h⟩
          have HFP : Hid (P.length ≤ maxLen ∧ Fit2 P) := by have h := HF4.out q hlt; rw [hxr] at h; exact h
          have HX8 := Lib.hid (HX5.out q hlt)
          have HST : Hid (kpB a b (ruAt R q) = kpB a b (k, f, t, s, P)) := by show _ = _; rw [hxr]
          have HQ4 := Lib.hid (HQ3.out.below (below_al wr (.cells #[.int .i64 k, .int .i64 f, .int .i64 t, .string s, .slice B P.length c] 53)))
          have HO4 := Lib.hid (heap_alloc_new wr (.cells #[.int .i64 k, .int .i64 f, .int .i64 t, .string s, .slice B P.length c] 53))
          have HP4 := Lib.hid (hcr _ HQ4.out.1).2
          have HC := Lib.hid (fun W k0 k1 k2 k3 => HKP.out k f t s B c P W k0 k1 k2 k3 HFP.out.1 HFP.out.2)
          obtain ⟨⟨c0, c1', c2, c3, c4⟩, _⟩ := hcr _ HQ3.out.1
          obtain ⟨⟨m0, m1⟩, ⟨a0, a1, a2⟩, b0, b1, b2⟩ := HQ4.out.cells
          obtain ⟨y0, y1, y2, y3, y4⟩ := obj_cells5 HO4.out
          clear hxr hql hcr HX5
          generalize P.length = pl at *
          generalize kpB a b (k, f, t, s, P) = kb at *
          go_wp2_with fail
          clear c0 c1' c2 c3 c4 m0 m1 a0 a1 a2 b0 b1 b2 y0 y1 y2 y3 y4
          generalize wr.alloc (.cells #[.int .i64 k, .int .i64 f, .int .i64 t, .string s, .slice B pl c] 53) = W4 at *
          refine (HC.out _ (HK.out.below HQ4.out.1) HP4.out (HA.out.below HQ4.out.1) (HB.out.below HQ4.out.1)).mono ?_
          rintro e w5 ⟨rfl, hb5⟩
          have HQ5 := Lib.hid (HQ4.out.below hb5)
          clear hb5 HQ4 HO4 HP4 HQ3
          cases kb
          · have HE := Lib.hid (HX8.out HST.out)
            go_wp2
            go_ret
            exact ⟨by rw [HE.out] <;> rfl, HQ5.out.1⟩
          · go_wp2
            go_roundw
            case rel =>
              refine ⟨q + 1, by omega, by go_num, HQ5.out, fun j hj => ?_⟩
              rcases Nat.lt_or_ge j q with h | h
              · exact HNO.out j h
              · obtain rfl : j = q := by omega
                exact HST.out
            case measure => simp [intOf]; omega
        · have HE := Lib.hid (HX7.out fun j hj => HNO.out j (by omega))
          go_wp2
          go_ret
          exact ⟨by rw [HE.out] <;> rfl, HQ3.out.1⟩
  · have HE := Lib.hid (HX1.out hz)
    have tz : (z1 != 0) = true := by simpa using hz
    clear hz
    go_wp2
    go_ret
    exact ⟨by rw [HE.out] <;> rfl, HQ1.out.1⟩

end Go.Proofs.YtbhlennolghjmaaDoor
