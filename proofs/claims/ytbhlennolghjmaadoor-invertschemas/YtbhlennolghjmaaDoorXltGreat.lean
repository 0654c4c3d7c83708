/-
  What the document's Great and Right of a map answer: in every world.
-/
import Derived.Test.YtbhlennolghjmaaDoorXltRef
import Derived.Test.YtbhlennolghjmaaDoorPackRul
namespace Go.Proofs.YtbhlennolghjmaaDoor
open Go.RowKit

/-- More than is played. -/
def xgreatB (M : List PairT) (R : List Ru) : Bool := decide (300 < M.length) || decide (300 < R.length) || (M.any fun x => decide (100 < x.1.size) || decide (100 < x.2.size)) || R.any fun r => rgreatB r.2.2.2.1 r.2.2.2.2
theorem xgreat_m {M : List PairT} {R : List Ru} (h : 300 < M.length) : xgreatB M R = true := by simp [xgreatB, h]
theorem xgreat_r {M : List PairT} {R : List Ru} (h : 300 < R.length) : xgreatB M R = true := by simp [xgreatB, h]
theorem xgreat_p {M : List PairT} {R : List Ru} {k : Nat} (hk : k < M.length) (h : 100 < (duoAt M k).1.size ∨ 100 < (duoAt M k).2.size) : xgreatB M R = true := by
  have : M.any (fun x => decide (100 < x.1.size) || decide (100 < x.2.size)) = true := by
    rw [List.any_eq_true]
    rw [duoAt_get hk] at h
    exact ⟨_, List.getElem_mem hk, by simpa using h⟩
  simp [xgreatB, this]
theorem xgreat_u {M : List PairT} {R : List Ru} {k : Nat} (hk : k < R.length) (h : rgreatB (ruAt R k).2.2.2.1 (ruAt R k).2.2.2.2 = true) : xgreatB M R = true := by
  have : R.any (fun r => rgreatB r.2.2.2.1 r.2.2.2.2) = true := by
    rw [List.any_eq_true]
    rw [ruAt_get hk] at h
    exact ⟨_, List.getElem_mem hk, h⟩
  simp [xgreatB, this]
theorem xgreat_no {M : List PairT} {R : List Ru} (hM : M.length ≤ 300) (hR : R.length ≤ 300) (h1 : ∀ j, j < M.length → (duoAt M j).1.size ≤ 100 ∧ (duoAt M j).2.size ≤ 100) (h2 : ∀ j, j < R.length → rgreatB (ruAt R j).2.2.2.1 (ruAt R j).2.2.2.2 = false) : xgreatB M R = false := by
  have e1 : M.any (fun x => decide (100 < x.1.size) || decide (100 < x.2.size)) = false := by
    rw [List.any_eq_false]
    intro x hx
    obtain ⟨k, hk, rfl⟩ := List.getElem_of_mem hx
    have := h1 k hk
    rw [duoAt_get hk] at this
    simp; omega
  have e2 : R.any (fun r => rgreatB r.2.2.2.1 r.2.2.2.2) = false := by
    rw [List.any_eq_false]
    intro x hx
    obtain ⟨k, hk, rfl⟩ := List.getElem_of_mem hx
    have := h2 k hk
    rw [ruAt_get hk] at this
    simpa using this
  unfold xgreatB
  rw [e1, e2]
  simp; omega
set_option maxRecDepth 100000 in
set_option maxHeartbeats 1600000 in
theorem xgr_m (X : Option Addr) (n cM : Nat) (Y : Option Addr) (m cR : Nat) (w : World) (hn : n ≤ maxLen) (h : 300 < n) : Calls Tryd.prog 27 #[.agg #[.slice X n cM, .slice Y m cR]] w fun e w' => e = .returned (.bool true) ∧ Below w.heap.size w w' := by
  unfold maxLen at hn
  go_enter Tryd.func27, Tryd.ntmps27
  go_wp2
  go_ret
  exact ⟨rfl, below_al _ _⟩
set_option maxRecDepth 100000 in
set_option maxHeartbeats 1600000 in
theorem xgr_r (X : Option Addr) (n cM : Nat) (Y : Option Addr) (m cR : Nat) (w : World) (hn : n ≤ 300) (hm : m ≤ maxLen) (h : 300 < m) : Calls Tryd.prog 27 #[.agg #[.slice X n cM, .slice Y m cR]] w fun e w' => e = .returned (.bool true) ∧ Below w.heap.size w w' := by
  unfold maxLen at hm
  go_enter Tryd.func27, Tryd.ntmps27
  go_wp2
  go_ret
  exact ⟨rfl, below_al _ _⟩
set_option maxRecDepth 100000 in
set_option maxHeartbeats 6400000 in
theorem xgr_short (X : Option Addr) (cM : Nat) (M : List PairT) (Y : Option Addr) (cR : Nat) (R : List Ru) (w : World) (hM : Prs w X M) (hR : Rls w Y R) (hn : M.length ≤ 300) (hm : R.length ≤ 300) (hf : Fit2 M) (hf3 : Fit3 R) :
    Calls Tryd.prog 27 #[.agg #[.slice X M.length cM, .slice Y R.length cR]] w fun e w' => e = .returned (.bool (xgreatB M R)) ∧ Below w.heap.size w w' := by
  have HM := Lib.hid hM
  have HR := Lib.hid hR
  have HF := Lib.hid hf
  have HF3 := Lib.hid hf3
  have HN := Lib.hid hn
  have HMM := Lib.hid hm
  have HBW := Lib.hid (below_al w (.cells #[.slice X M.length cM, .slice Y R.length cR] 25))
  have HX : Hid (MpBox (w.alloc (.cells #[.slice X M.length cM, .slice Y R.length cR] 25)) w.heap.size X M.length cM Y R.length cR) := heap_alloc_new _ _
  clear hM hR hf hf3
  generalize hln : M.length = n at *
  generalize hlm : R.length = m at *
  have HLN := Lib.hid hln
  have HLM := Lib.hid hlm
  clear hln hlm
  go_enter Tryd.func27, Tryd.ntmps27
  go_wp2
  generalize w.alloc (.cells #[.slice X n cM, .slice Y m cR] 25) = U at *
  obtain ⟨m0, m1, _, _⟩ := obj_cells HX.out
  go_loop [3] (fun i => ∃ q : Nat, q ≤ n ∧ i = .int .i64 (q : Int) ∧ (∀ j, j < q → (duoAt M j).1.size ≤ 100 ∧ (duoAt M j).2.size ≤ 100)) (fun i => n - (intOf i).toNat)
  case atStart => exact ⟨0, Nat.zero_le _, rfl, fun j hj => by omega⟩
  case round =>
    obtain ⟨q, hq, rfl, hno⟩ := hrel
    have HNO := Lib.hid hno
    clear hno
    by_cases hlt : q < n
    · obtain ⟨a, x, y, rfl, hx, hc⟩ := prs_all HM.out (p := q) (by have := HLN.out; omega)
      obtain ⟨z0, z1⟩ := hc _ HBW.out
      have hz := HF.out.at_ (k := q) (by have := HLN.out; omega)
      rw [hx] at hz
      have hz1 : x.size ≤ maxLen := hz.1
      have hz2 : y.size ≤ maxLen := hz.2
      unfold maxLen at hz1 hz2
      have HXX := Lib.hid hx
      clear hx hz hc
      by_cases h1 : 100 < x.size
      · have HE := Lib.hid (xgreat_p (R := R) (M := M) (k := q) (by have := HLN.out; omega) (by rw [HXX.out]; exact Or.inl h1))
        go_wp2
        go_ret
        exact ⟨by rw [HE.out] <;> rfl, HBW.out⟩
      · by_cases h2 : 100 < y.size
        · have HE := Lib.hid (xgreat_p (R := R) (M := M) (k := q) (by have := HLN.out; omega) (by rw [HXX.out]; exact Or.inr h2))
          go_wp2
          go_ret
          exact ⟨by rw [HE.out] <;> rfl, HBW.out⟩
        · go_wp2
          go_round
          case rel =>
            refine ⟨q + 1, by omega, by go_num, fun j hj => ?_⟩
            rcases Nat.lt_or_ge j q with h | h
            · exact HNO.out j h
            · obtain rfl : j = q := by omega
              rw [HXX.out]; exact ⟨Nat.le_of_not_lt h1, Nat.le_of_not_lt h2⟩
          case measure => simp [intOf]; omega
    · have hqn : q = n := by omega
      subst hqn
      have HNM := Lib.hid HNO.out
      clear HNO
      go_wp2
      clear m0 m1
      go_loopw [4] (fun i wr => ∃ p : Nat, p ≤ m ∧ i = .int .i64 (p : Int) ∧ Below w.heap.size w wr ∧ MpBox wr w.heap.size X q cM Y m cR ∧ (∀ j, j < p → rgreatB (ruAt R j).2.2.2.1 (ruAt R j).2.2.2.2 = false)) (fun i _ => m - (intOf i).toNat)
      case atStart => exact ⟨0, Nat.zero_le _, rfl, HBW.out, HX.out, fun j hj => by omega⟩
      case round =>
        obtain ⟨p, hp, rfl, hb, hx, hno⟩ := hrel
        have HB := Lib.hid hb
        have HX2 := Lib.hid hx
        have HNO := Lib.hid hno
        clear hb hx hno
        obtain ⟨m0, m1, _, _⟩ := obj_cells HX2.out
        by_cases hlt : p < m
        · have hpl : p < R.length := by have := HLM.out; omega
          obtain ⟨ra, k, f, t, s, P, B, c, rfl, hx, hc⟩ := rls_all HR.out hpl
          obtain ⟨⟨x0, x1, x2, x3, x4⟩, hpr⟩ := hc _ HB.out
          have hz := HF3.out.at_ hpl
          rw [hx] at hz
          have HC := Lib.hid (rgreat_any k f t s B c P _ hpr hz.1 hz.2.1 hz.2.2)
          have HRX : Hid (rgreatB (ruAt R p).2.2.2.1 (ruAt R p).2.2.2.2 = rgreatB s P) := by show _ = _; rw [hx]
          have HPL := Lib.hid hpl
          generalize rgreatB s P = g at *
          clear hx hc hpr hz hpl
          go_wp2_with fail
          refine HC.out.mono ?_
          rintro e w4 ⟨rfl, hb4⟩
          have HB4 := Lib.hid (hbt HB.out hb4)
          have HX4 := Lib.hid (HX2.out.below hb4)
          clear hb4 x0 x1 x2 x3 x4 m0 m1
          cases g
          · go_wp2
            go_roundw
            case rel =>
              refine ⟨p + 1, by omega, by go_num, HB4.out, HX4.out, fun j hj => ?_⟩
              rcases Nat.lt_or_ge j p with h | h
              · exact HNO.out j h
              · obtain rfl : j = p := by omega
                exact HRX.out
            case measure => simp [intOf]; omega
          · have HE := Lib.hid (xgreat_u (M := M) HPL.out HRX.out)
            go_wp2
            go_ret
            exact ⟨by rw [HE.out] <;> rfl, HB4.out⟩
        · have HE := Lib.hid (xgreat_no (M := M) (R := R) (by rw [HLN.out]; exact HN.out) (by rw [HLM.out]; exact HMM.out) (fun j hj => HNM.out j (by have := HLN.out; omega)) (fun j hj => HNO.out j (by have := HLM.out; omega)))
          go_wp2
          go_ret
          exact ⟨by rw [HE.out] <;> rfl, HB.out⟩
theorem xgreat_any (X : Option Addr) (cM : Nat) (M : List PairT) (Y : Option Addr) (cR : Nat) (R : List Ru) (w : World) (hM : Prs w X M) (hR : Rls w Y R) (hn : M.length ≤ maxLen) (hm : R.length ≤ maxLen) (hf : Fit2 M) (hf3 : Fit3 R) :
    Calls Tryd.prog 27 #[.agg #[.slice X M.length cM, .slice Y R.length cR]] w fun e w' => e = .returned (.bool (xgreatB M R)) ∧ Below w.heap.size w w' := by
  by_cases h1 : 300 < M.length
  · rw [xgreat_m h1]; exact xgr_m X _ cM Y _ cR w hn h1
  · by_cases h2 : 300 < R.length
    · rw [xgreat_r h2]; exact xgr_r X _ cM Y _ cR w (by omega) hm h2
    · exact xgr_short X cM M Y cR R w hM hR (by omega) (by omega) hf hf3
set_option maxRecDepth 100000 in
set_option maxHeartbeats 1600000 in
theorem xright_any (X : Option Addr) (cM : Nat) (M : List PairT) (Y : Option Addr) (cR : Nat) (R : List Ru) (st v : Int) (A : Option Addr) (ca : Nat) (a : List Sp) (st' v' : Int) (A' : Option Addr) (cb : Nat) (b : List Sp) (w : World) (hM : Prs w X M) (hR : Rls w Y R) (hA : Spl w A a) (hB : Spl w A' b) (hla : a.length ≤ 1000) (hlb : b.length ≤ 1000) (hlM : M.length ≤ maxLen) (hlR : R.length ≤ maxLen) (hcM : M.length ≤ cM) (hf : Fit2 M) (hf3 : Fit3 R) :
    Calls Tryd.prog 32 #[.agg #[.slice X M.length cM, .slice Y R.length cR], .agg #[.int .i64 st, .int .i64 v, .slice A a.length ca], .agg #[.int .i64 st', .int .i64 v', .slice A' b.length cb]] w fun e w' => e = .returned (.bool (decide ((xltN st v a st' v' b M R).1 = 0))) ∧ Below w.heap.size w w' := by
  have HQ0 := Lib.hid (mq_new w X M.length cM Y R.length cR st v A a.length ca st' v' A' b.length cb)
  have HC := Lib.hid (xcref_any X cM M Y cR R st v A ca a st' v' A' cb b _ (hM.below HQ0.out.1) (hR.below HQ0.out.1) (hA.below HQ0.out.1) (hB.below HQ0.out.1) hla hlb hlM hlR hcM hf hf3)
  generalize (xltN st v a st' v' b M R).1 = z1 at *
  generalize (xltN st v a st' v' b M R).2.1 = z2 at *
  generalize (xltN st v a st' v' b M R).2.2 = z3 at *
  have HZ : Hid (decide (z1 = 0) = (z1 == 0)) := by show _ = _; by_cases e : z1 = 0 <;> simp [e]
  rw [HZ.out]
  clear hM hR hA hB hla hlb hlM hlR hcM hf hf3 HZ
  generalize M.length = n at *
  generalize R.length = m at *
  generalize a.length = la at *
  generalize b.length = lb at *
  go_enter Tryd.func32, Tryd.ntmps32
  go_wp2_with fail
  refine HC.out.mono ?_
  rintro e w1 ⟨rfl, hb1⟩
  have HB1 := Lib.hid (hbt HQ0.out.1 hb1)
  clear hb1 HC HQ0
  go_wp2
  go_ret
  exact ⟨rfl, HB1.out⟩

end Go.Proofs.YtbhlennolghjmaaDoor
