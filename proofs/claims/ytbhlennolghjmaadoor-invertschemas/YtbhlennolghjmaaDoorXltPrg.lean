/-
  What the program's Check of a map, constants and become answer: in every world where the table of kinds reads as it is laid.
-/
import Derived.Test.YtbhlennolghjmaaDoorXltRls
import Derived.Test.YtbhlennolghjmaaDoorPackMsg
namespace Go.Proofs.YtbhlennolghjmaaDoor
open Go.RowKit

theorem obj_cells6 {u : World} {g : Nat} {a b c d e f : Value} {t : TypeId} (h : u.heap[g]? = some (.cells #[a, b, c, d, e, f] t)) :
    u.cell? ⟨g, 0, none⟩ = some a ∧ u.cell? ⟨g, 1, none⟩ = some b ∧ u.cell? ⟨g, 2, none⟩ = some c ∧ u.cell? ⟨g, 3, none⟩ = some d ∧ u.cell? ⟨g, 4, none⟩ = some e ∧ u.cell? ⟨g, 5, none⟩ = some f :=
  ⟨cell_of_row u g 0 _ t _ h, cell_of_row u g 1 _ t _ h, cell_of_row u g 2 _ t _ h, cell_of_row u g 3 _ t _ h, cell_of_row u g 4 _ t _ h, cell_of_row u g 5 _ t _ h⟩
set_option maxRecDepth 100000 in
set_option maxHeartbeats 12800000 in
theorem xchk_any (hchk : RChk) (X : Option Addr) (cM : Nat) (M : List PairT) (Y : Option Addr) (cR : Nat) (R : List Ru) (st v : Int) (A : Option Addr) (ca : Nat) (a : List Sp) (st' v' : Int) (A' : Option Addr) (cb : Nat) (b : List Sp) (w : World) (hK : Kinds w) (hM : Prs w X M) (hR : Rls w Y R) (hA : Spl w A a) (hB : Spl w A' b) (hla : a.length ≤ 1000) (hlb : b.length ≤ 1000) (hlM : M.length ≤ maxLen) (hcM : M.length ≤ cM) (hlR : R.length ≤ maxLen) (hf4 : Fit4 R) :
    Calls Tryd.prog 16 #[.agg #[.slice X M.length cM, .slice Y R.length cR], .agg #[.int .i64 st, .int .i64 v, .slice A a.length ca], .agg #[.int .i64 st', .int .i64 v', .slice A' b.length cb]] w fun e w' => e = .returned (.tuple #[.int .i64 (xltN st v a st' v' b M R).1, .int .i64 (xltN st v a st' v' b M R).2.1, .int .i64 (xltN st v a st' v' b M R).2.2]) ∧ Below w.heap.size w w' := by
  have HSA := Lib.hid (fun W h => schk_any st v A ca a W h hla)
  have HSB := Lib.hid (fun W h => schk_any st' v' A' cb b W h hlb)
  have HPS := Lib.hid (fun W h => xpairs_any X cM M v v' W h hlM hcM)
  have HRS := Lib.hid (fun W k0 k1 k2 k3 k4 k5 => xrules_any hchk Y cR R st v A ca a st' v' A' cb b W k0 k1 k2 k3 hla hlb hlR hf4 k4 k5)
  have HX1 := Lib.hid (@xlt_a st v a st' v' b M R)
  have HX2 := Lib.hid (@xlt_b st v a st' v' b M R)
  have HX3 := Lib.hid (@xlt_ps st v a st' v' b M R)
  have HX4 := Lib.hid (@xlt_rs st v a st' v' b M R)
  have HQ0 := Lib.hid (mq_new w X M.length cM Y R.length cR st v A a.length ca st' v' A' b.length cb)
  have HK := Lib.hid hK
  have HM := Lib.hid hM
  have HR := Lib.hid hR
  have HA := Lib.hid hA
  have HB := Lib.hid hB
  generalize xltN st v a st' v' b M R = Z at *
  generalize (schN st v a).1 = za at *
  generalize (schN st v a).2 = za' at *
  generalize (schN st' v' b).1 = zb at *
  generalize (schN st' v' b).2 = zb' at *
  generalize (xpsN v v' M).1 = zp at *
  generalize (xpsN v v' M).2 = zp' at *
  generalize (xrsN a b R).1 = zr at *
  generalize (xrsN a b R).2 = zr' at *
  generalize M.length = n at *
  generalize R.length = m at *
  generalize a.length = la at *
  generalize b.length = lb at *
  clear hK hM hR hA hB hla hlb hlM hcM hlR hf4 hchk
  go_enter Tryd.func16, Tryd.ntmps16
  go_wp2_with fail
  have HSZ : Hid ((((w.alloc (.cells #[.slice X n cM, .slice Y m cR] 25)).alloc (.cells #[.int .i64 st, .int .i64 v, .slice A la ca] 28)).alloc (.cells #[.int .i64 st', .int .i64 v', .slice A' lb cb] 28)).heap.size = w.heap.size + 3) := by show _ = _; simp
  have HQ1 := Lib.hid (HQ0.out.below (below_al _ (.cells #[.int .i64 st, .int .i64 v, .slice A la ca, .int .i64 st', .int .i64 v', .slice A' lb cb] 28)))
  have HG1 := Lib.hid (heap_al (((w.alloc (.cells #[.slice X n cM, .slice Y m cR] 25)).alloc (.cells #[.int .i64 st, .int .i64 v, .slice A la ca] 28)).alloc (.cells #[.int .i64 st', .int .i64 v', .slice A' lb cb] 28)) (.cells #[.int .i64 st, .int .i64 v, .slice A la ca, .int .i64 st', .int .i64 v', .slice A' lb cb] 28) (w.heap.size + 3) HSZ.out.symm)
  generalize (((w.alloc (.cells #[.slice X n cM, .slice Y m cR] 25)).alloc (.cells #[.int .i64 st, .int .i64 v, .slice A la ca] 28)).alloc (.cells #[.int .i64 st', .int .i64 v', .slice A' lb cb] 28)).alloc (.cells #[.int .i64 st, .int .i64 v, .slice A la ca, .int .i64 st', .int .i64 v', .slice A' lb cb] 28) = U at *
  clear HQ0 HSZ
  go_loopw [21] (fun i wr => ∃ q : Nat, q ≤ 2 ∧ i = .int .i64 (q : Int) ∧ MQ w X n cM Y m cR st v A la ca st' v' A' lb cb wr ∧ wr.heap[w.heap.size + 3]? = some (.cells #[.int .i64 st, .int .i64 v, .slice A la ca, .int .i64 st', .int .i64 v', .slice A' lb cb] 28) ∧ (0 < q → za = 0) ∧ (1 < q → zb = 0)) (fun i _ => 2 - (intOf i).toNat)
  case atStart => exact ⟨0, Nat.zero_le _, rfl, HQ1.out, HG1.out, fun h => by omega, fun h => by omega⟩
  case round =>
    obtain ⟨q, hq, rfl, hQ, hg, h0, h1⟩ := hrel
    have HQ3 := Lib.hid hQ
    have HG3 := Lib.hid hg
    clear hQ hg HQ1 HG1
    obtain rfl | rfl | rfl : q = 0 ∨ q = 1 ∨ q = 2 := by omega
    · obtain ⟨x0, x1, x2, x3, x4, x5⟩ := obj_cells6 HG3.out
      have HQ4 := Lib.hid (HQ3.out.below (below_al wr (.cells #[.int .i64 st, .int .i64 v, .slice A la ca] 28)))
      have HG4 := Lib.hid (obj_below HG3.out (below_al wr (.cells #[.int .i64 st, .int .i64 v, .slice A la ca] 28)))
      clear h0 h1 HX3 HX4 HX2
      go_wp2_with fail
      clear x0 x1 x2 x3 x4 x5
      generalize wr.alloc (.cells #[.int .i64 st, .int .i64 v, .slice A la ca] 28) = W4 at *
      refine (HSA.out _ (HA.out.below HQ4.out.1)).mono ?_
      rintro e w5 ⟨rfl, hb5⟩
      have HQ5 := Lib.hid (HQ4.out.below hb5)
      have HG5 := Lib.hid (obj_below HG4.out hb5)
      clear hb5 HQ4 HG4
      by_cases hz : za = 0
      · have HZ := Lib.hid hz
        subst hz
        go_wp2
        go_roundw
        case rel => exact ⟨1, by omega, by go_num, HQ5.out, HG5.out, fun _ => HZ.out, fun h => by omega⟩
        case measure => simp [intOf]
      · have HE := Lib.hid (HX1.out hz)
        have tz : (za != 0) = true := by simpa using hz
        clear hz
        go_wp2
        go_ret3
        exact ⟨by rw [HE.out] <;> rfl, HQ5.out.1⟩
    · obtain ⟨x0, x1, x2, x3, x4, x5⟩ := obj_cells6 HG3.out
      have HZ0 := Lib.hid (h0 (by omega))
      have HQ4 := Lib.hid (HQ3.out.below (below_al wr (.cells #[.int .i64 st', .int .i64 v', .slice A' lb cb] 28)))
      have HG4 := Lib.hid (obj_below HG3.out (below_al wr (.cells #[.int .i64 st', .int .i64 v', .slice A' lb cb] 28)))
      clear h0 h1 HX3 HX4 HX1
      go_wp2_with fail
      clear x0 x1 x2 x3 x4 x5
      generalize wr.alloc (.cells #[.int .i64 st', .int .i64 v', .slice A' lb cb] 28) = W4 at *
      refine (HSB.out _ (HB.out.below HQ4.out.1)).mono ?_
      rintro e w5 ⟨rfl, hb5⟩
      have HQ5 := Lib.hid (HQ4.out.below hb5)
      have HG5 := Lib.hid (obj_below HG4.out hb5)
      clear hb5 HQ4 HG4
      by_cases hz : zb = 0
      · have HZ := Lib.hid hz
        subst hz
        go_wp2
        go_roundw
        case rel => exact ⟨2, by omega, by go_num, HQ5.out, HG5.out, fun _ => HZ0.out, fun _ => HZ.out⟩
        case measure => simp [intOf]
      · have HE := Lib.hid (HX2.out HZ0.out hz)
        have tz : (zb != 0) = true := by simpa using hz
        clear hz
        go_wp2
        go_ret3
        exact ⟨by rw [HE.out] <;> rfl, HQ5.out.1⟩
    · have HZ0 := Lib.hid (h0 (by omega))
      have HZ1 := Lib.hid (h1 (by omega))
      clear h0 h1 HX1 HX2 HG3
      obtain ⟨⟨m0, m1⟩, ⟨a0, a1, a2⟩, b0, b1, b2⟩ := HQ3.out.cells
      go_wp2_with fail
      clear m0 m1 a0 a1 a2 b0 b1 b2
      refine (HPS.out _ (HM.out.below HQ3.out.1)).mono ?_
      rintro e w5 ⟨rfl, hb5⟩
      have HQ5 := Lib.hid (HQ3.out.below hb5)
      clear hb5 HQ3
      by_cases hz : zp = 0
      · have HE := Lib.hid (HX4.out HZ0.out HZ1.out hz)
        subst hz
        obtain ⟨⟨m0, m1⟩, ⟨a0, a1, a2⟩, b0, b1, b2⟩ := HQ5.out.cells
        go_wp2_with fail
        clear m0 m1 a0 a1 a2 b0 b1 b2
        refine (HRS.out _ (HK.out.below HQ5.out.1) (HR.out.below HQ5.out.1) (HA.out.below HQ5.out.1) (HB.out.below HQ5.out.1) HZ0.out HZ1.out).mono ?_
        rintro e w6 ⟨rfl, hb6⟩
        have HQ6 := Lib.hid (HQ5.out.below hb6)
        clear hb6 HQ5
        by_cases hz : zr = 0
        · have HE : Hid (Z = (0, 0, 0)) := by show _ = _; rw [HE.out, if_neg (by simp [hz])]
          subst hz
          go_wp2
          go_ret3
          exact ⟨by rw [HE.out] <;> rfl, HQ6.out.1⟩
        · have HE : Hid (Z = (zr, 3, zr')) := by show _ = _; rw [HE.out, if_pos hz]
          have tz : (zr != 0) = true := by simpa using hz
          clear hz
          go_wp2
          go_ret3
          exact ⟨by rw [HE.out] <;> rfl, HQ6.out.1⟩
      · have HE := Lib.hid (HX3.out HZ0.out HZ1.out hz)
        have tz : (zp != 0) = true := by simpa using hz
        clear hz
        go_wp2
        go_ret3
        exact ⟨by rw [HE.out] <;> rfl, HQ5.out.1⟩

/-- What become's blocks hold. -/
def BQ (w : World) (st v : Int) (A : Option Addr) (la ca : Nat) (no : Int) (s : ByteArray) (u : World) : Prop :=
  Below w.heap.size w u ∧ Box u w.heap.size st v A la ca ∧ u.heap[w.heap.size + 1]? = some (.cells #[.int .i64 no, .string s] 81) ∧ u.heap[w.heap.size + 2]? = some (.cells #[.int .i64 0, .string ⟨#[]⟩] 81)
theorem BQ.below {w : World} {st v : Int} {A : Option Addr} {la ca : Nat} {no : Int} {s : ByteArray} {u u' : World} (h : BQ w st v A la ca no s u) (hb : Below u.heap.size u u') : BQ w st v A la ca no s u' :=
  ⟨hbt h.1 hb, h.2.1.below hb, obj_below h.2.2.1 hb, obj_below h.2.2.2 hb⟩
theorem bq_new (w : World) (st v : Int) (A : Option Addr) (la ca : Nat) (no : Int) (s : ByteArray) : BQ w st v A la ca no s (((w.alloc (.cells #[.int .i64 st, .int .i64 v, .slice A la ca] 28)).alloc (.cells #[.int .i64 no, .string s] 81)).alloc (.cells #[.int .i64 0, .string ⟨#[]⟩] 81)) :=
  ⟨hbt (hbt (below_al _ _) (below_al _ _)) (below_al _ _), ((box_new _ _ _ _ _ _).below (below_al _ _)).below (below_al _ _), obj_below (heap_al _ _ _ (by simp)) (below_al _ _), heap_al _ _ _ (by simp)⟩
set_option maxRecDepth 100000 in
set_option maxHeartbeats 6400000 in
theorem xbecome_any (happ : RApp) (Y : Option Addr) (cR : Nat) (R : List Ru) (st v : Int) (A : Option Addr) (ca : Nat) (b : List Sp) (no : Int) (s : ByteArray) (w : World) (hK : Kinds w) (hR : Rls w Y R) (hB : Spl w A b) (hlb : b.length ≤ 1000) (hlR : R.length ≤ maxLen) (hf4 : Fit4 R) (hs : s.size ≤ maxLen) :
    Calls Tryd.prog 46 #[.slice Y R.length cR, .agg #[.int .i64 st, .int .i64 v, .slice A b.length ca], .agg #[.int .i64 no, .string s]] w fun e w' => e = .returned (.tuple #[.agg #[.int .i64 (xone b R (no, s)).1, .string (xone b R (no, s)).2.1], .int .i64 (xone b R (no, s)).2.2]) ∧ Below w.heap.size w w' := by
  have HAP := Lib.hid (fun k f t s' B c P W k0 k1 k2 k3 k4 k5 => happ k f t s' B c P st v A ca b s W k0 k1 k2 hlb k3 k4 k5 hs)
  have HQ0 := Lib.hid (bq_new w st v A b.length ca no s)
  have HON := Lib.hid (fun h => one_none (b := b) (R := R) (x := (no, s)) h)
  have HOS := Lib.hid (fun i h => one_some (b := b) (R := R) (x := (no, s)) (i := i) h)
  have HK := Lib.hid hK
  have HR := Lib.hid hR
  have HB := Lib.hid hB
  have HF4 := Lib.hid hf4
  unfold maxLen at hlR
  generalize xone b R (no, s) = Z at *
  generalize hm : R.length = m at *
  generalize b.length = lb at *
  have HLR := Lib.hid hm
  clear hm hK hR hB hf4 hlb happ hs
  go_enter Tryd.func46, Tryd.ntmps46
  go_wp2_with fail
  generalize ((w.alloc (.cells #[.int .i64 st, .int .i64 v, .slice A lb ca] 28)).alloc (.cells #[.int .i64 no, .string s] 81)).alloc (.cells #[.int .i64 0, .string ⟨#[]⟩] 81) = U at *
  go_loopw [12] (fun i wr => ∃ q : Nat, q ≤ m ∧ i = .int .i64 (q : Int) ∧ BQ w st v A lb ca no s wr ∧ ∀ j, j < q → (ruAt R j).2.1 ≠ no) (fun i _ => m - (intOf i).toNat)
  case atStart => exact ⟨0, Nat.zero_le _, rfl, HQ0.out, fun j hj => by omega⟩
  case round =>
    obtain ⟨q, hq, rfl, hQ, hno⟩ := hrel
    have HQ3 := Lib.hid hQ
    have HNO := Lib.hid hno
    clear hQ hno
    by_cases hlt : q < m
    · have hql : q < R.length := by have := HLR.out; omega
      obtain ⟨ra, k, f, t, s', P, B, c, rfl, hxr, hcr⟩ := rls_all HR.out hql
      obtain ⟨⟨x0, x1, x2, x3, x4⟩, hpr⟩ := hcr _ HQ3.out.1
      have HFZ := Lib.hid (HF4.out.at_ hql)
      rw [hxr] at HFZ
      have HXR := Lib.hid hxr
      have HQL := Lib.hid hql
      have HQ4 := Lib.hid (HQ3.out.below (below_al wr (.cells #[.int .i64 k, .int .i64 f, .int .i64 t, .string s', .slice B P.length c] 53)))
      have HG4 : Hid (RBox (wr.alloc (.cells #[.int .i64 k, .int .i64 f, .int .i64 t, .string s', .slice B P.length c] 53)) wr.heap.size k f t s' B P.length c) := heap_alloc_new _ _
      have HP4 := Lib.hid (hpr.below (below_al wr (.cells #[.int .i64 k, .int .i64 f, .int .i64 t, .string s', .slice B P.length c] 53)))
      obtain ⟨v0, v1, _, _⟩ := obj_cells HQ4.out.2.2.1
      obtain ⟨b0, b1, b2⟩ := obj_cells3 HQ4.out.2.1
      obtain ⟨r0, r1, r2, r3, r4⟩ := obj_cells5 HG4.out
      clear hxr hcr hpr hql
      by_cases hf : f = no
      · subst hf
        have HI := Lib.hid (HOS.out q (ruI_hit HQL.out HNO.out (by rw [HXR.out])))
        rw [HXR.out] at HI
        have HRC := Lib.hid (HAP.out k f t s' B c P _ (HK.out.below HQ4.out.1) HP4.out (HB.out.below HQ4.out.1) HFZ.out.2.1 HFZ.out.2.2 HFZ.out.1)
        have HI2 : Hid (Z = rapN k t s' P b s) := HI.out
        generalize rapN k t s' P b s = Z' at *
        obtain ⟨z1, z2, z3⟩ := Z'
        generalize P.length = n at *
        go_wp2_with fail
        clear x0 x1 x2 x3 x4 v0 v1 b0 b1 b2 r0 r1 r2 r3 r4
        generalize wr.alloc (.cells #[.int .i64 k, .int .i64 f, .int .i64 t, .string s', .slice B n c] 53) = W4 at *
        refine HRC.out.mono ?_
        rintro e w5 ⟨rfl, hb5⟩
        have HQ5 := Lib.hid (HQ4.out.below hb5)
        clear hb5 HQ4 HG4 HRC HP4
        obtain ⟨v0, v1, f0, f1⟩ := obj_cells HQ5.out.2.2.2
        go_wp2
        refine bodyPost_ret (results_cell_row1 rfl _ _ (w.heap.size + 2) _ _ _ _ rfl (obj_set2 HQ5.out.2.2.2 _ _) Tryd.underlying81 rfl (by kernel_rfl)) rfl ?_
        exact ⟨by rw [HI2.out] <;> rfl, below_set2 HQ5.out.1 (by omega) _ _⟩
      · have tf : (f == no) = false := by simpa using hf
        have HF := Lib.hid hf
        clear hf
        generalize P.length = n at *
        go_wp2
        go_roundw
        case rel =>
          refine ⟨q + 1, by omega, by go_num, HQ4.out, fun j hj => ?_⟩
          rcases Nat.lt_or_ge j q with h | h
          · exact HNO.out j h
          · obtain rfl : j = q := by omega
            rw [HXR.out]; exact HF.out
        case measure => simp [intOf]; omega
    · have HE := Lib.hid (HON.out (ruI_none (fun j hj => HNO.out j (by have := HLR.out; omega))))
      obtain ⟨v0, v1, f0, f1⟩ := obj_cells HQ3.out.2.2.2
      go_wp2
      refine bodyPost_ret (results_cell_row1 rfl _ _ (w.heap.size + 2) _ _ _ _ rfl (obj_set2 HQ3.out.2.2.2 _ _) Tryd.underlying81 rfl (by kernel_rfl)) rfl ?_
      exact ⟨by rw [HE.out] <;> rfl, below_set2 HQ3.out.1 (by omega) _ _⟩

theorem xwith_length : ∀ (V : List Item), (xwith V).length ≤ V.length := by
  intro V
  have key : ∀ k, k ≤ V.length → (xwith (V.take k)).length ≤ k := by
    intro k
    induction k with
    | zero => intro _; simp [xwith]
    | succ k ih =>
      intro hk
      have h1 := ih (by omega)
      rw [xwith_step (by omega)]
      by_cases h0 : (itemAt V k).1 = 0
      · rw [if_pos h0]; omega
      · rw [if_neg h0]
        have := with_length (itemAt V k).1 (itemAt V k).2 (xwith (V.take k))
        omega
  have := key V.length (Nat.le_refl _)
  rwa [List.take_length] at this
theorem xwith_snoc (V : List Item) (x : Item) : xwith (V ++ [x]) = if x.1 = 0 then xwith V else withL x.1 x.2 (xwith V) := by unfold xwith; rw [List.foldl_append]; rfl
set_option maxRecDepth 100000 in
set_option maxHeartbeats 6400000 in
theorem xconst_any (Y : Option Addr) (cR : Nat) (R : List Ru) (mo : ByteArray) (w : World) (hR : Rls w Y R) (hlR : R.length ≤ 500) (hz : ∀ j, j < R.length → (ruAt R j).1 = 3 → (ruAt R j).2.2.1 ≠ 0) :
    Calls Tryd.prog 45 #[.slice Y R.length cR, .string mo] w fun e w' => ∃ A' c', e = .returned (.agg #[.string mo, .slice A' (xwith (xcon R)).length c']) ∧ Tlvs w' A' (xwith (xcon R)) ∧ Below w.heap.size w w' := by
  have HB0 := Lib.hid (hbt (below_al w (.cells #[.string ⟨#[]⟩, .slice none 0 0] 41)) (below_al _ (.cells #[.string mo, .slice none 0 0] 41)))
  have HR0 : Hid (MBox ((w.alloc (.cells #[.string ⟨#[]⟩, .slice none 0 0] 41)).alloc (.cells #[.string mo, .slice none 0 0] 41)) w.heap.size ⟨#[]⟩ none 0 0) := (mbox_new _ _ _ _ _).below (below_al _ _)
  have HM0 : Hid (MBox ((w.alloc (.cells #[.string ⟨#[]⟩, .slice none 0 0] 41)).alloc (.cells #[.string mo, .slice none 0 0] 41)) (w.heap.size + 1) mo none 0 0) := heap_al _ _ _ (by simp)
  have HR := Lib.hid hR
  have HZ := Lib.hid hz
  generalize hm : R.length = m at *
  have HLR := Lib.hid hm
  clear hm hR hz
  go_enter Tryd.func45, Tryd.ntmps45
  go_wp2_with fail
  generalize (w.alloc (.cells #[.string ⟨#[]⟩, .slice none 0 0] 41)).alloc (.cells #[.string mo, .slice none 0 0] 41) = U at *
  go_loopw [12] (fun i wr => ∃ (q : Nat) (A : Option Addr) (c : Nat), q ≤ m ∧ i = .int .i64 (q : Int) ∧ Below w.heap.size w wr ∧ MBox wr w.heap.size ⟨#[]⟩ none 0 0 ∧ MBox wr (w.heap.size + 1) mo A (xwith (xcon (R.take q))).length c ∧ Tlvs wr A (xwith (xcon (R.take q)))) (fun i _ => m - (intOf i).toNat)
  case atStart => exact ⟨0, none, 0, Nat.zero_le _, rfl, HB0.out, HR0.out, HM0.out, fun i hi => by simp [xwith, xcon] at hi⟩
  case round =>
    obtain ⟨q, A, c0, hq, rfl, hb, hr, hm, ht⟩ := hrel
    have HB3 := Lib.hid hb
    have HR3 := Lib.hid hr
    have HM3 := Lib.hid hm
    have HT3 := Lib.hid ht
    clear hb hr hm ht HB0 HR0 HM0
    by_cases hlt : q < m
    · have hql : q < R.length := by have := HLR.out; omega
      obtain ⟨ra, k, f, t, s', P, B, c, rfl, hxr, hcr⟩ := rls_all HR.out hql
      obtain ⟨⟨x0, x1, x2, x3, x4⟩, _⟩ := hcr _ HB3.out
      have hst := con_take hql
      have hlen := Nat.le_trans (xwith_length (xcon (R.take q))) (con_take_len R q)
      have hzq := HZ.out q hlt
      rw [hxr] at hst hzq
      have HB4 := Lib.hid (hbt HB3.out (below_al wr (.cells #[.int .i64 k, .int .i64 f, .int .i64 t, .string s', .slice B P.length c] 53)))
      have HR4 := Lib.hid (HR3.out.below (below_al wr (.cells #[.int .i64 k, .int .i64 f, .int .i64 t, .string s', .slice B P.length c] 53)))
      have HM4 := Lib.hid (HM3.out.below (below_al wr (.cells #[.int .i64 k, .int .i64 f, .int .i64 t, .string s', .slice B P.length c] 53)))
      have HT4 := Lib.hid (HT3.out.below (below_al wr (.cells #[.int .i64 k, .int .i64 f, .int .i64 t, .string s', .slice B P.length c] 53)))
      have HG4 : Hid (RBox (wr.alloc (.cells #[.int .i64 k, .int .i64 f, .int .i64 t, .string s', .slice B P.length c] 53)) wr.heap.size k f t s' B P.length c) := heap_alloc_new _ _
      clear hxr hcr hql
      by_cases hk : k = 3
      · subst hk
        have HST : Hid (xwith (xcon (R.take (q + 1))) = withL t s' (xwith (xcon (R.take q)))) := by
          show _ = _; rw [hst, if_pos rfl, xwith_snoc, if_neg (hzq rfl)]
        have HC := Lib.hid (mwith_any mo A c0 _ t s' _ HT4.out (by omega))
        rw [HST.out.symm] at HC
        clear HST hst
        generalize hL1 : xwith (xcon (R.take (q + 1))) = L1 at *
        have HEQ := Lib.hid hL1
        clear hL1
        generalize xwith (xcon (R.take q)) = L0 at *
        generalize hl0 : L0.length = n0 at *
        generalize hl1 : L1.length = n1 at *
        have HL1 := Lib.hid hl1
        generalize P.length = n at *
        obtain ⟨r0, r1, r2, r3, r4⟩ := obj_cells5 HG4.out
        obtain ⟨d0, d1, _, _⟩ := obj_cells HM4.out
        clear hzq hl0 hl1
        go_wp2_with fail
        clear x0 x1 x2 x3 x4 r0 r1 r2 r3 r4 d0 d1
        generalize wr.alloc (.cells #[.int .i64 3, .int .i64 f, .int .i64 t, .string s', .slice B n c] 53) = W4 at *
        refine HC.out.mono ?_
        rintro e w5 ⟨A5, c5, rfl, ht5, hb5⟩
        have HB5 := Lib.hid (hbt HB4.out hb5)
        have HR5 := Lib.hid (HR4.out.below hb5)
        have HM5 := Lib.hid (HM4.out.below hb5)
        have HT5 := Lib.hid ht5
        clear ht5 hb5 HC HB4 HR4 HM4 HT4 HG4
        obtain ⟨d0, d1, f0, f1⟩ := obj_cells HM5.out
        go_wp2
        go_roundw
        case rel => exact ⟨q + 1, A5, c5, by omega, by go_num, below_set2 HB5.out (by omega) _ _, obj_set_other HR5.out (by omega) _ _, by rw [HEQ.out, HL1.out]; exact obj_set2 HM5.out _ _, by rw [HEQ.out]; exact vals_store2 HT5.out HM5.out _ _ _ _⟩
        case measure => simp [intOf]; omega
      · have tk : (k == 3) = false := by simpa using hk
        have HST : Hid (xwith (xcon (R.take (q + 1))) = xwith (xcon (R.take q))) := by show _ = _; rw [hst, if_neg hk, List.append_nil]
        generalize hl0 : (xwith (xcon (R.take q))).length = n0 at *
        have HL0 := Lib.hid hl0
        generalize P.length = n at *
        clear hst hzq hl0 hk
        obtain ⟨r0, r1, r2, r3, r4⟩ := obj_cells5 HG4.out
        go_wp2
        go_roundw
        case rel => exact ⟨q + 1, A, c0, by omega, by go_num, HB4.out, HR4.out, by rw [HST.out, HL0.out]; exact HM4.out, by rw [HST.out]; exact HT4.out⟩
        case measure => simp [intOf]; omega
    · have hall := con_all (R := R) (i := q) (by have := HLR.out; omega)
      rw [hall] at HM3 HT3
      obtain ⟨d0, d1, _, _⟩ := obj_cells HM3.out
      obtain ⟨r0, r1, f0, f1⟩ := obj_cells HR3.out
      generalize hl1 : (xwith (xcon R)).length = n1 at *
      have HL1 := Lib.hid hl1
      clear hl1 hall
      go_wp2
      refine bodyPost_ret (results_cell_row rfl _ _ w.heap.size _ _ _ _ rfl (obj_set2 HR3.out _ _) Tryd.underlying41 rfl (by kernel_rfl)) rfl ?_
      exact ⟨A, c0, by rw [HL1.out], vals_store2 HT3.out HR3.out _ _ _ _, below_set2 HB3.out (Nat.le_refl _) _ _⟩

end Go.Proofs.YtbhlennolghjmaaDoor
