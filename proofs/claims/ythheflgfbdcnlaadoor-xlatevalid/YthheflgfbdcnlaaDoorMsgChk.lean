/-
  What checkField and Check answer: for every schema and message of up to 1000 specs and fields, in every world that holds the table of kinds.
-/
import Derived.Test.YthheflgfbdcnlaaDoorMsgOf
import Derived.Test.YthheflgfbdcnlaaDoorPackMti
import Derived.Test.YthheflgfbdcnlaaDoorPackSch
import Derived.Test.YthheflgfbdcnlaaDoorPackSpc
namespace Go.Proofs.YthheflgfbdcnlaaDoor
open Go.RowKit

set_option maxRecDepth 100000 in
set_option maxHeartbeats 3200000 in
theorem mfield_any (st v : Int) (A : Option Addr) (cap : Nat) (sl : List Sp) (n : Int) (s : ByteArray) (last : Int) (w : World) (hK : Kinds w) (hI : Spl w A sl) (hn : sl.length ≤ 1000) (hs : s.size ≤ maxLen) :
    Calls Tryd.prog 21 #[.agg #[.int .i64 st, .int .i64 v, .slice A sl.length cap], .agg #[.int .i64 n, .string s], .int .i64 last] w fun e w' => e = .returned (.int .i64 (fldE sl last (n, s))) ∧ Below w.heap.size w w' := by
  have HB0 := Lib.hid (hbt (below_al w (.cells #[.int .i64 st, .int .i64 v, .slice A sl.length cap] 28)) (below_al _ (.cells #[.int .i64 n, .string s] 45)))
  have HV0 : Hid (((w.alloc (.cells #[.int .i64 st, .int .i64 v, .slice A sl.length cap] 28)).alloc (.cells #[.int .i64 n, .string s] 45)).heap[w.heap.size + 1]? = some (.cells #[.int .i64 n, .string s] 45)) := heap_al _ _ _ (by simp)
  have HF := Lib.hid (fun W hW => sfind_any st v A cap sl n W hW hn)
  have HI := Lib.hid (hI.below HB0.out)
  have HK := Lib.hid (hK.below HB0.out)
  clear hI hK
  by_cases ho : n ≤ last
  · have tord : decide (n ≤ last) = true := by simpa using ho
    have HE := Lib.hid (fldE_order (sl := sl) (last := last) (x := (n, s)) ho)
    generalize sl.length = len at *
    clear ho hs
    go_enter Tryd.func21, Tryd.ntmps21
    go_wp2
    go_ret
    exact ⟨by rw [HE.out]; rfl, HB0.out⟩
  · have tord : decide (n ≤ last) = false := by simpa using ho
    have HN := Lib.hid (fldE_none (sl := sl) (last := last) (x := (n, s)) ho)
    have HV := Lib.hid (fldE_val (sl := sl) (last := last) (x := (n, s)) ho)
    clear ho
    dsimp only at HN HV
    generalize fndP n sl = R at *
    obtain ⟨⟨n', c, f, lo, hi⟩, ok⟩ := R
    dsimp only at HN HV
    have HF1 : Hid (∀ W, Spl W A sl → Calls Tryd.prog 32 #[.agg #[.int .i64 st, .int .i64 v, .slice A sl.length cap], .int .i64 n] W fun e w' => e = .returned (.tuple #[.agg #[.int .i64 n', .int .i64 c, .int .i64 f, .int .i64 lo, .int .i64 hi], .bool ok]) ∧ Below W.heap.size W w') := HF.out
    have HW := Lib.hid (fun W hW => spvalue_any n' c f lo hi s W hW hs)
    clear HF hs
    generalize sl.length = len at *
    cases ok
    · have HE := Lib.hid (HN.out rfl)
      clear HN HV HW
      go_enter Tryd.func21, Tryd.ntmps21
      go_wp2_with fail
      generalize (w.alloc (.cells #[.int .i64 st, .int .i64 v, .slice A len cap] 28)).alloc (.cells #[.int .i64 n, .string s] 45) = U at *
      refine (HF1.out _ HI.out).mono ?_
      rintro e w1 ⟨rfl, hb1⟩
      have HB1 := Lib.hid (hbt HB0.out hb1)
      clear hb1
      go_wp2
      go_ret
      exact ⟨by rw [HE.out]; rfl, hbt HB1.out (below_al _ _)⟩
    · have HE := Lib.hid (HV.out rfl)
      clear HN HV
      unfold spvS at HE
      dsimp only at HE
      generalize spv n' c f lo hi s = z at *
      go_enter Tryd.func21, Tryd.ntmps21
      go_wp2_with fail
      generalize (w.alloc (.cells #[.int .i64 st, .int .i64 v, .slice A len cap] 28)).alloc (.cells #[.int .i64 n, .string s] 45) = U at *
      refine (HF1.out _ HI.out).mono ?_
      rintro e w1 ⟨rfl, hb1⟩
      have HB1 := Lib.hid (hbt HB0.out hb1)
      have HK1 := Lib.hid ((HK.out.below hb1).below (below_al w1 (.cells #[.int .i64 n', .int .i64 c, .int .i64 f, .int .i64 lo, .int .i64 hi] 70)))
      obtain ⟨b0, b1, _, _⟩ := obj_cells (obj_below HV0.out hb1)
      have hz1 := obj_lt (obj_below HV0.out hb1)
      clear hb1
      go_wp2_with fail
      refine (HW.out _ HK1.out).mono ?_
      rintro e w2 ⟨rfl, hb2⟩
      have HB2 := Lib.hid (hbt (hbt HB1.out (below_al _ _)) hb2)
      clear hb2 b0 b1
      go_wp2
      go_ret
      exact ⟨by rw [HE.out]; rfl, HB2.out⟩

/-- What Version answers, and whether that is the version asked for. -/
theorem mver_told (m : ByteArray) (v : Int) : ∃ (z : Int) (ok : Bool), (∀ W, Calls Tryd.prog 20 #[.string m] W fun e w' => e = .returned (.tuple #[.int .i64 z, .bool ok]) ∧ Below W.heap.size W w') ∧ mtiV m v = (ok && decide (z = v)) := by
  cases h : mtiB m.data.toList
  · exact ⟨0, false, fun W => mver_no m W h, by rw [mtiV_none h]; rfl⟩
  · obtain ⟨a, b, c, d, rfl, ha, hb, hc, hd⟩ := mti_of h
    refine ⟨_, true, fun W => mver_yes a b c d W ha hb hc hd, ?_⟩
    rw [mtiV_T4 h, Bool.true_and]
    have g := (isD_iff a).1 ha
    congr 1
    rw [eq_iff_iff]
    omega

/-- A schema, a message and room for a fault, in the first three blocks that the call makes. -/
def Trio (w : World) (st v : Int) (A : Option Addr) (len cap : Nat) (m : ByteArray) (B : Option Addr) (n c : Nat) (u : World) : Prop :=
  Below w.heap.size w u ∧ Box u w.heap.size st v A len cap ∧ MBox u (w.heap.size + 1) m B n c ∧ u.heap[w.heap.size + 2]? = some (.cells #[.int .i64 0, .int .i64 0] 38)
theorem Trio.below {w : World} {st v : Int} {A : Option Addr} {len cap : Nat} {m : ByteArray} {B : Option Addr} {n c : Nat} {u u' : World} (h : Trio w st v A len cap m B n c u) (hb : Below u.heap.size u u') : Trio w st v A len cap m B n c u' :=
  ⟨hbt h.1 hb, h.2.1.below hb, h.2.2.1.below hb, obj_below h.2.2.2 hb⟩
theorem trio_new (w : World) (st v : Int) (A : Option Addr) (len cap : Nat) (m : ByteArray) (B : Option Addr) (n c : Nat) : Trio w st v A len cap m B n c (((w.alloc (.cells #[.int .i64 st, .int .i64 v, .slice A len cap] 28)).alloc (.cells #[.string m, .slice B n c] 32)).alloc (.cells #[.int .i64 0, .int .i64 0] 38)) :=
  ⟨hbt (hbt (below_al _ _) (below_al _ _)) (below_al _ _), ((box_new _ _ _ _ _ _).below (below_al _ _)).below (below_al _ _), obj_below (heap_al _ _ _ (by simp)) (below_al _ _), heap_al _ _ _ (by simp)⟩

set_option maxRecDepth 100000 in
set_option maxHeartbeats 3200000 in
theorem mchk_arg (st v : Int) (A : Option Addr) (ca : Nat) (sl : List Sp) (m : ByteArray) (B : Option Addr) (n cb : Nat) (w : World) (hI : Spl w A sl) (hn : sl.length ≤ 1000) (h : (schN st v sl).1 ≠ 0) :
    Calls Tryd.prog 10 #[.agg #[.int .i64 st, .int .i64 v, .slice A sl.length ca], .agg #[.string m, .slice B n cb]] w fun e w' => e = .returned (.agg #[.int .i64 1, .int .i64 (-1)]) ∧ Below w.heap.size w w' := by
  have HC := Lib.hid (fun W hW => schk_any st v A ca sl W hW hn)
  have HT := Lib.hid (trio_new w st v A sl.length ca m B n cb)
  have HI := Lib.hid (hI.below HT.out.1)
  clear hI
  generalize (schN st v sl).1 = z at *
  generalize (schN st v sl).2 = z' at *
  have tz : (z != 0) = true := by simpa using h
  generalize sl.length = len at *
  clear h
  go_enter Tryd.func10, Tryd.ntmps10
  go_wp2_with fail
  generalize ((w.alloc (.cells #[.int .i64 st, .int .i64 v, .slice A len ca] 28)).alloc (.cells #[.string m, .slice B n cb] 32)).alloc (.cells #[.int .i64 0, .int .i64 0] 38) = U at *
  refine (HC.out _ HI.out).mono ?_
  rintro e w1 ⟨rfl, hb1⟩
  have HT1 := Lib.hid (HT.out.below hb1)
  obtain ⟨r0, r1, f0, f1⟩ := obj_cells HT1.out.2.2.2
  clear hb1
  go_wp2
  refine bodyPost_ret (results_cell_row rfl _ _ (w.heap.size + 2) _ _ _ _ rfl (obj_set2 HT1.out.2.2.2 _ _) Tryd.underlying38 rfl (by kernel_rfl)) rfl ?_
  exact ⟨rfl, below_set2 HT1.out.1 (by omega) _ _⟩
set_option maxRecDepth 100000 in
set_option maxHeartbeats 3200000 in
theorem mchk_mti (st v : Int) (A : Option Addr) (ca : Nat) (sl : List Sp) (m : ByteArray) (B : Option Addr) (n cb : Nat) (w : World) (hI : Spl w A sl) (hn : sl.length ≤ 1000) (h : (schN st v sl).1 = 0) (h2 : mtiV m v = false) :
    Calls Tryd.prog 10 #[.agg #[.int .i64 st, .int .i64 v, .slice A sl.length ca], .agg #[.string m, .slice B n cb]] w fun e w' => e = .returned (.agg #[.int .i64 7, .int .i64 0]) ∧ Below w.heap.size w w' := by
  have HC := Lib.hid (fun W hW => schk_any st v A ca sl W hW hn)
  have HT := Lib.hid (trio_new w st v A sl.length ca m B n cb)
  have HI := Lib.hid (hI.below HT.out.1)
  obtain ⟨z, ok, hv, ht⟩ := mver_told m v
  have HV := Lib.hid hv
  rw [ht] at h2
  clear hI hv ht
  rw [h] at HC
  clear h
  generalize (schN st v sl).2 = z' at *
  generalize sl.length = len at *
  have htz : ok = true → (z != v) = true := fun e => by subst e; simpa using h2
  clear h2
  cases ok
  all_goals
    try (have tz := htz rfl)
    clear htz
    go_enter Tryd.func10, Tryd.ntmps10
    go_wp2_with fail
    generalize ((w.alloc (.cells #[.int .i64 st, .int .i64 v, .slice A len ca] 28)).alloc (.cells #[.string m, .slice B n cb] 32)).alloc (.cells #[.int .i64 0, .int .i64 0] 38) = U at *
    refine (HC.out _ HI.out).mono ?_
    rintro e w1 ⟨rfl, hb1⟩
    have HT1 := Lib.hid (HT.out.below hb1)
    obtain ⟨b0, b1, _, _⟩ := obj_cells HT1.out.2.2.1
    clear hb1
    go_wp2_with fail
    refine (HV.out _).mono ?_
    rintro e w2 ⟨rfl, hb2⟩
    have HT2 := Lib.hid (HT1.out.below hb2)
    obtain ⟨s0, s1, s2⟩ := obj_cells3 HT2.out.2.1
    obtain ⟨r0, r1, f0, f1⟩ := obj_cells HT2.out.2.2.2
    clear hb2 b0 b1
    go_wp2
    refine bodyPost_ret (results_cell_row rfl _ _ (w.heap.size + 2) _ _ _ _ rfl (obj_set2 HT2.out.2.2.2 _ _) Tryd.underlying38 rfl (by kernel_rfl)) rfl ?_
    exact ⟨rfl, below_set2 HT2.out.1 (by omega) _ _⟩
set_option maxRecDepth 100000 in
set_option maxHeartbeats 6400000 in
theorem mchk_list (st v : Int) (A : Option Addr) (ca : Nat) (sl : List Sp) (m : ByteArray) (B : Option Addr) (cb : Nat) (l : List Item) (w : World) (hK : Kinds w) (hI : Spl w A sl) (hB : Tlvs w B l) (hn : sl.length ≤ 1000) (hl : l.length ≤ 1000) (hs : ∀ x ∈ l, x.2.size ≤ maxLen) (h : (schN st v sl).1 = 0) (h2 : mtiV m v = true) :
    Calls Tryd.prog 10 #[.agg #[.int .i64 st, .int .i64 v, .slice A sl.length ca], .agg #[.string m, .slice B l.length cb]] w fun e w' => e = .returned (.agg #[.int .i64 (msgL sl 0 l).1, .int .i64 (msgL sl 0 l).2]) ∧ Below w.heap.size w w' := by
  have HC := Lib.hid (fun W hW => schk_any st v A ca sl W hW hn)
  have HF : Hid (∀ (k : Nat) (n : Int) (s : ByteArray) (last : Int) W, k < l.length → itemAt l k = (n, s) → Kinds W → Spl W A sl → Calls Tryd.prog 21 #[.agg #[.int .i64 st, .int .i64 v, .slice A sl.length ca], .agg #[.int .i64 n, .string s], .int .i64 last] W fun e w' => e = .returned (.int .i64 (fldE sl last (n, s))) ∧ Below W.heap.size W w') := fun k n s last W hk hx h1 h2 => mfield_any st v A ca sl n s last W h1 h2 hn (by
    have h3 := hs _ (List.getElem_mem hk)
    rw [← itemAt_get hk, hx] at h3
    exact h3)
  have HT := Lib.hid (trio_new w st v A sl.length ca m B l.length cb)
  have HI := Lib.hid (hI.below HT.out.1)
  have HL := Lib.hid (hB.below HT.out.1)
  have HKD := Lib.hid (hK.below HT.out.1)
  obtain ⟨z, ok, hv, ht⟩ := mver_told m v
  have HV := Lib.hid hv
  rw [ht] at h2
  clear hI hv ht hB hK hs
  rw [h] at HC
  clear h
  generalize (schN st v sl).2 = z' at *
  generalize sl.length = len at *
  generalize hlen : l.length = ln at *
  have HLEN := Lib.hid hlen
  clear hlen
  simp only [Bool.and_eq_true, decide_eq_true_eq] at h2
  obtain ⟨rfl, rfl⟩ := h2
  generalize hR : msgL sl 0 l = R
  have HR0 := Lib.hid hR
  clear hR
  go_enter Tryd.func10, Tryd.ntmps10
  go_wp2_with fail
  generalize ((w.alloc (.cells #[.int .i64 st, .int .i64 z, .slice A len ca] 28)).alloc (.cells #[.string m, .slice B ln cb] 32)).alloc (.cells #[.int .i64 0, .int .i64 0] 38) = U at *
  refine (HC.out _ HI.out).mono ?_
  rintro e w1 ⟨rfl, hb1⟩
  have HT1 := Lib.hid (HT.out.below hb1)
  have HI1 := Lib.hid (HI.out.below hb1)
  have HL1 := Lib.hid (HL.out.below hb1)
  have HK1 := Lib.hid (HKD.out.below hb1)
  obtain ⟨b0, b1, _, _⟩ := obj_cells HT1.out.2.2.1
  clear hb1 HT HI HL HKD
  go_wp2_with fail
  refine (HV.out _).mono ?_
  rintro e w2 ⟨rfl, hb2⟩
  have HT2 := Lib.hid (HT1.out.below hb2)
  have HI2 := Lib.hid (HI1.out.below hb2)
  have HL2 := Lib.hid (HL1.out.below hb2)
  have HK2 := Lib.hid (HK1.out.below hb2)
  obtain ⟨s0, s1, s2⟩ := obj_cells3 HT2.out.2.1
  obtain ⟨b0, b1, _, _⟩ := obj_cells HT2.out.2.2.1
  clear hb2 HT1 HI1 HL1 HK1
  go_wp2_with fail
  clear s0 s1 s2 b0 b1
  go_loopw [9, 39] (fun y i wr => ∃ (k : Nat) (last : Int), k ≤ ln ∧ i = .int .i64 (k : Int) ∧ y = .int .i64 last ∧ msgL sl last (l.drop k) = R ∧ Below w2.heap.size w2 wr) (fun _ i _ => ln - (intOf i).toNat)
  case atStart => exact ⟨0, 0, Nat.zero_le _, rfl, rfl, HR0.out, Below.refl _ _⟩
  case round =>
    obtain ⟨k, last, hk, rfl, rfl, hrest, hb⟩ := hrel
    have HR := Lib.hid hrest
    have HB := Lib.hid hb
    clear hrest hb
    by_cases hlt : k < ln
    · have hkl : k < l.length := by have := HLEN.out; omega
      obtain ⟨a, n, s, rfl, hx, c0, c1⟩ := (HL2.out.below HB.out).at_ hkl
      have HD := Lib.hid (drop_item hkl)
      rw [hx] at HD
      have HFK := Lib.hid (fun W h1 h2 => HF.out k n s last W (by omega) hx h1 h2)
      have HB1 := Lib.hid (hbt HB.out (below_al wr (.cells #[.int .i64 n, .string s] 45)))
      have HV1 := Lib.hid (heap_alloc_new wr (.cells #[.int .i64 n, .string s] 45))
      obtain ⟨s0, s1, s2⟩ := obj_cells3 (HT2.out.below HB.out).2.1
      have hz := obj_lt (HT2.out.below HB.out).2.1
      have HEB := Lib.hid (fun h => msgL_bad (sl := sl) (last := last) (x := (n, s)) (r := l.drop (k + 1)) h)
      have HEO := Lib.hid (fun h => msgL_ok (sl := sl) (last := last) (x := (n, s)) (r := l.drop (k + 1)) h)
      dsimp only at HEB HEO
      clear hx hkl
      generalize fldE sl last (n, s) = z2 at *
      by_cases hz2 : z2 = 0
      · subst hz2
        have HE := Lib.hid (HEO.out rfl)
        clear HEB HEO
        go_wp2_with fail
        generalize wr.alloc (.cells #[.int .i64 n, .string s] 45) = W1 at *
        refine (HFK.out _ (HK2.out.below HB1.out) (HI2.out.below HB1.out)).mono ?_
        rintro e w3 ⟨rfl, hb3⟩
        have HB3 := Lib.hid (hbt HB1.out hb3)
        obtain ⟨v0, v1, _, _⟩ := obj_cells (obj_below HV1.out hb3)
        clear hb3 c0 c1 s0 s1 s2
        go_wp2
        go_roundw
        case rel => exact ⟨k + 1, n, by omega, by go_num, rfl, by rw [← HR.out, HD.out, HE.out], HB3.out⟩
        case measure => simp [intOf]; omega
      · have tz : (z2 != 0) = true := by simpa using hz2
        have HE := Lib.hid (HEB.out hz2)
        clear HEB HEO hz2
        go_wp2_with fail
        generalize wr.alloc (.cells #[.int .i64 n, .string s] 45) = W1 at *
        refine (HFK.out _ (HK2.out.below HB1.out) (HI2.out.below HB1.out)).mono ?_
        rintro e w3 ⟨rfl, hb3⟩
        have HT3 := Lib.hid (HT2.out.below (hbt HB1.out hb3))
        obtain ⟨v0, v1, _, _⟩ := obj_cells (obj_below HV1.out hb3)
        obtain ⟨r0, r1, f0, f1⟩ := obj_cells HT3.out.2.2.2
        clear hb3 c0 c1 s0 s1 s2
        go_wp2
        refine bodyPost_ret (results_cell_row rfl _ _ (w.heap.size + 2) _ _ _ _ rfl (obj_set2 HT3.out.2.2.2 _ _) Tryd.underlying38 rfl (by kernel_rfl)) rfl ?_
        exact ⟨by rw [← HR.out, HD.out, HE.out], below_set2 HT3.out.1 (by omega) _ _⟩
    · have HE := Lib.hid (items_end (l := l) (k := k) (by have := HLEN.out; omega))
      have HT3 := Lib.hid (HT2.out.below HB.out)
      obtain ⟨r0, r1, f0, f1⟩ := obj_cells HT3.out.2.2.2
      go_wp2
      refine bodyPost_ret (results_cell_row rfl _ _ (w.heap.size + 2) _ _ _ _ rfl (obj_set2 HT3.out.2.2.2 _ _) Tryd.underlying38 rfl (by kernel_rfl)) rfl ?_
      exact ⟨by rw [← HR.out, HE.out]; rfl, below_set2 HT3.out.1 (by omega) _ _⟩
theorem mcheck_any (st v : Int) (A : Option Addr) (ca : Nat) (sl : List Sp) (m : ByteArray) (B : Option Addr) (cb : Nat) (l : List Item) (w : World) (hK : Kinds w) (hI : Spl w A sl) (hB : Tlvs w B l) (hn : sl.length ≤ 1000) (hl : l.length ≤ 1000) (hs : ∀ x ∈ l, x.2.size ≤ maxLen) :
    Calls Tryd.prog 10 #[.agg #[.int .i64 st, .int .i64 v, .slice A sl.length ca], .agg #[.string m, .slice B l.length cb]] w fun e w' => e = .returned (.agg #[.int .i64 (msgN st v sl m l).1, .int .i64 (msgN st v sl m l).2]) ∧ Below w.heap.size w w' := by
  by_cases h : (schN st v sl).1 = 0
  · cases h2 : mtiV m v
    · rw [msgN_mti h h2]; exact mchk_mti st v A ca sl m B _ cb w hI hn h h2
    · rw [msgN_list h h2]; exact mchk_list st v A ca sl m B cb l w hK hI hB hn hl hs h h2
  · rw [msgN_arg h]; exact mchk_arg st v A ca sl m B _ cb w hI hn h

end Go.Proofs.YthheflgfbdcnlaaDoor
