/-
  What the document's Get answers where the first half says that there is a second one: for both styles, every text and place, in every world.
-/
import Derived.Test.YtdnckiaeeikbhaaBmpRefGet
namespace Go.Proofs.Ytdnckiaeeikbhaa
open Go.RowKit

set_option maxRecDepth 100000 in
set_option maxHeartbeats 3200000 in
theorem refGet_long_1 (s : ByteArray) (at_ : Nat) (L M : List Nat) (w : World) (hs : s.size ≤ 1000000) (ha : at_ ≤ s.size) (hr : PartL 1 s at_ 1 (1 :: L)) (hlen : L.length ≤ 63) (hr2 : PartL 1 s ((at_ : Int) + 16) 65 M) (hM : M ≠ []) (hlm : M.length ≤ 64) :
    Calls Try.prog 14 #[.int .i64 1, .string s, .int .i64 (at_ : Int)] w fun e w' => ∃ A cap, e = .returned (.tuple #[.slice A (L ++ M).length cap, .int .i64 ((at_ + 32 : Nat) : Int), .int .i64 0]) ∧ Ints w' A (zi (L ++ M)) ∧ Below w.heap.size w w' := by
  obtain ⟨i0, hi, hz0, hz1, hz2⟩ := info_parts Try.infoX64
  have HR := Lib.hid hr
  have HR2 := Lib.hid hr2
  unfold PartL at HR HR2
  have h2 : decide ((at_ : Int) < 0) = false := by simp
  have h3 : decide (s.size < at_) = false := by simp; omega
  have HE : Hid ((1 :: L).length = L.length + 1) := rfl
  have hm0 : 0 < M.length := List.length_pos_iff.2 hM
  have HLE : Hid ((L ++ M).length = L.length + M.length) := by show _ = _; simp
  have HVM : Hid (((zi M).map fun z => Value.int .i64 z).length = M.length * 1) := by show _ = _; simp [zi]
  have HVL : Hid (((zi L).map fun z => Value.int .i64 z).length = L.length * 1) := by show _ = _; simp [zi]
  have HCP : Hid (∀ (W : World) (base g n c : Nat), W.ownsRow base 3 1 (.slice (some ⟨g, 0, none⟩) n c) n ((zi (L ++ M)).map fun z => Value.int .i64 z) → n = L.length + M.length → Ints W (some ⟨g, 0, none⟩) (zi (L ++ M))) := fun W base g n c ho hn => ints_copy (zs := zi (L ++ M)) ho (by simp [zi]; omega)
  have HVA : Hid (((zi (L ++ M)).map fun z => Value.int .i64 z) = ((zi L).map fun z => Value.int .i64 z) ++ (zi M).map fun z => Value.int .i64 z) := by show _ = _; simp [zi]
  have HO1 : Hid (∀ u ∈ (zi M).map (fun z => Value.int .i64 z), u.oneCell' = true) := by show ∀ u ∈ (zi M).map (fun z => Value.int .i64 z), u.oneCell' = true; simp [Value.oneCell']
  have HO2 : Hid (∀ u ∈ (zi L).map (fun z => Value.int .i64 z), u.oneCell' = true) := by show ∀ u ∈ (zi L).map (fun z => Value.int .i64 z), u.oneCell' = true; simp [Value.oneCell']
  have HL0 : Hid (L.length = 0 → ((zi L).map fun z => Value.int .i64 z) = []) := fun e => by rw [List.eq_nil_of_length_eq_zero e]; rfl
  clear hr hr2 hM
  go_enter Try.func14, Try.ntmps14
  go_wp2_with fail
  refine (HR.out _).mono ?_
  rintro e w1 ⟨g, cap, rfl, hi1, hc1, hb1⟩
  have hf : w1.cell? ⟨g, 0, none⟩ = some (.int .i64 1) := ints_first hi1
  have HI1 := Lib.hid hi1
  have HB := Lib.hid hb1
  rw [HE.out] at *
  obtain ⟨X, Y, hcut, hX⟩ := cut_one g L.length cap hc1
  clear hi1 hc1 hb1
  have HX := Lib.hid hX; clear hX
  generalize hnl : L.length = n at *
  have HNL := Lib.hid hnl; clear hnl
  have hn0 : ((n : Int) + 1 == 0) = false := by simp; omega
  have HCUT := Lib.hid hcut; clear hcut
  go_wp2_with fail
  refine (HR2.out _).mono ?_
  rintro e w2 ⟨g2, cap2, rfl, hi2, hc2, hb2⟩
  have HI2 := Lib.hid hi2
  have HB2 := Lib.hid (hbt HB.out hb2)
  have HI3 := Lib.hid (ints_tail (HI1.out.below hb2))
  generalize hml : M.length = m at *
  have HML := Lib.hid hml; clear hml
  have hm1 : ((m : Int) == 0) = false := by simp; omega
  have hbz := HB2.out.size
  clear hb2 hf hc2 hi2
  have hcut := HCUT.out
  have HOW0 : Hid ((w2.alloc (.cells #[] 3)).ownsRow w2.heap.size 3 1 (.slice (some ⟨w2.heap.size, 0, none⟩) 0 0) 0 []) := World.ownsRow_lit w2 #[] 0 (Nat.le_refl _) (by unfold maxLen; omega) rfl
  by_cases hn : n = 0
  · subst hn
    have hv := HL0.out rfl
    have HM2 := Lib.hid (ints_news (HI2.out.below (below_al w2 (.cells #[] 3))))
    clear hn0
    cases X with
    | none =>
      go_wp2_with (at_builtin; refine wpList_append_lies _ rfl _ _ _ rfl w2.heap.size 3 i0 _ 1 8 Try.underlying31 hi hz0 hz1 hz2 rfl (by omega) (.slice (some ⟨w2.heap.size, 0, none⟩) 0 0) 0 [] rfl HOW0.out ⟨g2, 0, none⟩ m cap2 ((zi M).map fun z => Value.int .i64 z) rfl HVM.out HM2.out HO1.out hm0 (by unfold maxLen; omega) (by omega) (by simp) (w2.heap.size + 1) (by simp) ?_; intro g' cap' w3 hown3 hgrow hat hlt3)
      have hb3 : Below w.heap.size w w3 := (hbt HB2.out (below_al _ _)).grown hgrow (by simp; omega) (by intro q hq; simp [Value.ownBlock] at hq; omega)
      have HW3 := Lib.hid hown3
      have HV := Lib.hid hv
      clear hown3 hgrow hat hlt3 hv
      go_wp2
      go_ret3
      exact ⟨some ⟨g', 0, none⟩, cap', by rw [show (L ++ M).length = m by have := HNL.out; have := HML.out; simp; omega]; rfl, HCP.out _ _ _ _ cap' (by rw [HVA.out, HV.out]; exact HW3.out) (by omega), hb3⟩
    | some a =>
      go_wp2_with (at_builtin; refine wpList_append_lies _ rfl _ _ _ rfl w2.heap.size 3 i0 _ 1 8 Try.underlying31 hi hz0 hz1 hz2 rfl (by omega) (.slice (some ⟨w2.heap.size, 0, none⟩) 0 0) 0 [] rfl HOW0.out ⟨g2, 0, none⟩ m cap2 ((zi M).map fun z => Value.int .i64 z) rfl HVM.out HM2.out HO1.out hm0 (by unfold maxLen; omega) (by omega) (by simp) (w2.heap.size + 1) (by simp) ?_; intro g' cap' w3 hown3 hgrow hat hlt3)
      have hb3 : Below w.heap.size w w3 := (hbt HB2.out (below_al _ _)).grown hgrow (by simp; omega) (by intro q hq; simp [Value.ownBlock] at hq; omega)
      have HW3 := Lib.hid hown3
      have HV := Lib.hid hv
      clear hown3 hgrow hat hlt3 hv
      go_wp2
      go_ret3
      exact ⟨some ⟨g', 0, none⟩, cap', by rw [show (L ++ M).length = m by have := HNL.out; have := HML.out; simp; omega]; rfl, HCP.out _ _ _ _ cap' (by rw [HVA.out, HV.out]; exact HW3.out) (by omega), hb3⟩
  · have hn1 : 0 < n := by omega
    obtain rfl := HX.out hn1
    have HT2 := Lib.hid (ints_news (HI3.out.below (below_al w2 (.cells #[] 3))))
    go_wp2_with (first | (at_builtin; refine wpList_append_lies _ rfl _ _ _ rfl w2.heap.size 3 i0 _ 1 8 Try.underlying31 hi hz0 hz1 hz2 rfl (by omega) (.slice (some ⟨w2.heap.size, 0, none⟩) 0 0) 0 [] rfl HOW0.out ⟨g, 1, none⟩ n Y ((zi L).map fun z => Value.int .i64 z) rfl HVL.out HT2.out HO2.out hn1 (by unfold maxLen; omega) (by omega) (by simp) (w2.heap.size + 1) (by simp) ?_; intro g3 cap3 w3 hown3 hgrow3 hat3 hlt3; rw [Nat.zero_add] at hown3; have HW3 := Lib.hid hown3; have HB3 : Hid (Below w2.heap.size w2 w3) := (below_al _ _).grown hgrow3 (by simp) (by intro q hq; simp [Value.ownBlock] at hq; omega); have hw3 := HB3.out.size; have HM2 := Lib.hid (ints_news (HI2.out.below HB3.out)); clear hown3 hgrow3 hat3) | (at_builtin; refine wpList_append_lies _ rfl _ _ _ rfl w2.heap.size 3 i0 _ 1 8 Try.underlying31 hi hz0 hz1 hz2 rfl (by omega) (.slice (some ⟨g3, 0, none⟩) n cap3) n _ rfl HW3.out ⟨g2, 0, none⟩ m cap2 ((zi M).map fun z => Value.int .i64 z) rfl HVM.out HM2.out HO1.out hm0 (by unfold maxLen; omega) (by omega) (by omega) w3.heap.size rfl ?_; intro g4 cap4 w4 hown4 hgrow4 hat4 hlt4))
    have hb4 : Below w.heap.size w w4 := (hbt HB2.out HB3.out).grown hgrow4 (by omega) (by intro q hq; have := own_base HW3.out; simp [Value.ownBlock] at hq; omega)
    have HW4 := Lib.hid hown4
    clear hown4 hgrow4 hat4 hlt4 hlt3
    go_wp2
    go_ret3
    exact ⟨some ⟨g4, 0, none⟩, cap4, by rw [show (L ++ M).length = n + m by have := HNL.out; have := HML.out; simp; omega]; rfl, HCP.out _ _ _ _ cap4 (by rw [HVA.out]; exact HW4.out) (by omega), hb4⟩

set_option maxRecDepth 100000 in
set_option maxHeartbeats 3200000 in
theorem refGet_long_2 (s : ByteArray) (at_ : Nat) (L M : List Nat) (w : World) (hs : s.size ≤ 1000000) (ha : at_ ≤ s.size) (hr : PartL 2 s at_ 1 (1 :: L)) (hlen : L.length ≤ 63) (hr2 : PartL 2 s ((at_ : Int) + 8) 65 M) (hM : M ≠ []) (hlm : M.length ≤ 64) :
    Calls Try.prog 14 #[.int .i64 2, .string s, .int .i64 (at_ : Int)] w fun e w' => ∃ A cap, e = .returned (.tuple #[.slice A (L ++ M).length cap, .int .i64 ((at_ + 16 : Nat) : Int), .int .i64 0]) ∧ Ints w' A (zi (L ++ M)) ∧ Below w.heap.size w w' := by
  obtain ⟨i0, hi, hz0, hz1, hz2⟩ := info_parts Try.infoX64
  have HR := Lib.hid hr
  have HR2 := Lib.hid hr2
  unfold PartL at HR HR2
  have h2 : decide ((at_ : Int) < 0) = false := by simp
  have h3 : decide (s.size < at_) = false := by simp; omega
  have HE : Hid ((1 :: L).length = L.length + 1) := rfl
  have hm0 : 0 < M.length := List.length_pos_iff.2 hM
  have HLE : Hid ((L ++ M).length = L.length + M.length) := by show _ = _; simp
  have HVM : Hid (((zi M).map fun z => Value.int .i64 z).length = M.length * 1) := by show _ = _; simp [zi]
  have HVL : Hid (((zi L).map fun z => Value.int .i64 z).length = L.length * 1) := by show _ = _; simp [zi]
  have HCP : Hid (∀ (W : World) (base g n c : Nat), W.ownsRow base 3 1 (.slice (some ⟨g, 0, none⟩) n c) n ((zi (L ++ M)).map fun z => Value.int .i64 z) → n = L.length + M.length → Ints W (some ⟨g, 0, none⟩) (zi (L ++ M))) := fun W base g n c ho hn => ints_copy (zs := zi (L ++ M)) ho (by simp [zi]; omega)
  have HVA : Hid (((zi (L ++ M)).map fun z => Value.int .i64 z) = ((zi L).map fun z => Value.int .i64 z) ++ (zi M).map fun z => Value.int .i64 z) := by show _ = _; simp [zi]
  have HO1 : Hid (∀ u ∈ (zi M).map (fun z => Value.int .i64 z), u.oneCell' = true) := by show ∀ u ∈ (zi M).map (fun z => Value.int .i64 z), u.oneCell' = true; simp [Value.oneCell']
  have HO2 : Hid (∀ u ∈ (zi L).map (fun z => Value.int .i64 z), u.oneCell' = true) := by show ∀ u ∈ (zi L).map (fun z => Value.int .i64 z), u.oneCell' = true; simp [Value.oneCell']
  have HL0 : Hid (L.length = 0 → ((zi L).map fun z => Value.int .i64 z) = []) := fun e => by rw [List.eq_nil_of_length_eq_zero e]; rfl
  clear hr hr2 hM
  go_enter Try.func14, Try.ntmps14
  go_wp2_with fail
  refine (HR.out _).mono ?_
  rintro e w1 ⟨g, cap, rfl, hi1, hc1, hb1⟩
  have hf : w1.cell? ⟨g, 0, none⟩ = some (.int .i64 1) := ints_first hi1
  have HI1 := Lib.hid hi1
  have HB := Lib.hid hb1
  rw [HE.out] at *
  obtain ⟨X, Y, hcut, hX⟩ := cut_one g L.length cap hc1
  clear hi1 hc1 hb1
  have HX := Lib.hid hX; clear hX
  generalize hnl : L.length = n at *
  have HNL := Lib.hid hnl; clear hnl
  have hn0 : ((n : Int) + 1 == 0) = false := by simp; omega
  have HCUT := Lib.hid hcut; clear hcut
  go_wp2_with fail
  refine (HR2.out _).mono ?_
  rintro e w2 ⟨g2, cap2, rfl, hi2, hc2, hb2⟩
  have HI2 := Lib.hid hi2
  have HB2 := Lib.hid (hbt HB.out hb2)
  have HI3 := Lib.hid (ints_tail (HI1.out.below hb2))
  generalize hml : M.length = m at *
  have HML := Lib.hid hml; clear hml
  have hm1 : ((m : Int) == 0) = false := by simp; omega
  have hbz := HB2.out.size
  clear hb2 hf hc2 hi2
  have hcut := HCUT.out
  have HOW0 : Hid ((w2.alloc (.cells #[] 3)).ownsRow w2.heap.size 3 1 (.slice (some ⟨w2.heap.size, 0, none⟩) 0 0) 0 []) := World.ownsRow_lit w2 #[] 0 (Nat.le_refl _) (by unfold maxLen; omega) rfl
  by_cases hn : n = 0
  · subst hn
    have hv := HL0.out rfl
    have HM2 := Lib.hid (ints_news (HI2.out.below (below_al w2 (.cells #[] 3))))
    clear hn0
    cases X with
    | none =>
      go_wp2_with (at_builtin; refine wpList_append_lies _ rfl _ _ _ rfl w2.heap.size 3 i0 _ 1 8 Try.underlying31 hi hz0 hz1 hz2 rfl (by omega) (.slice (some ⟨w2.heap.size, 0, none⟩) 0 0) 0 [] rfl HOW0.out ⟨g2, 0, none⟩ m cap2 ((zi M).map fun z => Value.int .i64 z) rfl HVM.out HM2.out HO1.out hm0 (by unfold maxLen; omega) (by omega) (by simp) (w2.heap.size + 1) (by simp) ?_; intro g' cap' w3 hown3 hgrow hat hlt3)
      have hb3 : Below w.heap.size w w3 := (hbt HB2.out (below_al _ _)).grown hgrow (by simp; omega) (by intro q hq; simp [Value.ownBlock] at hq; omega)
      have HW3 := Lib.hid hown3
      have HV := Lib.hid hv
      clear hown3 hgrow hat hlt3 hv
      go_wp2
      go_ret3
      exact ⟨some ⟨g', 0, none⟩, cap', by rw [show (L ++ M).length = m by have := HNL.out; have := HML.out; simp; omega]; rfl, HCP.out _ _ _ _ cap' (by rw [HVA.out, HV.out]; exact HW3.out) (by omega), hb3⟩
    | some a =>
      go_wp2_with (at_builtin; refine wpList_append_lies _ rfl _ _ _ rfl w2.heap.size 3 i0 _ 1 8 Try.underlying31 hi hz0 hz1 hz2 rfl (by omega) (.slice (some ⟨w2.heap.size, 0, none⟩) 0 0) 0 [] rfl HOW0.out ⟨g2, 0, none⟩ m cap2 ((zi M).map fun z => Value.int .i64 z) rfl HVM.out HM2.out HO1.out hm0 (by unfold maxLen; omega) (by omega) (by simp) (w2.heap.size + 1) (by simp) ?_; intro g' cap' w3 hown3 hgrow hat hlt3)
      have hb3 : Below w.heap.size w w3 := (hbt HB2.out (below_al _ _)).grown hgrow (by simp; omega) (by intro q hq; simp [Value.ownBlock] at hq; omega)
      have HW3 := Lib.hid hown3
      have HV := Lib.hid hv
      clear hown3 hgrow hat hlt3 hv
      go_wp2
      go_ret3
      exact ⟨some ⟨g', 0, none⟩, cap', by rw [show (L ++ M).length = m by have := HNL.out; have := HML.out; simp; omega]; rfl, HCP.out _ _ _ _ cap' (by rw [HVA.out, HV.out]; exact HW3.out) (by omega), hb3⟩
  · have hn1 : 0 < n := by omega
    obtain rfl := HX.out hn1
    have HT2 := Lib.hid (ints_news (HI3.out.below (below_al w2 (.cells #[] 3))))
    go_wp2_with (first | (at_builtin; refine wpList_append_lies _ rfl _ _ _ rfl w2.heap.size 3 i0 _ 1 8 Try.underlying31 hi hz0 hz1 hz2 rfl (by omega) (.slice (some ⟨w2.heap.size, 0, none⟩) 0 0) 0 [] rfl HOW0.out ⟨g, 1, none⟩ n Y ((zi L).map fun z => Value.int .i64 z) rfl HVL.out HT2.out HO2.out hn1 (by unfold maxLen; omega) (by omega) (by simp) (w2.heap.size + 1) (by simp) ?_; intro g3 cap3 w3 hown3 hgrow3 hat3 hlt3; rw [Nat.zero_add] at hown3; have HW3 := Lib.hid hown3; have HB3 : Hid (Below w2.heap.size w2 w3) := (below_al _ _).grown hgrow3 (by simp) (by intro q hq; simp [Value.ownBlock] at hq; omega); have hw3 := HB3.out.size; have HM2 := Lib.hid (ints_news (HI2.out.below HB3.out)); clear hown3 hgrow3 hat3) | (at_builtin; refine wpList_append_lies _ rfl _ _ _ rfl w2.heap.size 3 i0 _ 1 8 Try.underlying31 hi hz0 hz1 hz2 rfl (by omega) (.slice (some ⟨g3, 0, none⟩) n cap3) n _ rfl HW3.out ⟨g2, 0, none⟩ m cap2 ((zi M).map fun z => Value.int .i64 z) rfl HVM.out HM2.out HO1.out hm0 (by unfold maxLen; omega) (by omega) (by omega) w3.heap.size rfl ?_; intro g4 cap4 w4 hown4 hgrow4 hat4 hlt4))
    have hb4 : Below w.heap.size w w4 := (hbt HB2.out HB3.out).grown hgrow4 (by omega) (by intro q hq; have := own_base HW3.out; simp [Value.ownBlock] at hq; omega)
    have HW4 := Lib.hid hown4
    clear hown4 hgrow4 hat4 hlt4 hlt3
    go_wp2
    go_ret3
    exact ⟨some ⟨g4, 0, none⟩, cap4, by rw [show (L ++ M).length = n + m by have := HNL.out; have := HML.out; simp; omega]; rfl, HCP.out _ _ _ _ cap4 (by rw [HVA.out]; exact HW4.out) (by omega), hb4⟩

end Go.Proofs.Ytdnckiaeeikbhaa
