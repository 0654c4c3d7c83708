/-
  What the program's Turn answers: for every map of up to 5000 rules, each of up to 5,000,000 pairs, in every world.
-/
import Derived.Test.YtbhlennolghjmaaDoorXltCopy
import Derived.Test.YtbhlennolghjmaaDoorInvKeep
import Derived.Test.YtbhlennolghjmaaDoorPackBase
import Derived.OwnWalk
namespace Go.Proofs.YtbhlennolghjmaaDoor
open Go.RowKit

set_option maxRecDepth 100000 in
set_option maxHeartbeats 6400000 in
theorem iturn_rule (k f t : Int) (s : ByteArray) (B : Option Addr) (cP : Nat) (P : List PairT) (w : World) (hP : Prs w B P) (hn : P.length ≤ 5000000) :
    Calls Tryd.prog 37 #[.agg #[.int .i64 k, .int .i64 f, .int .i64 t, .string s, .slice B P.length cP]] w fun e w' => ∃ B' c', e = .returned (.agg #[.int .i64 k, .int .i64 t, .int .i64 f, .string s, .slice B' P.length c']) ∧ Prs w' B' (turnL P) ∧ (∀ a, B' = some a → w.heap.size ≤ a.block ∧ a.block < w'.heap.size) ∧ Below w.heap.size w w' := by
  have HC : Hid (∀ W, Prs W B P → Calls Tryd.prog 38 #[.slice B P.length cP] W fun e w' => ∃ x, e = .returned x ∧ ∃ A' c', x = .slice A' P.length c' ∧ w'.ownsRow W.heap.size _ 2 (.slice A' P.length c') P.length (duosC (turnL P)) ∧ Below W.heap.size W w') := fun W h => (cturn_own B cP P W h hn).mono fun _ _ ⟨A', c', he, k1, k2⟩ => ⟨_, he, A', c', rfl, k1, k2⟩
  have HPR := Lib.hid (fun (W : World) (base : Nat) (A : Option Addr) (c : Nat) (h : W.ownsRow base _ 2 (.slice A P.length c) P.length (duosC (turnL P))) => prs_row h (turn_len P).symm)
  generalize P.length = n at *
  have HBW := Lib.hid (hbt (below_al w (.cells #[.int .i64 k, .int .i64 f, .int .i64 t, .string s, .slice B n cP] 53)) (below_al _ (.cells #[.int .i64 0, .int .i64 0, .int .i64 0, .string ⟨#[]⟩, .slice none 0 0] 53)))
  have HX : Hid (RBox ((w.alloc (.cells #[.int .i64 k, .int .i64 f, .int .i64 t, .string s, .slice B n cP] 53)).alloc (.cells #[.int .i64 0, .int .i64 0, .int .i64 0, .string ⟨#[]⟩, .slice none 0 0] 53)) w.heap.size k f t s B n cP) := obj_below (heap_alloc_new _ _) (below_al _ _)
  have HY : Hid (RBox ((w.alloc (.cells #[.int .i64 k, .int .i64 f, .int .i64 t, .string s, .slice B n cP] 53)).alloc (.cells #[.int .i64 0, .int .i64 0, .int .i64 0, .string ⟨#[]⟩, .slice none 0 0] 53)) (w.heap.size + 1) 0 0 0 ⟨#[]⟩ none 0 0) := heap_al _ _ _ (by simp)
  have HZ : Hid (w.heap.size + 2 = ((w.alloc (.cells #[.int .i64 k, .int .i64 f, .int .i64 t, .string s, .slice B n cP] 53)).alloc (.cells #[.int .i64 0, .int .i64 0, .int .i64 0, .string ⟨#[]⟩, .slice none 0 0] 53)).heap.size) := by show _ = _; simp
  have HP := Lib.hid (hP.below HBW.out)
  clear hP hn
  go_enter Tryd.func37, Tryd.ntmps37
  go_wp2_with fail
  generalize (w.alloc (.cells #[.int .i64 k, .int .i64 f, .int .i64 t, .string s, .slice B n cP] 53)).alloc (.cells #[.int .i64 0, .int .i64 0, .int .i64 0, .string ⟨#[]⟩, .slice none 0 0] 53) = U at *
  refine wp_region_noPanic ?_
  refine wp_region_held_drew (S := (fun u => Below w.heap.size w u ∧ RBox u w.heap.size k f t s B n cP)) (by kernel_rfl) ((show Below w.heap.size w U.drew ∧ RBox U.drew w.heap.size k f t s B n cP from ⟨HBW.out.drew, HX.out⟩)) (fun hS => ?_)
  refine gv 0 (v := ?_) (fun u hu => ?_) hS ?_
  rotate_left
  · ((obtain ⟨x0, x1, x2, x3, x4⟩ := obj_cells5 hu.2); go_simp; try (with_reducible rfl))
  try simp only [puts]
  refine gv 1 (v := ?_) (fun u hu => ?_) hS ?_
  rotate_left
  · ((obtain ⟨x0, x1, x2, x3, x4⟩ := obj_cells5 hu.2); go_simp; try (with_reducible rfl))
  try simp only [puts]
  refine gv 2 (v := ?_) (fun u hu => ?_) hS ?_
  rotate_left
  · ((obtain ⟨x0, x1, x2, x3, x4⟩ := obj_cells5 hu.2); go_simp; try (with_reducible rfl))
  try simp only [puts]
  refine gv 3 (v := ?_) (fun u hu => ?_) hS ?_
  rotate_left
  · ((obtain ⟨x0, x1, x2, x3, x4⟩ := obj_cells5 hu.2); go_simp; try (with_reducible rfl))
  try simp only [puts]
  refine gv 4 (v := ?_) (fun u hu => ?_) hS ?_
  rotate_left
  · ((obtain ⟨x0, x1, x2, x3, x4⟩ := obj_cells5 hu.2); go_simp; try (with_reducible rfl))
  try simp only [puts]
  refine gv 5 (v := ?_) (fun u hu => ?_) hS ?_
  rotate_left
  · ((obtain ⟨x0, x1, x2, x3, x4⟩ := obj_cells5 hu.2); go_simp; try (with_reducible rfl))
  try simp only [puts]
  refine gv 6 (v := ?_) (fun u hu => ?_) hS ?_
  rotate_left
  · ((obtain ⟨x0, x1, x2, x3, x4⟩ := obj_cells5 hu.2); go_simp; try (with_reducible rfl))
  try simp only [puts]
  refine gv 7 (v := ?_) (fun u hu => ?_) hS ?_
  rotate_left
  · ((obtain ⟨x0, x1, x2, x3, x4⟩ := obj_cells5 hu.2); go_simp; try (with_reducible rfl))
  try simp only [puts]
  refine gv 8 (v := ?_) (fun u hu => ?_) hS ?_
  rotate_left
  · ((obtain ⟨x0, x1, x2, x3, x4⟩ := obj_cells5 hu.2); go_simp; try (with_reducible rfl))
  try simp only [puts]
  refine gv 9 (v := ?_) (fun u hu => ?_) hS ?_
  rotate_left
  · ((obtain ⟨x0, x1, x2, x3, x4⟩ := obj_cells5 hu.2); go_simp; try (with_reducible rfl))
  try simp only [puts]
  refine only_some (i := 10) 38 #[.slice B n cP] rfl (by kernel_rfl) (by rfl) ((HC.out _ (HP.out))) ?_ ?_
  · (go_simp; try (with_reducible rfl))
  intro v10 w10 hT
  obtain ⟨B', c', rfl, hown, hb⟩ := hT
  have hS' := (show Below w.heap.size w _ ∧ RBox _ w.heap.size k f t s B n cP from ⟨hbt hS.1 hb, hS.2.below hb⟩)
  refine ⟨hS', ?_⟩
  clear hS
  have hS := hS'; clear hS'
  try simp only [puts]
  refine gv 11 (v := ?_) (fun u hu => ?_) hS ?_
  rotate_left
  · ((obtain ⟨x0, x1, x2, x3, x4⟩ := obj_cells5 hu.2); go_simp; try (with_reducible rfl))
  try simp only [puts]
  have HY1 := RBox.below (u := U.drew) HY.out hb
  have HO1 := sowns_set5 (p := w.heap.size + 1) hown (by have := HZ.out; show _ < U.heap.size; omega) (.int .i64 k) (.int .i64 t) (.int .i64 f) (.string s) (.slice B' n c')
  obtain ⟨y0, y1, y2, y3, y4⟩ := obj_cells5 HY1
  obtain ⟨z0, z1, z2, z3, z4⟩ := obj_warm5 HY1
  have hB1 := below_set5 hS.1 (by omega : w.heap.size ≤ w.heap.size + 1) (.int .i64 k) (.int .i64 t) (.int .i64 f) (.string s) (.slice B' n c')
  have hY2 := obj_set5 HY1 (.int .i64 k) (.int .i64 t) (.int .i64 f) (.string s) (.slice B' n c')
  refine only (i := 12) rfl (by kernel_rfl) (by rfl) (fun K hK => ?_)
  go_simp
  refine hK.out _ _ ⟨hB1, obj_set5_other hS.2 (by omega) _ _ _ _ _⟩ ?_
  clear hK
  try simp only [puts]
  refine wpAnyH_done (by kernel_rfl) (NoPanic.normal ?_) _
  go_wp2
  refine bodyPost_ret (results_cell_row rfl _ _ (w.heap.size + 1) _ _ _ _ rfl hY2 Tryd.underlying53 rfl (by kernel_rfl)) rfl ?_
  exact ⟨B', c', rfl, HPR.out _ _ _ _ HO1, fun a ha => by
    have h := HO1.lt a.block (by rw [ha]; rfl)
    have := HZ.out
    have h1 : U.heap.size ≤ a.block := h.1
    exact ⟨by omega, h.2⟩, hB1⟩

set_option maxRecDepth 100000 in
set_option maxHeartbeats 12800000 in
theorem iturn_far (X : Option Addr) (cM : Nat) (M : List PairT) (Y : Option Addr) (cR : Nat) (R : List Ru) (w : World) (hM : Prs w X M) (hR : Rls w Y R) (hlM : M.length ≤ 5000000) (hlR : R.length ≤ 5000) (hP : ∀ r ∈ R, r.2.2.2.2.length ≤ 5000000) :
    Calls Tryd.prog 14 #[.agg #[.slice X M.length cM, .slice Y R.length cR]] w fun e w' => ∃ X' c Y' c', e = .returned (.agg #[.slice X' M.length c, .slice Y' R.length c']) ∧ Prs w' X' (turnL M) ∧ M.length ≤ c ∧ Rls w' Y' (turnRs R) ∧ Below w.heap.size w w' ∧ (∀ a, X' = some a → w.heap.size ≤ a.block) ∧ ∀ a, Y' = some a → w.heap.size ≤ a.block := by
  obtain ⟨i0, hi, hz0, hz1, hz2⟩ := info_parts Tryd.infoRule
  have HCM := Lib.hid (fun W h => cturn_own X cM M W h hlM)
  have HCR := Lib.hid (fun k f t s B c P W h h2 => iturn_rule k f t s B c P W h h2)
  have HBU := Lib.hid (hbt (below_al w (.cells #[.slice X M.length cM, .slice Y R.length cR] 25)) (below_al _ (.cells #[.slice none 0 0, .slice none 0 0] 25)))
  have HXU : Hid (MpBox ((w.alloc (.cells #[.slice X M.length cM, .slice Y R.length cR] 25)).alloc (.cells #[.slice none 0 0, .slice none 0 0] 25)) w.heap.size X M.length cM Y R.length cR) := obj_below (heap_alloc_new _ _) (below_al _ _)
  have HRU : Hid (MpBox ((w.alloc (.cells #[.slice X M.length cM, .slice Y R.length cR] 25)).alloc (.cells #[.slice none 0 0, .slice none 0 0] 25)) (w.heap.size + 1) none 0 0 none 0 0) := heap_al _ _ _ (by simp)
  have HSU : Hid (((w.alloc (.cells #[.slice X M.length cM, .slice Y R.length cR] 25)).alloc (.cells #[.slice none 0 0, .slice none 0 0] 25)).heap.size = w.heap.size + 2) := by show _ = _; simp
  have HM := Lib.hid (hM.below HBU.out)
  have HR := Lib.hid hR
  have HP := Lib.hid hP
  have HTL := Lib.hid (turn_len M)
  generalize hn : M.length = n at *
  generalize hm : R.length = m at *
  have HMM := Lib.hid hm
  clear hM hR hP hn hm hlM
  go_enter Tryd.func14, Tryd.ntmps14
  go_upto_region 1 with fail
  generalize (w.alloc (.cells #[.slice X n cM, .slice Y m cR] 25)).alloc (.cells #[.slice none 0 0, .slice none 0 0] 25) = U at *
  obtain ⟨x0, x1, _, _⟩ := obj_cells HXU.out
  go_wp2_with (at_make; refine wpList_make_own _ rfl _ _ 23 rfl U.heap.size 53 i0 (.agg #[.int .i64 0, .int .i64 0, .int .i64 0, .string ⟨#[]⟩, .slice none 0 0]) 5 Tryd.underlying23 hi hz0 hz1 _ _ _ m rfl rfl (by omega) ?b2 ?b3 ?b4 ?_)
  case b2 => rw [hz2]; omega
  case b3 => unfold maxLen; omega
  case b4 => exact Nat.le_refl _
  intro w0 hown0 hgrow0
  have HO0 := Lib.hid hown0
  have HB0 := Lib.hid ((Below.refl U.heap.size U).grown hgrow0 (Nat.le_refl _) (fun q hq => by cases hq))
  clear hown0 hgrow0 x0 x1
  obtain ⟨x0, x1, _, _⟩ := obj_cells (HXU.out.below HB0.out)
  go_wp2
  clear x0 x1
  go_loopw [3, 13] (fun v i wr => ∃ (q : Nat) (L : List RuB), q ≤ m ∧ i = .int .i64 (q : Int) ∧ L.map Prod.fst = turnRs (R.take q) ∧ wr.ownsRow U.heap.size 53 5 v q (rubsC L) ∧ (∀ x ∈ L, PrsX wr U.heap.size (Value.ownBlock v) x.2.1 x.1.2.2.2.2) ∧ Below U.heap.size U wr) (fun _ i _ => m - (intOf i).toNat)
  case atStart => exact ⟨0, [], Nat.zero_le _, rfl, rfl, HO0.out, fun x hx => by simp at hx, HB0.out⟩
  case round =>
    obtain ⟨q, L, hq, rfl, hL, hown, hpx, hb⟩ := hrel
    obtain ⟨Y1, cp, rfl⟩ := pown_slice hown
    have HO := Lib.hid hown
    have HPX := Lib.hid hpx
    have HB := Lib.hid hb
    have HL := Lib.hid hL
    have HLQ : Hid (L.length = q) := by have h := congrArg List.length hL; rw [List.length_map, turnRs_len, List.length_take, HMM.out] at h; show _ = _; omega
    clear hown hb hpx hL HO0 HB0
    by_cases hlt : q < m
    · have hql : q < R.length := by have := HMM.out; omega
      obtain ⟨a, k, f, t, s, B, P, c, rfl, hxr, hcr⟩ : ∃ a k f t s B P c, Y = some a ∧ ruAt R q = (k, f, t, s, P) ∧ ∀ u, Below w.heap.size w u → (u.cell? (a.add (q * 5)) = some (.int .i64 k) ∧ u.cell? ⟨(a.add (q * 5)).block, (a.add (q * 5)).off + 1, none⟩ = some (.int .i64 f) ∧ u.cell? ⟨(a.add (q * 5)).block, (a.add (q * 5)).off + 2, none⟩ = some (.int .i64 t) ∧ u.cell? ⟨(a.add (q * 5)).block, (a.add (q * 5)).off + 3, none⟩ = some (.string s) ∧ u.cell? ⟨(a.add (q * 5)).block, (a.add (q * 5)).off + 4, none⟩ = some (.slice B P.length c)) ∧ Prs u B P := by
        obtain ⟨a, k, f, t, s, P, B, c, h⟩ := rls_all HR.out hql
        exact ⟨a, k, f, t, s, B, P, c, h⟩
      have HPZ : Hid (P.length ≤ 5000000) := by
        have h := HP.out (ruAt R q) (by rw [ruAt_get hql]; exact List.getElem_mem hql)
        rw [hxr] at h; exact h
      have HST : Hid (L.map Prod.fst ++ [(k, t, f, s, turnL P)] = turnRs (R.take (q + 1))) := by show _ = _; rw [HL.out, turnRs_take hql, hxr]; rfl
      obtain ⟨⟨c0, c1', c2, c3, c4⟩, hpr⟩ := hcr _ (hbt HBU.out HB.out)
      have HPR := Lib.hid (hpr.below (below_al wr (.cells #[.int .i64 k, .int .i64 f, .int .i64 t, .string s, .slice B P.length c] 53)))
      have HC := Lib.hid (HCR.out k f t s B c P)
      have HTP := Lib.hid (turn_len P)
      clear hxr hql hcr hpr
      generalize hpl : P.length = pl at *
      clear hpl
      have HB1 := Lib.hid (hbt HB.out (below_al wr (.cells #[.int .i64 k, .int .i64 f, .int .i64 t, .string s, .slice B pl c] 53)))
      have HO1 := Lib.hid (sowns_below HO.out (below_al wr (.cells #[.int .i64 k, .int .i64 f, .int .i64 t, .string s, .slice B pl c] 53)))
      have HPX1 : Hid (∀ x ∈ L, PrsX (wr.alloc (.cells #[.int .i64 k, .int .i64 f, .int .i64 t, .string s, .slice B pl c] 53)) U.heap.size (Value.ownBlock (.slice Y1 q cp)) x.2.1 x.1.2.2.2.2) := fun x hx => (HPX.out x hx).below (below_al _ _)
      go_wp2_with fail
      clear c0 c1' c2 c3 c4
      refine (HC.out _ HPR.out HPZ.out).mono ?_
      rintro e w5 ⟨B', c', rfl, hp5, hfar5, hb5⟩
      have HB5 := Lib.hid (hbt HB1.out hb5)
      have HO5 := Lib.hid (sowns_below HO1.out hb5)
      have HPN : Hid (PrsX w5 U.heap.size (Value.ownBlock (.slice Y1 q cp)) B' (turnL P)) := ⟨hp5, fun b hb hl => by
        have h := hfar5 b hb
        have h2 := HB1.out.size
        exact ⟨by omega, fun e => by have h3 := HO1.out.lt b.block e.symm; omega, h.2⟩⟩
      have HPX5 : Hid (∀ x ∈ L, PrsX w5 U.heap.size (Value.ownBlock (.slice Y1 q cp)) x.2.1 x.1.2.2.2.2) := fun x hx => (HPX1.out x hx).below hb5
      clear hp5 hfar5 hb5 HO1 HPX1 HPR HC
      have HN6 : Hid ((w5.alloc (.cells #[.int .i64 k, .int .i64 t, .int .i64 f, .string s, .slice B' pl c'] 53)).heap[w5.heap.size]? = some (.cells #[.int .i64 k, .int .i64 t, .int .i64 f, .string s, .slice B' (turnL P).length c'] 53)) := by rw [HTP.out]; exact heap_alloc_new w5 _
      have HO6 := Lib.hid (HO5.out.alloc (.cells #[.int .i64 k, .int .i64 t, .int .i64 f, .string s, .slice B' pl c'] 53))
      have HB6 := Lib.hid (hbt HB5.out (below_al w5 (.cells #[.int .i64 k, .int .i64 t, .int .i64 f, .string s, .slice B' pl c'] 53)))
      have HZ6 : Hid (U.heap.size ≤ (w5.alloc (.cells #[.int .i64 k, .int .i64 t, .int .i64 f, .string s, .slice B' pl c'] 53)).heap.size) := HB6.out.size
      go_wp2_with (at_builtin; refine wpList_append_lies _ rfl _ _ _ rfl U.heap.size 53 i0 _ 5 64 Tryd.underlying23 hi hz0 hz1 hz2 rfl (by omega) _ q (rubsC L) rfl HO6.out ⟨w5.heap.size, 0, none⟩ 1 1 (rubC ((k, t, f, s, turnL P), B', c')) rfl rfl (World.news_of_block (cs := #[.int .i64 k, .int .i64 t, .int .i64 f, .string s, .slice B' (turnL P).length c']) (t := 53) (fr := (0, 0)) HN6.out) (by simp [rubC, Value.oneCell']) (by omega) (by unfold maxLen; omega) (by omega) HZ6.out (w5.heap.size + 1) (by simp) ?_; intro g' cap' w7 hown7 hgrow7 hat7 hlt7)
      have HO7 := Lib.hid hown7
      have HB7 := Lib.hid (HB6.out.grown hgrow7 HZ6.out (fun q hq => (HO6.out.lt q hq).1))
      have HPA : Hid (∀ y ∈ L ++ [((k, t, f, s, turnL P), B', c')], PrsX w7 U.heap.size (some g') y.2.1 y.1.2.2.2.2) := fun y hy => by
        have h : PrsX w5 U.heap.size (Value.ownBlock (.slice Y1 q cp)) y.2.1 y.1.2.2.2.2 := by
          rcases List.mem_append.1 hy with hy | hy
          · exact HPX5.out y hy
          · rw [List.mem_singleton] at hy; subst hy; exact HPN.out
        refine (h.below (below_al w5 (.cells #[.int .i64 k, .int .i64 t, .int .i64 f, .string s, .slice B' pl c'] 53))).grown hgrow7 fun b hb => ?_
        injection hb with hb
        subst hb
        rcases hat7 with e | e
        · exact Or.inl e
        · right; simp; omega
      clear hown7 hgrow7 hat7 hlt7
      go_wp2
      go_roundw
      case rel => exact ⟨q + 1, L ++ [((k, t, f, s, turnL P), B', c')], by omega, by go_num, by rw [← HST.out, List.map_append]; rfl, by rw [rubsC_snoc]; exact HO7.out, HPA.out, HB7.out⟩
      case measure => simp [intOf]; omega
    · have hqm : q = m := by omega
      subst hqm
      have he : R.take q = R := List.take_of_length_le (by have := HMM.out; omega)
      have HLR := Lib.hid (HL.out.trans (by rw [he]))
      obtain ⟨x0, x1, _, _⟩ := obj_cells (HXU.out.below HB.out)
      go_wp2_with fail
      clear x0 x1
      refine (HCM.out _ (HM.out.below HB.out)).mono ?_
      rintro e w2 ⟨X', c1, rfl, hown2, hb2⟩
      have HR2 := Lib.hid ((HRU.out.below HB.out).below hb2)
      have HB2 := Lib.hid (hbt (hbt HBU.out HB.out) hb2)
      have HO2 := Lib.hid (sowns_below HO.out hb2)
      have HPX2 : Hid (∀ x ∈ L, PrsX w2 U.heap.size (Value.ownBlock (.slice Y1 q cp)) x.2.1 x.1.2.2.2.2) := fun x hx => (HPX.out x hx).below hb2
      have HW2 := Lib.hid hown2
      have HWS := Lib.hid HB.out.size
      clear hown2 hb2 HB HO HPX HCM
      obtain ⟨r0, r1, f0, f1⟩ := obj_cells HR2.out
      go_wp2
      refine bodyPost_ret (results_cell_row rfl _ _ (w.heap.size + 1) _ _ _ _ rfl (obj_set2 HR2.out _ _) Tryd.underlying25 rfl (by kernel_rfl)) rfl ?_
      have hlo : w.heap.size + 1 < U.heap.size := by have := HSU.out; omega
      have hO := sowns_set1 (sowns_set1 HO2.out hlo 0 (.slice X' n c1)) hlo 1 (.slice Y1 q cp)
      have hRl := rls_own hO HLQ.out.symm (fun x hx => (((HPX2.out x hx).set hlo 0 (.slice X' n c1)).set hlo 1 (.slice Y1 q cp)).1)
      rw [HLR.out] at hRl
      have hW := sowns_set1 (sowns_set1 HW2.out (Nat.lt_of_lt_of_le hlo HWS.out) 0 (.slice X' n c1)) (Nat.lt_of_lt_of_le hlo HWS.out) 1 (.slice Y1 q cp)
      refine ⟨X', c1, Y1, cp, rfl, prs_row hW HTL.out.symm, own_cap HW2.out, hRl, below_set2 HB2.out (by omega) _ _, fun a ha => ?_, fun a ha => ?_⟩
      · have h := HW2.out.lt a.block (by rw [ha]; rfl)
        have := HWS.out
        omega
      · have h := HO2.out.lt a.block (by rw [ha]; rfl)
        omega
theorem iturn_any (X : Option Addr) (cM : Nat) (M : List PairT) (Y : Option Addr) (cR : Nat) (R : List Ru) (w : World) (hM : Prs w X M) (hR : Rls w Y R) (hlM : M.length ≤ 5000000) (hlR : R.length ≤ 5000) (hP : ∀ r ∈ R, r.2.2.2.2.length ≤ 5000000) :
    Calls Tryd.prog 14 #[.agg #[.slice X M.length cM, .slice Y R.length cR]] w fun e w' => ∃ X' c Y' c', e = .returned (.agg #[.slice X' M.length c, .slice Y' R.length c']) ∧ Prs w' X' (turnL M) ∧ M.length ≤ c ∧ Rls w' Y' (turnRs R) ∧ Below w.heap.size w w' :=
  (iturn_far X cM M Y cR R w hM hR hlM hlR hP).mono fun _ _ ⟨X', c, Y', c', h1, h2, h3, h4, h5, _⟩ => ⟨X', c, Y', c', h1, h2, h3, h4, h5⟩

end Go.Proofs.YtbhlennolghjmaaDoor
