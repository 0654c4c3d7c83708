/-
  What the document's Turn answers, for every map of up to 5000 rules, each of up to 5,000,000 pairs, in every world; two maps that hold the same.
-/
import Derived.Test.YtbhlennolghjmaaDoorInvTurn
import Derived.Test.YtbhlennolghjmaaDoorPackCod
import Derived.Test.YtbhlennolghjmaaDoorPackBase
namespace Go.Proofs.YtbhlennolghjmaaDoor
open Go.RowKit

set_option maxRecDepth 100000 in
set_option maxHeartbeats 12800000 in
theorem irturn_any (X : Option Addr) (cM : Nat) (M : List PairT) (Y : Option Addr) (cR : Nat) (R : List Ru) (w : World) (hM : Prs w X M) (hR : Rls w Y R) (hlM : M.length ≤ 5000000) (hlR : R.length ≤ 5000) (hP : ∀ r ∈ R, r.2.2.2.2.length ≤ 5000000) :
    Calls Tryd.prog 15 #[.agg #[.slice X M.length cM, .slice Y R.length cR]] w fun e w' => ∃ X' c Y' c', e = .returned (.agg #[.slice X' M.length c, .slice Y' R.length c']) ∧ Prs w' X' (turnL M) ∧ M.length ≤ c ∧ Rls w' Y' (turnRs R) ∧ Below w.heap.size w w' := by
  obtain ⟨i0, hi, hz0, hz1, hz2⟩ := info_parts Tryd.infoRule
  have HCM := Lib.hid (fun W h => crturn_own X cM M W h hlM)
  have HCR := Lib.hid (fun B c P W h h2 => crturn_own B c P W h h2)
  have HBU := Lib.hid (hbt (below_al w (.cells #[.slice X M.length cM, .slice Y R.length cR] 25)) (below_al _ (.cells #[.slice none 0 0, .slice none 0 0] 25)))
  have HXU : Hid (MpBox ((w.alloc (.cells #[.slice X M.length cM, .slice Y R.length cR] 25)).alloc (.cells #[.slice none 0 0, .slice none 0 0] 25)) w.heap.size X M.length cM Y R.length cR) := obj_below (heap_alloc_new _ _) (below_al _ _)
  have HRU : Hid (MpBox ((w.alloc (.cells #[.slice X M.length cM, .slice Y R.length cR] 25)).alloc (.cells #[.slice none 0 0, .slice none 0 0] 25)) (w.heap.size + 1) none 0 0 none 0 0) := heap_al _ _ _ (by simp)
  have HSU : Hid (((w.alloc (.cells #[.slice X M.length cM, .slice Y R.length cR] 25)).alloc (.cells #[.slice none 0 0, .slice none 0 0] 25)).heap.size = w.heap.size + 2) := by show _ = _; simp
  have HM := Lib.hid (hM.below HBU.out)
  have HR := Lib.hid hR
  have HP := Lib.hid hP
  have HTL := Lib.hid (turn_len M)
  generalize hn : M.length = n at *
  generalize hm : R.length = m at *
  have HN := Lib.hid hn
  have HMM := Lib.hid hm
  clear hM hR hP hn hm hlM
  go_enter Tryd.func15, Tryd.ntmps15
  go_upto_region 1 with fail
  generalize (w.alloc (.cells #[.slice X n cM, .slice Y m cR] 25)).alloc (.cells #[.slice none 0 0, .slice none 0 0] 25) = U0 at *
  obtain ⟨x0, x1, _, _⟩ := obj_cells HXU.out
  go_wp2_with fail
  clear x0 x1
  refine (HCM.out _ HM.out).mono ?_
  rintro e w2 ⟨X', c1, rfl, hown, hb2⟩
  have HCAP := Lib.hid (own_cap hown)
  have HX2 : Hid (PrsX w2 (w.heap.size + 2) (some w2.heap.size) X' (turnL M)) := ⟨prs_row hown HTL.out.symm, fun a ha hl => by
    have h := hown.lt a.block (by rw [ha]; rfl)
    have := HSU.out
    exact ⟨by omega, fun e => by injection e with e; omega, h.2⟩⟩
  have hbn := below_al w2 (.cells #[.slice X' n c1, .slice none 0 0] 25)
  have HX3 := Lib.hid (HX2.out.below hbn)
  have HG3 : Hid (MpBox (w2.alloc (.cells #[.slice X' n c1, .slice none 0 0] 25)) w2.heap.size X' n c1 none 0 0) := heap_alloc_new _ _
  have HB3 := Lib.hid (hbt (hbt HBU.out hb2) hbn)
  have HXI3 := Lib.hid ((HXU.out.below hb2).below hbn)
  have HRU3 := Lib.hid ((HRU.out.below hb2).below hbn)
  have HGZ : Hid (w.heap.size + 2 ≤ w2.heap.size) := by have := hb2.size; have := HSU.out; show _ ≤ _; omega
  clear hown hb2 hbn HX2 HCM HBU HXU HRU HSU HM
  go_wp2_with fail
  generalize w2.alloc (.cells #[.slice X' n c1, .slice none 0 0] 25) = U at *
  generalize w2.heap.size = g at *
  have HGU := Lib.hid (obj_lt HG3.out)
  have HWU := Lib.hid HB3.out.size
  go_loopw [4] (fun i wr => ∃ (k : Nat) (L : List RuB), k ≤ m ∧ i = .int .i64 (k : Int) ∧ L.map Prod.fst = turnRs (R.take k) ∧ RWants w U g X' n c1 L wr) (fun i _ => m - (intOf i).toNat)
  case atStart => exact ⟨0, [], Nat.zero_le _, rfl, rfl, rwants_new HG3.out HB3.out⟩
  case round =>
    obtain ⟨q, L, hq, rfl, hL, Y1, cp, hbox, hown, hpx, hkeep, hb⟩ := hrel
    have HX := Lib.hid hbox
    have HO := Lib.hid hown
    have HPX := Lib.hid hpx
    have HK := Lib.hid hkeep
    have HB := Lib.hid hb
    have HL := Lib.hid hL
    have HXI : Hid (MpBox wr w.heap.size X n cM Y m cR) := hkeep.obj HXI3.out (by have := HGZ.out; omega)
    have HLQ : Hid (L.length = q) := by have h := congrArg List.length hL; rw [List.length_map, turnRs_len, List.length_take, HMM.out] at h; show _ = _; omega
    obtain ⟨x0, x1, _, _⟩ := obj_cells hbox
    obtain ⟨x2, x3, _, _⟩ := obj_cells HXI.out
    clear hown hbox hb hkeep hpx hL
    generalize hll : L.length = ln at *
    have HLL := Lib.hid hll
    clear hll
    by_cases hlt : q < m
    · have hql : q < R.length := by have := HMM.out; omega
      obtain ⟨a, k, f, t, s, B, P, c, rfl, hxr, hcr⟩ : ∃ a k f t s B P c, Y = some a ∧ ruAt R q = (k, f, t, s, P) ∧ ∀ u, Below w.heap.size w u → (u.cell? (a.add (q * 5)) = some (.int .i64 k) ∧ u.cell? ⟨(a.add (q * 5)).block, (a.add (q * 5)).off + 1, none⟩ = some (.int .i64 f) ∧ u.cell? ⟨(a.add (q * 5)).block, (a.add (q * 5)).off + 2, none⟩ = some (.int .i64 t) ∧ u.cell? ⟨(a.add (q * 5)).block, (a.add (q * 5)).off + 3, none⟩ = some (.string s) ∧ u.cell? ⟨(a.add (q * 5)).block, (a.add (q * 5)).off + 4, none⟩ = some (.slice B P.length c)) ∧ Prs u B P := by
        obtain ⟨a, k, f, t, s, P, B, c, h⟩ := rls_all HR.out hql
        exact ⟨a, k, f, t, s, B, P, c, h⟩
      have HPZ : Hid (P.length ≤ 5000000) := by
        have h := HP.out (ruAt R q) (by rw [ruAt_get hql]; exact List.getElem_mem hql)
        rw [hxr] at h; exact h
      have HST : Hid (L.map Prod.fst ++ [(k, t, f, s, turnL P)] = turnRs (R.take (q + 1))) := by show _ = _; rw [HL.out, turnRs_take hql, hxr]; rfl
      obtain ⟨⟨c0, c1', c2, c3, c4⟩, hpr⟩ := hcr _ HB.out
      have HPR := Lib.hid (hpr.below (below_al wr (.cells #[.int .i64 k, .int .i64 f, .int .i64 t, .string s, .slice B P.length c] 53)))
      have HTP := Lib.hid (turn_len P)
      have HC : Hid (∀ W, Prs W B P → Calls Tryd.prog 39 #[.slice B P.length c] W fun e w' => ∃ x, e = .returned x ∧ ∃ A' c', x = .slice A' P.length c' ∧ w'.ownsRow W.heap.size 62 2 (.slice A' P.length c') P.length (duosC (turnL P)) ∧ Below W.heap.size W w') := fun W h => (HCR.out B c P W h HPZ.out).mono fun _ _ ⟨A', c', he, k1, k2⟩ => ⟨_, he, A', c', rfl, k1, k2⟩
      have hba := below_al wr (.cells #[.int .i64 k, .int .i64 f, .int .i64 t, .string s, .slice B P.length c] 53)
      have HR6 : Hid (RBox (wr.alloc (.cells #[.int .i64 k, .int .i64 f, .int .i64 t, .string s, .slice B P.length c] 53)) wr.heap.size k f t s B P.length c) := heap_alloc_new wr _
      have HX6 := Lib.hid (HX.out.below hba)
      have HXI6 := Lib.hid (HXI.out.below hba)
      have HO6 := Lib.hid (sowns_below HO.out hba)
      have HB6 := Lib.hid (hbt HB.out hba)
      have HPX6 : Hid (∀ x ∈ L, PrsX (wr.alloc (.cells #[.int .i64 k, .int .i64 f, .int .i64 t, .string s, .slice B P.length c] 53)) U.heap.size (Value.ownBlock (.slice Y1 ln cp)) x.2.1 x.1.2.2.2.2) := fun x hx => (HPX.out x hx).below hba
      have HK6 : Hid (KeepX U g (wr.alloc (.cells #[.int .i64 k, .int .i64 f, .int .i64 t, .string s, .slice B P.length c] 53))) := HK.out.step (hba.mono HK.out.1)
      have HG6 : Hid (g ≠ wr.heap.size) := by have h1 := HK.out.1; have h2 := HGU.out; show _ ≠ _; omega
      have HGG : Hid (∀ p, Value.ownBlock (.slice Y1 ln cp) = some p → p < wr.heap.size) := fun p hp => (HO.out.lt p hp).2
      clear hxr hql hcr hpr hba HX HO HK HB HPX
      generalize P.length = pl at *
      go_upto_region 6 with fail
      clear x0 x1 x2 x3 c0 c1' c2 c3 c4
      generalize wr.alloc (.cells #[.int .i64 k, .int .i64 f, .int .i64 t, .string s, .slice B pl c] 53) = W6 at *
      generalize wr.heap.size = g6 at *
      refine wp_region_noPanic ?_
      refine wp_region_late (fun u => MpBox u g X' n c1 Y1 ln cp ∧ RBox u g6 k f t s B pl c) 17 (by kernel_rfl) ((show MpBox W6 g X' n c1 Y1 ln cp ∧ RBox W6 g6 k f t s B pl c from ⟨HX6.out, HR6.out⟩)) (fun hT => ?_)
      refine lv 0 (v := ?_) (fun u hu => ?_) hT ?_
      rotate_left
      · ((rcases hu with ⟨hu1, hu2⟩; obtain ⟨b0, b1, _, _⟩ := obj_cells hu1; obtain ⟨b2, b3, b4, b5, b6⟩ := obj_cells5 hu2; clear hu1 hu2); go_simp; try (with_reducible rfl))
      try simp only [puts]
      refine lv 1 (v := ?_) (fun u hu => ?_) hT ?_
      rotate_left
      · ((rcases hu with ⟨hu1, hu2⟩; obtain ⟨b0, b1, _, _⟩ := obj_cells hu1; obtain ⟨b2, b3, b4, b5, b6⟩ := obj_cells5 hu2; clear hu1 hu2); go_simp; try (with_reducible rfl))
      try simp only [puts]
      refine lv 2 (v := ?_) (fun u hu => ?_) hT ?_
      rotate_left
      · ((rcases hu with ⟨hu1, hu2⟩; obtain ⟨b0, b1, _, _⟩ := obj_cells hu1; obtain ⟨b2, b3, b4, b5, b6⟩ := obj_cells5 hu2; clear hu1 hu2); go_simp; try (with_reducible rfl))
      try simp only [puts]
      refine lv 3 (v := ?_) (fun u hu => ?_) hT ?_
      rotate_left
      · ((rcases hu with ⟨hu1, hu2⟩; obtain ⟨b0, b1, _, _⟩ := obj_cells hu1; obtain ⟨b2, b3, b4, b5, b6⟩ := obj_cells5 hu2; clear hu1 hu2); go_simp; try (with_reducible rfl))
      try simp only [puts]
      refine lv 4 (v := ?_) (fun u hu => ?_) hT ?_
      rotate_left
      · ((rcases hu with ⟨hu1, hu2⟩; obtain ⟨b0, b1, _, _⟩ := obj_cells hu1; obtain ⟨b2, b3, b4, b5, b6⟩ := obj_cells5 hu2; clear hu1 hu2); go_simp; try (with_reducible rfl))
      try simp only [puts]
      refine lv 5 (v := ?_) (fun u hu => ?_) hT ?_
      rotate_left
      · ((rcases hu with ⟨hu1, hu2⟩; obtain ⟨b0, b1, _, _⟩ := obj_cells hu1; obtain ⟨b2, b3, b4, b5, b6⟩ := obj_cells5 hu2; clear hu1 hu2); go_simp; try (with_reducible rfl))
      try simp only [puts]
      refine lv 6 (v := ?_) (fun u hu => ?_) hT ?_
      rotate_left
      · ((rcases hu with ⟨hu1, hu2⟩; obtain ⟨b0, b1, _, _⟩ := obj_cells hu1; obtain ⟨b2, b3, b4, b5, b6⟩ := obj_cells5 hu2; clear hu1 hu2); go_simp; try (with_reducible rfl))
      try simp only [puts]
      refine lv 7 (v := ?_) (fun u hu => ?_) hT ?_
      rotate_left
      · ((rcases hu with ⟨hu1, hu2⟩; obtain ⟨b0, b1, _, _⟩ := obj_cells hu1; obtain ⟨b2, b3, b4, b5, b6⟩ := obj_cells5 hu2; clear hu1 hu2); go_simp; try (with_reducible rfl))
      try simp only [puts]
      refine lv 8 (v := ?_) (fun u hu => ?_) hT ?_
      rotate_left
      · ((rcases hu with ⟨hu1, hu2⟩; obtain ⟨b0, b1, _, _⟩ := obj_cells hu1; obtain ⟨b2, b3, b4, b5, b6⟩ := obj_cells5 hu2; clear hu1 hu2); go_simp; try (with_reducible rfl))
      try simp only [puts]
      refine lv 9 (v := ?_) (fun u hu => ?_) hT ?_
      rotate_left
      · ((rcases hu with ⟨hu1, hu2⟩; obtain ⟨b0, b1, _, _⟩ := obj_cells hu1; obtain ⟨b2, b3, b4, b5, b6⟩ := obj_cells5 hu2; clear hu1 hu2); go_simp; try (with_reducible rfl))
      try simp only [puts]
      refine lv 10 (v := ?_) (fun u hu => ?_) hT ?_
      rotate_left
      · ((rcases hu with ⟨hu1, hu2⟩; obtain ⟨b0, b1, _, _⟩ := obj_cells hu1; obtain ⟨b2, b3, b4, b5, b6⟩ := obj_cells5 hu2; clear hu1 hu2); go_simp; try (with_reducible rfl))
      try simp only [puts]
      refine lv 11 (v := ?_) (fun u hu => ?_) hT ?_
      rotate_left
      · ((rcases hu with ⟨hu1, hu2⟩; obtain ⟨b0, b1, _, _⟩ := obj_cells hu1; obtain ⟨b2, b3, b4, b5, b6⟩ := obj_cells5 hu2; clear hu1 hu2); go_simp; try (with_reducible rfl))
      try simp only [puts]
      refine late_lone (i := 12) rfl (by kernel_rfl) (by rfl) (fun K hK => ?_)
      refine wp_enters_some (T := fun v w' => ∃ B' c', v = .slice B' pl c' ∧ w'.ownsRow W6.heap.size 62 2 (.slice B' pl c') pl (duosC (turnL P)) ∧ Below W6.heap.size W6 w') 39 #[.slice B pl c] ((HC.out W6.drew HPR.out).mono fun e w' he => ?_) ?_ ?_
      · obtain ⟨v, he0, B', c', rfl, he2, he4⟩ := he
        exact ⟨_, he0, B', c', rfl, he2, ⟨he4.1, he4.2, he4.3, he4.4, he4.5⟩⟩
      · (go_simp; try (with_reducible rfl))
      intro v7 w7 hT7
      obtain ⟨B', c', rfl, hp7, hb7⟩ := hT7
      have HX7 := Lib.hid (HX6.out.below hb7)
      have HR7 := Lib.hid (HR6.out.below hb7)
      have HO7 := Lib.hid (sowns_below HO6.out hb7)
      have HB7 := Lib.hid (hbt HB6.out hb7)
      have HZ7 : Hid (U.heap.size ≤ W6.heap.size) := HK6.out.1
      have HPN : Hid (PrsX w7 U.heap.size (Value.ownBlock (.slice Y1 ln cp)) B' (turnL P)) := ⟨prs_row hp7 HTP.out.symm, fun b hb hl => by
        have h := hp7.lt b.block (by rw [hb]; rfl)
        have h2 := HZ7.out
        exact ⟨by omega, fun e => by have h3 := HO6.out.lt b.block e.symm; omega, h.2⟩⟩
      have HPX7 : Hid (∀ x ∈ L, PrsX w7 U.heap.size (Value.ownBlock (.slice Y1 ln cp)) x.2.1 x.1.2.2.2.2) := fun x hx => (HPX6.out x hx).below hb7
      have HBW7 := Lib.hid hb7
      clear hp7 hb7
      refine hK.out _ _ (⟨HX7.out, HR7.out⟩) ?_
      clear hK
      try simp only [puts]
      clear hT
      have hT : MpBox w7 g X' n c1 Y1 ln cp ∧ RBox w7 g6 k f t s B pl c := ⟨HX7.out, HR7.out⟩
      refine lv 13 (v := ?_) (fun u hu => ?_) hT ?_
      rotate_left
      · ((rcases hu with ⟨hu1, hu2⟩; obtain ⟨b0, b1, _, _⟩ := obj_cells hu1; obtain ⟨b2, b3, b4, b5, b6⟩ := obj_cells5 hu2; clear hu1 hu2); go_simp; try (with_reducible rfl))
      try simp only [puts]
      have hbal := below_al w7 (.cells #[.int .i64 k, .int .i64 t, .int .i64 f, .string s, .slice B' pl c'] 53)
      refine late_lone (i := 14) rfl (by kernel_rfl) (by rfl) (fun K hK => ?_)
      go_simp
      refine hK.out _ _ (⟨HX7.out.below hbal, HR7.out.below hbal⟩) ?_
      clear hK
      try simp only [puts]
      refine late_lone (i := 15) rfl (by kernel_rfl) (by rfl) (fun K hK => ?_)
      refine wp_append_lies _ _ _ _ (by rfl) U.heap.size 53 i0 _ 5 64 Tryd.underlying23 hi hz0 hz1 hz2 rfl (by omega) (.slice Y1 ln cp) ln (rubsC L) (by rfl) (HO7.out.alloc _) ⟨w7.heap.size, 0, none⟩ 1 1 (rubC ((k, t, f, s, turnL P), B', c')) (by rfl) (by rfl) (World.news_of_block (cs := #[.int .i64 k, .int .i64 t, .int .i64 f, .string s, .slice B' (turnL P).length c']) (t := 53) (fr := (0, 0)) (by rw [HTP.out]; exact heap_alloc_new w7 _)) (by simp [rubC, Value.oneCell']) (by omega) (by have := HLQ.out; unfold maxLen; omega) (by have := HLQ.out; omega) (by have := HZ7.out; have := HBW7.out.size; simp; omega) (w7.heap.size + 1) (by simp) ?_
      intro g' cap' w8 hown8 hgrow8 hat8 hlt8
      have hbB : Below U.heap.size W6 w8 := ((HBW7.out.mono HZ7.out).alloc (by have := HZ7.out; have := HBW7.out.size; omega) _).grown hgrow8 (by have := HZ7.out; have := HBW7.out.size; simp; omega) (fun q hq => (HO7.out.lt q hq).1)
      have HO8 := Lib.hid hown8
      have HK8 := Lib.hid (HK6.out.step hbB)
      have HX8 : Hid (MpBox w8 g X' n c1 Y1 ln cp) := (hbB.block _ HGU.out).trans HX6.out
      have HR8 : Hid (RBox w8 g6 k f t s B pl c) := (hgrow8.block _ (by have := obj_lt HR7.out; simp; omega) (fun e => by have h3 := HGG.out g6 e.symm; omega)).trans (obj_below HR7.out hbal)
      have HB8 := Lib.hid (HB6.out.trans (hbB.mono HWU.out))
      have HPA : Hid (∀ y ∈ L ++ [((k, t, f, s, turnL P), B', c')], PrsX w8 U.heap.size (some g') y.2.1 y.1.2.2.2.2) := fun y hy => by
        have h : PrsX w7 U.heap.size (Value.ownBlock (.slice Y1 ln cp)) y.2.1 y.1.2.2.2.2 := by
          rcases List.mem_append.1 hy with hy | hy
          · exact HPX7.out y hy
          · rw [List.mem_singleton] at hy; subst hy; exact HPN.out
        refine (h.below hbal).grown hgrow8 fun b hb => ?_
        injection hb with hb
        subst hb
        rcases hat8 with e | e
        · exact Or.inl e
        · right; simp; omega
      clear hown8 hgrow8 hat8 hlt8 hbB hbal
      refine hK.out _ _ (⟨HX8.out, HR8.out⟩) ?_
      clear hK
      try simp only [puts]
      clear hT
      have hT : MpBox w8 g X' n c1 Y1 ln cp ∧ RBox w8 g6 k f t s B pl c := ⟨HX8.out, HR8.out⟩
      refine lv 16 (v := ?_) (fun u hu => ?_) hT ?_
      rotate_left
      · ((rcases hu with ⟨hu1, hu2⟩; obtain ⟨b0, b1, _, _⟩ := obj_cells hu1; obtain ⟨b2, b3, b4, b5, b6⟩ := obj_cells5 hu2; clear hu1 hu2); go_simp; try (with_reducible rfl))
      try simp only [puts]
      refine late_only rfl (by kernel_rfl) (by rfl) (fun K hK => ?_)
      obtain ⟨j0, j1, f0, f1⟩ := obj_cells HX8.out
      go_simp
      refine hK.out _ _ ?_
      clear hK
      try simp only [puts]
      refine late_done (by kernel_rfl) (NoPanic.normal ?_) _
      clear hT j0 j1 f0 f1
      go_wp2
      go_roundw
      case rel => exact ⟨q + 1, L ++ [((k, t, f, s, turnL P), B', c')], by omega, by go_num, by rw [← HST.out, List.map_append]; rfl, rwants_put HGU.out (by have := HGZ.out; omega) HLL.out HX8.out HO8.out HPA.out HK8.out HB8.out⟩
      case measure => simp [intOf]; omega
    · have he : R.take q = R := List.take_of_length_le (by have := HMM.out; omega)
      have HLR := Lib.hid (HL.out.trans (by rw [he]))
      have HXR : Hid (MpBox wr (w.heap.size + 1) none 0 0 none 0 0) := HK.out.obj HRU3.out (by have := HGZ.out; omega)
      have HXP : Hid (PrsX wr (w.heap.size + 2) (some g) X' (turnL M)) := ⟨HK.out.prs HX3.out.1 fun a ha hl e => (HX3.out.2 a ha hl).2.1 (by rw [e]), fun a ha hl => ⟨(HX3.out.2 a ha hl).1, (HX3.out.2 a ha hl).2.1, Nat.lt_of_lt_of_le (HX3.out.2 a ha hl).2.2 HK.out.1⟩⟩
      have HLM : Hid (ln = m) := by have := HLQ.out; show _ = _; omega
      obtain ⟨r0, r1, f0, f1⟩ := obj_cells HXR.out
      go_wp2
      refine bodyPost_ret (results_cell_row rfl _ _ (w.heap.size + 1) _ _ _ _ rfl (obj_set2 HXR.out _ _) Tryd.underlying25 rfl (by kernel_rfl)) rfl ?_
      have hlo : w.heap.size + 1 < U.heap.size := by have := HGZ.out; have := HGU.out; omega
      have hO := sowns_set1 (sowns_set1 HO.out hlo 0 (.slice X' n c1)) hlo 1 (.slice Y1 ln cp)
      have hRl := rls_own hO HLL.out.symm (fun x hx => (((HPX.out x hx).set hlo 0 (.slice X' n c1)).set hlo 1 (.slice Y1 ln cp)).1)
      rw [HLR.out] at hRl
      exact ⟨X', c1, Y1, cp, by rw [HLM.out], ((HXP.out.set (by omega) 0 (.slice X' n c1)).set (by omega) 1 (.slice Y1 ln cp)).1, HCAP.out, hRl, below_set2 HB.out (by omega) _ _⟩

set_option maxRecDepth 100000 in
set_option maxHeartbeats 12800000 in
theorem isame_yes (X : Option Addr) (cM : Nat) (M : List PairT) (Y : Option Addr) (cR : Nat) (R : List Ru) (X2 : Option Addr) (cM2 : Nat) (Y2 : Option Addr) (cR2 : Nat) (w : World) (hM : Prs w X M) (hR : Rls w Y R) (hM2 : Prs w X2 M) (hR2 : Rls w Y2 R) (hlM : M.length ≤ 5000000) (hlR : R.length ≤ 5000) (hP : ∀ r ∈ R, r.2.2.2.2.length ≤ 5000000) :
    Calls Tryd.prog 13 #[.agg #[.slice X M.length cM, .slice Y R.length cR], .agg #[.slice X2 M.length cM2, .slice Y2 R.length cR2]] w fun e w' => e = .returned (.bool true) ∧ Below w.heap.size w w' := by
  have HSM := Lib.hid (fun W h h2 => csame_yes X X2 cM cM2 M W h h2 hlM)
  have HSP := Lib.hid (fun A B ca cb l W h h2 h3 => csame_yes A B ca cb l W h h2 h3)
  have HBU := Lib.hid (hbt (below_al w (.cells #[.slice X M.length cM, .slice Y R.length cR] 25)) (below_al _ (.cells #[.slice X2 M.length cM2, .slice Y2 R.length cR2] 25)))
  have HXU : Hid (MpBox ((w.alloc (.cells #[.slice X M.length cM, .slice Y R.length cR] 25)).alloc (.cells #[.slice X2 M.length cM2, .slice Y2 R.length cR2] 25)) w.heap.size X M.length cM Y R.length cR) := obj_below (heap_alloc_new _ _) (below_al _ _)
  have HYU : Hid (MpBox ((w.alloc (.cells #[.slice X M.length cM, .slice Y R.length cR] 25)).alloc (.cells #[.slice X2 M.length cM2, .slice Y2 R.length cR2] 25)) (w.heap.size + 1) X2 M.length cM2 Y2 R.length cR2) := heap_al _ _ _ (by simp)
  have HM := Lib.hid hM
  have HM2 := Lib.hid hM2
  have HR := Lib.hid hR
  have HR2 := Lib.hid hR2
  have HP := Lib.hid hP
  generalize M.length = n at *
  generalize hm : R.length = m at *
  have HMM := Lib.hid hm
  clear hM hR hM2 hR2 hP hm hlM
  go_enter Tryd.func13, Tryd.ntmps13
  go_upto_region 1 with fail
  generalize (w.alloc (.cells #[.slice X n cM, .slice Y m cR] 25)).alloc (.cells #[.slice X2 n cM2, .slice Y2 m cR2] 25) = U at *
  obtain ⟨x0, x1, _, _⟩ := obj_cells HXU.out
  obtain ⟨y0, y1, _, _⟩ := obj_cells HYU.out
  go_wp2_with fail
  clear x0 x1 y0 y1
  refine (HSM.out _ (HM.out.below HBU.out) (HM2.out.below HBU.out)).mono ?_
  rintro e w1 ⟨rfl, hb1⟩
  have HB1 := Lib.hid (hbt HBU.out hb1)
  have HX1 := Lib.hid (HXU.out.below hb1)
  have HY1 := Lib.hid (HYU.out.below hb1)
  clear hb1 HBU HXU HYU HSM
  obtain ⟨x0, x1, _, _⟩ := obj_cells HX1.out
  obtain ⟨y0, y1, _, _⟩ := obj_cells HY1.out
  go_wp2
  clear x0 x1 y0 y1
  go_loopw [5] (fun i wr => ∃ q : Nat, q ≤ m ∧ i = .int .i64 (q : Int) ∧ MpBox wr w.heap.size X n cM Y m cR ∧ MpBox wr (w.heap.size + 1) X2 n cM2 Y2 m cR2 ∧ Below w.heap.size w wr) (fun i _ => m - (intOf i).toNat)
  case atStart => exact ⟨0, Nat.zero_le _, rfl, HX1.out, HY1.out, HB1.out⟩
  case round =>
    obtain ⟨q, hq, rfl, hX, hY, hb⟩ := hrel
    have HX := Lib.hid hX
    have HY := Lib.hid hY
    have HB := Lib.hid hb
    clear hX hY hb HX1 HY1 HB1
    obtain ⟨x0, x1, _, _⟩ := obj_cells HX.out
    obtain ⟨y0, y1, _, _⟩ := obj_cells HY.out
    by_cases hlt : q < m
    · have hql : q < R.length := by have := HMM.out; omega
      obtain ⟨a, k, f, t, s, B, P, c, rfl, hxr, hcr⟩ : ∃ a k f t s B P c, Y = some a ∧ ruAt R q = (k, f, t, s, P) ∧ ∀ u, Below w.heap.size w u → (u.cell? (a.add (q * 5)) = some (.int .i64 k) ∧ u.cell? ⟨(a.add (q * 5)).block, (a.add (q * 5)).off + 1, none⟩ = some (.int .i64 f) ∧ u.cell? ⟨(a.add (q * 5)).block, (a.add (q * 5)).off + 2, none⟩ = some (.int .i64 t) ∧ u.cell? ⟨(a.add (q * 5)).block, (a.add (q * 5)).off + 3, none⟩ = some (.string s) ∧ u.cell? ⟨(a.add (q * 5)).block, (a.add (q * 5)).off + 4, none⟩ = some (.slice B P.length c)) ∧ Prs u B P := by
        obtain ⟨a, k, f, t, s, P, B, c, h⟩ := rls_all HR.out hql
        exact ⟨a, k, f, t, s, B, P, c, h⟩
      obtain ⟨a2, B2, c2, rfl, hcr2⟩ : ∃ a2 B2 c2, Y2 = some a2 ∧ ∀ u, Below w.heap.size w u → (u.cell? (a2.add (q * 5)) = some (.int .i64 k) ∧ u.cell? ⟨(a2.add (q * 5)).block, (a2.add (q * 5)).off + 1, none⟩ = some (.int .i64 f) ∧ u.cell? ⟨(a2.add (q * 5)).block, (a2.add (q * 5)).off + 2, none⟩ = some (.int .i64 t) ∧ u.cell? ⟨(a2.add (q * 5)).block, (a2.add (q * 5)).off + 3, none⟩ = some (.string s) ∧ u.cell? ⟨(a2.add (q * 5)).block, (a2.add (q * 5)).off + 4, none⟩ = some (.slice B2 P.length c2)) ∧ Prs u B2 P := by
        obtain ⟨a2, k2, f2, t2, s2, P2, B2, c2, h1, h2, h3⟩ := rls_all HR2.out hql
        rw [hxr] at h2
        simp only [Prod.mk.injEq] at h2
        obtain ⟨rfl, rfl, rfl, rfl, rfl⟩ := h2
        exact ⟨a2, B2, c2, h1, h3⟩
      have HPZ : Hid (P.length ≤ 5000000) := by
        have h := HP.out (ruAt R q) (by rw [ruAt_get hql]; exact List.getElem_mem hql)
        rw [hxr] at h; exact h
      have hba := below_al wr (.cells #[.int .i64 k, .int .i64 f, .int .i64 t, .string s, .slice B P.length c] 53)
      have HX4 := Lib.hid (HX.out.below hba)
      have HY4 := Lib.hid (HY.out.below hba)
      have HB4 := Lib.hid (hbt HB.out hba)
      have HO4 : Hid (RBox (wr.alloc (.cells #[.int .i64 k, .int .i64 f, .int .i64 t, .string s, .slice B P.length c] 53)) wr.heap.size k f t s B P.length c) := heap_alloc_new wr _
      have HC := Lib.hid (fun W h h2 => HSP.out B B2 c c2 P W h h2 HPZ.out)
      obtain ⟨⟨c0, c1', c2', c3, c4⟩, _⟩ := hcr _ HB.out
      have HCL := Lib.hid hcr
      have HCM := Lib.hid hcr2
      clear hxr hql hcr hcr2 hba HX HY HB HPZ HSP
      generalize P.length = pl at *
      go_upto_region 7 with fail
      clear c0 c1' c2' c3 c4 x0 x1 y0 y1
      generalize wr.alloc (.cells #[.int .i64 k, .int .i64 f, .int .i64 t, .string s, .slice B pl c] 53) = W4 at *
      generalize wr.heap.size = g4 at *
      have hba := below_al W4 (.cells #[.int .i64 k, .int .i64 f, .int .i64 t, .string s, .slice B2 pl c2] 53)
      have HX5 := Lib.hid (HX4.out.below hba)
      have HY5 := Lib.hid (HY4.out.below hba)
      have HB5 := Lib.hid (hbt HB4.out hba)
      have HO5 := Lib.hid (HO4.out.below hba)
      have HQ5 : Hid (RBox (W4.alloc (.cells #[.int .i64 k, .int .i64 f, .int .i64 t, .string s, .slice B2 pl c2] 53)) W4.heap.size k f t s B2 pl c2) := heap_alloc_new W4 _
      have HP5 := Lib.hid (HCL.out _ HB5.out).2
      have HP6 := Lib.hid (HCM.out _ HB5.out).2
      obtain ⟨⟨c0, c1', c2', c3, c4⟩, _⟩ := HCM.out _ HB4.out
      obtain ⟨y0, y1, _, _⟩ := obj_cells HY4.out
      clear hba
      go_upto_region 8 with fail
      clear c0 c1' c2' c3 c4 y0 y1
      generalize W4.alloc (.cells #[.int .i64 k, .int .i64 f, .int .i64 t, .string s, .slice B2 pl c2] 53) = W5 at *
      generalize W4.heap.size = g5 at *
      obtain ⟨r0, r1, r2, r3, r4⟩ := obj_cells5 HO5.out
      obtain ⟨z0, z1, z2, z3, z4⟩ := obj_cells5 HQ5.out
      go_wp2_with fail
      clear r0 r1 r2 r3 r4 z0 z1 z2 z3 z4
      refine (HC.out _ HP5.out HP6.out).mono ?_
      rintro e w6 ⟨rfl, hb6⟩
      have HX6 := Lib.hid (HX5.out.below hb6)
      have HY6 := Lib.hid (HY5.out.below hb6)
      have HB6 := Lib.hid (hbt HB5.out hb6)
      clear hb6
      go_wp2
      go_roundw
      case rel => exact ⟨q + 1, by omega, by go_num, HX6.out, HY6.out, HB6.out⟩
      case measure => simp [intOf]; omega
    · go_wp2
      go_ret
      exact ⟨rfl, HB.out⟩

end Go.Proofs.YtbhlennolghjmaaDoor
