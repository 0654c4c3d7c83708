/-
  What the law's great and awake answer: in every world where the table of kinds reads as it is laid.
-/
import Derived.Test.YtbhlennolghjmaaDoorInvLos
import Derived.Test.YtbhlennolghjmaaDoorInvTurn
import Derived.Test.YtbhlennolghjmaaDoorInvPrg
import Derived.Test.YtbhlennolghjmaaDoorXltLq
import Derived.Test.YtbhlennolghjmaaDoorPackDia
import Derived.Test.YtbhlennolghjmaaDoorPackRul
namespace Go.Proofs.YtbhlennolghjmaaDoor
open Go.RowKit

theorem fit_none {R : List Ru} (h : ∀ r ∈ R, r.2.2.2.1 = ⟨#[]⟩ ∧ r.2.2.2.2 = []) : Fit4 R := fun r hr => by
  obtain ⟨h1, h2⟩ := h r hr
  refine ⟨by rw [h1]; exact Nat.zero_le _, by rw [h2]; exact Nat.zero_le _, by rw [h2]; exact fit2_nil⟩
theorem los_fit : Fit2 losM := by
  intro x hx
  simp only [losM, List.mem_cons, List.not_mem_nil, or_false] at hx
  rcases hx with rfl | rfl
  · exact ⟨by show 4 ≤ _; decide, by show 4 ≤ _; decide⟩
  · exact ⟨by show 4 ≤ _; decide, by show 4 ≤ _; decide⟩
/-- The map of the lossless fields, and a rule by which a field is dropped. -/
def losD : List Ru := losR ++ [(2, 13, 0, ⟨#[]⟩, [])]
def losE : List RuB := losB ++ [((2, 13, 0, ⟨#[]⟩, []), none, 0)]
theorem losD_none : ∀ r ∈ losD, r.2.2.2.1 = ⟨#[]⟩ ∧ r.2.2.2.2 = [] := by decide +kernel
theorem losT_none : ∀ r ∈ turnRs losR, r.2.2.2.1 = ⟨#[]⟩ ∧ r.2.2.2.2 = [] := by decide +kernel
theorem losD_len : losD.length = 22 := by unfold losD; rw [List.length_append, los_len.1]; rfl
theorem losE_len : losE.length = 22 := by unfold losE; rw [List.length_append, losB_len]; rfl
theorem losE_fst : losE.map Prod.fst = losD := by unfold losE losD; rw [List.map_append, losB_fst]; rfl
theorem losE_nop : NoP losE := fun y hy => by
  unfold losE at hy
  rcases List.mem_append.1 hy with h | h
  · exact losB_nop y h
  · rw [List.mem_singleton] at h; subst h; rfl
theorem rls_same {u u' : World} {A : Option Addr} {R : List Ru} (h : Rls u A R) (hs : ∀ a, A = some a → a.block < u.heap.size → u'.heap[a.block]? = u.heap[a.block]?) (hP : ∀ r ∈ R, r.2.2.2.1 = ⟨#[]⟩ ∧ r.2.2.2.2 = []) : Rls u' A R := fun i hi => by
  obtain ⟨a, ha, B, c, h0, h1, h2, h3, h4, h5⟩ := h i hi
  have hlt : a.block < u.heap.size := by have := block_lt_of_cell h0; rwa [add_block] at this
  have hb := hs a ha hlt
  have hc : ∀ (q : Addr), q.block = a.block → u'.cell? q = u.cell? q := fun q hq => World.cell?_of_block (by rw [hq]; exact hb)
  have hz : (ruAt R i).2.2.2.2 = [] := (hP _ (by rw [ruAt_get hi]; exact List.getElem_mem hi)).2
  refine ⟨a, ha, B, c, (hc _ (add_block _ _)).trans h0, (hc ⟨_, _, none⟩ (add_block a (i * 5))).trans h1, (hc ⟨_, _, none⟩ (add_block a (i * 5))).trans h2, (hc ⟨_, _, none⟩ (add_block a (i * 5))).trans h3, (hc ⟨_, _, none⟩ (add_block a (i * 5))).trans h4, ?_⟩
  rw [hz]; exact prs_nil _ _
theorem dia_lens : acqL.length = 28 ∧ issL.length = 26 := ⟨rfl, rfl⟩

/-- What stands in the blocks: both schemas, the map with one rule more, and the map turned. -/
def IAw (w : World) (g : Nat) (A : Option Addr) (c : Nat) (A' : Option Addr) (c' : Nat) (p : Nat) (X : Option Addr) (Y : Option Addr) (cY : Nat) (p' : Nat) (X' : Option Addr) (cX' : Nat) (Y' : Option Addr) (cY' : Nat) (u : World) : Prop :=
  (Below w.heap.size w u ∧ Kinds u) ∧ Box u g 1 0 A 28 c ∧ Box u (g + 1) 2 1 A' 26 c' ∧ MpBox u p X 2 2 Y 22 cY ∧ MpBox u p' X' 2 cX' Y' 21 cY' ∧ Spl u A acqL ∧ Spl u A' issL ∧ Prs u X losM ∧ Rls u Y losD ∧ Prs u X' (turnL losM) ∧ Rls u Y' (turnRs losR)
theorem IAw.below {w : World} {g : Nat} {A : Option Addr} {c : Nat} {A' : Option Addr} {c' : Nat} {p : Nat} {X Y : Option Addr} {cY p' : Nat} {X' : Option Addr} {cX' : Nat} {Y' : Option Addr} {cY' : Nat} {u u' : World} (h : IAw w g A c A' c' p X Y cY p' X' cX' Y' cY' u) (hb : Below u.heap.size u u') : IAw w g A c A' c' p X Y cY p' X' cX' Y' cY' u' := by
  obtain ⟨⟨h1, h2⟩, h3, h4, h5, h6, h7, h8, h9, h10, h11, h12⟩ := h
  exact ⟨⟨hbt h1 hb, h2.below hb⟩, h3.below hb, h4.below hb, h5.below hb, h6.below hb, h7.below hb, h8.below hb, h9.below hb, h10.below hb, h11.below hb, h12.below hb⟩

set_option maxRecDepth 100000 in
set_option maxHeartbeats 25600000 in
theorem iawake_any (w : World) (hK : Kinds w) : Calls Tryd.prog 7 #[] w fun e w' => e = .returned (.bool true) ∧ Below w.heap.size w w' := by
  obtain ⟨i0, hi, hz0, hz1, hz2⟩ := info_parts Tryd.infoRule
  have HK := Lib.hid hK
  have HS0 := Lib.hid (fun W => refsch_0 W)
  have HS1 := Lib.hid (fun W => refsch_1 W)
  rw [ref_acq, dia_lens.1] at HS0
  rw [ref_iss, dia_lens.2] at HS1
  have HL0 := Lib.hid (fun W => lossless_any W)
  have HT : Hid (∀ p Y c W, LosAt 0 p Y c W → Calls Tryd.prog 14 #[.agg #[.slice (some ⟨p, 0, none⟩) 2 2, .slice Y 21 c]] W fun e w' => ∃ X' c Y' c', e = .returned (.agg #[.slice X' 2 c, .slice Y' 21 c']) ∧ Prs w' X' (turnL losM) ∧ 2 ≤ c ∧ Rls w' Y' (turnRs losR) ∧ Below W.heap.size W w' ∧ (∀ a, X' = some a → W.heap.size ≤ a.block) ∧ ∀ a, Y' = some a → W.heap.size ≤ a.block) := fun p Y c W h => by
    have := iturn_far (some ⟨p, 0, none⟩) 2 losM Y c losR W (los_pair h.2.1) (los_rls h.2.2) (by rw [los_len.2.1]; omega) (by rw [los_len.1]; omega) (fun r hr => by rw [(los_none r hr).2]; exact Nat.zero_le _)
    rw [los_len.1, los_len.2.1] at this
    exact this
  have HC1 : Hid (∀ p Y c A ca A' cb W, Kinds W → LosAt 0 p Y c W → Spl W A acqL → Spl W A' issL → Calls Tryd.prog 9 #[.agg #[.slice (some ⟨p, 0, none⟩) 2 2, .slice Y 21 c], .agg #[.int .i64 1, .int .i64 0, .slice A 28 ca], .agg #[.int .i64 2, .int .i64 1, .slice A' 26 cb]] W fun e w' => e = .returned (.bool true) ∧ Below W.heap.size W w') := fun p Y c A ca A' cb W k0 h k1 k2 => by
    have := icheck_any rchk_any (some ⟨p, 0, none⟩) 2 losM Y c losR 1 0 A ca acqL 2 1 A' cb issL W k0 (los_pair h.2.1) (los_rls h.2.2) k1 k2 (by decide) (by decide) (by rw [los_len.2.1]; unfold maxLen; omega) (by rw [los_len.2.1]; omega) los_fit (by rw [los_len.1]; unfold maxLen; omega) (fit_none los_none)
    rw [los_one, los_len.1, los_len.2.1, dia_lens.1, dia_lens.2] at this
    exact this
  have HC2 : Hid (∀ X Y c A ca A' cb W, Kinds W → Prs W X losM → Rls W Y losD → Spl W A acqL → Spl W A' issL → Calls Tryd.prog 9 #[.agg #[.slice X 2 2, .slice Y 22 c], .agg #[.int .i64 1, .int .i64 0, .slice A 28 ca], .agg #[.int .i64 2, .int .i64 1, .slice A' 26 cb]] W fun e w' => e = .returned (.bool false) ∧ Below W.heap.size W w') := fun X Y c A ca A' cb W k0 h h' k1 k2 => by
    have := icheck_any rchk_any X 2 losM Y c losD 1 0 A ca acqL 2 1 A' cb issL W k0 h h' k1 k2 (by decide) (by decide) (by rw [los_len.2.1]; unfold maxLen; omega) (by rw [los_len.2.1]; omega) los_fit (by rw [losD_len]; unfold maxLen; omega) (fit_none losD_none)
    rw [show invB 1 0 acqL 2 1 issL losM losD = false from los_drop, losD_len, los_len.2.1, dia_lens.1, dia_lens.2] at this
    exact this
  have HC3 : Hid (∀ X cX Y c A ca A' cb W, Kinds W → 2 ≤ cX → Prs W X (turnL losM) → Rls W Y (turnRs losR) → Spl W A acqL → Spl W A' issL → Calls Tryd.prog 9 #[.agg #[.slice X 2 cX, .slice Y 21 c], .agg #[.int .i64 2, .int .i64 1, .slice A' 26 cb], .agg #[.int .i64 1, .int .i64 0, .slice A 28 ca]] W fun e w' => e = .returned (.bool false) ∧ Below W.heap.size W w') := fun X cX Y c A ca A' cb W k0 hc h h' k1 k2 => by
    have hl : (turnL losM).length = 2 := by rw [turn_len, los_len.2.1]
    have := icheck_any rchk_any X cX (turnL losM) Y c (turnRs losR) 2 1 A' cb issL 1 0 A ca acqL W k0 h h' k2 k1 (by decide) (by decide) (by rw [hl]; unfold maxLen; omega) (by rw [hl]; exact hc) los_fit.turn (by rw [los_len.2.2]; unfold maxLen; omega) (fit_none losT_none)
    rw [los_turned, los_len.2.2, hl, dia_lens.1, dia_lens.2] at this
    exact this
  have HRE : Hid (∀ (u : World) (b c : Nat) (Y : Option Addr), u.ownsRow b 53 5 (.slice Y 22 c) 22 (rubsC losE) → Rls u Y losD) := fun u b c Y h => by
    have := rls_own h losE_len.symm (nop_prs losE_nop)
    rwa [losE_fst] at this
  have HE0 : Hid (rubsC losB ++ rubC ((2, 13, 0, ⟨#[]⟩, []), none, 0) = rubsC losE) := (rubsC_snoc _ _).symm
  have HTN := Lib.hid losT_none
  have HDN := Lib.hid losD_none
  have HPT : Hid (∀ (u : World) (A : Option Addr), Prs u A (turnL losM) → ∃ a, A = some a ∧ u.cell? a = some (.string ⟨#[49, 50, 48, 48]⟩) ∧ u.cell? ⟨a.block, a.off + 1, none⟩ = some (.string ⟨#[48, 50, 48, 48]⟩)) := fun u A h => by
    obtain ⟨a, ha, h0, h1⟩ := h 0 (by rw [turn_len, los_len.2.1]; omega)
    have e : a.add (0 * 2) = a := by simp [Addr.add]
    rw [e] at h0 h1
    exact ⟨a, ha, h0, h1⟩
  clear hK
  generalize rubsC losE = LE at *
  go_enter Tryd.func7, Tryd.ntmps7
  go_wp2_with fail
  refine (HS0.out _).mono ?_
  rintro e w1 ⟨A, c, rfl, ht1, _, hb1⟩
  have HB1 := Lib.hid hb1
  have HA1 := Lib.hid ht1
  clear hb1 ht1 HS0
  go_wp2_with fail
  refine (HS1.out _).mono ?_
  rintro e w2 ⟨A', c', rfl, ht2, _, hb2⟩
  have HB2 := Lib.hid (hbt HB1.out hb2)
  have HA2 := Lib.hid (HA1.out.below hb2)
  have HD2 := Lib.hid ht2
  clear hb2 ht2 HA1 HB1 HS1
  have hb3 := below_al w2 (.cells #[.int .i64 1, .int .i64 0, .slice A 28 c] 28)
  have hb4 := below_al (w2.alloc (.cells #[.int .i64 1, .int .i64 0, .slice A 28 c] 28)) (.cells #[.int .i64 2, .int .i64 1, .slice A' 26 c'] 28)
  have HX4 : Hid (Box ((w2.alloc (.cells #[.int .i64 1, .int .i64 0, .slice A 28 c] 28)).alloc (.cells #[.int .i64 2, .int .i64 1, .slice A' 26 c'] 28)) w2.heap.size 1 0 A 28 c) := (box_new _ _ _ _ _ _).below hb4
  have HY4 : Hid (Box ((w2.alloc (.cells #[.int .i64 1, .int .i64 0, .slice A 28 c] 28)).alloc (.cells #[.int .i64 2, .int .i64 1, .slice A' 26 c'] 28)) (w2.heap.size + 1) 2 1 A' 26 c') := heap_al _ _ _ (by simp)
  have HB4 := Lib.hid (hbt HB2.out (hbt hb3 hb4))
  have HA4 := Lib.hid (HA2.out.below (hbt hb3 hb4))
  have HD4 := Lib.hid (HD2.out.below (hbt hb3 hb4))
  clear hb3 hb4 HA2 HD2 HB2
  go_upto_region 2 with fail
  generalize (w2.alloc (.cells #[.int .i64 1, .int .i64 0, .slice A 28 c] 28)).alloc (.cells #[.int .i64 2, .int .i64 1, .slice A' 26 c'] 28) = W4 at *
  generalize w2.heap.size = g at *
  go_wp2_with fail
  refine (HL0.out _).mono ?_
  rintro e w5 ⟨x, rfl, p, Y, cY, rfl, hl5, hb5⟩
  have hbn := below_al w5 (.cells #[.slice (some ⟨p, 0, none⟩) 2 2, .slice Y 21 cY] 25)
  have HB6 := Lib.hid (hbt hb5 hbn)
  have HL6 := Lib.hid (hl5.below hbn)
  have HM6 : Hid (MpBox (w5.alloc (.cells #[.slice (some ⟨p, 0, none⟩) 2 2, .slice Y 21 cY] 25)) w5.heap.size (some ⟨p, 0, none⟩) 2 2 Y 21 cY) := heap_alloc_new _ _
  have HYM : Hid (∀ q, Value.ownBlock (.slice Y 21 cY) = some q → q < w5.heap.size) := fun q hq => (hl5.2.2.lt q hq).2
  have HG5 := Lib.hid hb5.size
  have HP5 := Lib.hid (obj_lt hl5.2.1)
  clear hl5 hb5 hbn
  go_upto_region 3 with fail
  generalize w5.alloc (.cells #[.slice (some ⟨p, 0, none⟩) 2 2, .slice Y 21 cY] 25) = W6 at *
  generalize w5.heap.size = g6 at *
  obtain ⟨m0, m1, _, _⟩ := obj_cells HM6.out
  go_wp2_with fail
  clear m0 m1
  refine (HT.out p Y cY _ ⟨Nat.zero_le _, HL6.out.2⟩).mono ?_
  rintro e w7 ⟨X', cX, Y', cY', rfl, hx7, hcx, hy7, hb7, hfx, hfy⟩
  have hbn := below_al w7 (.cells #[.slice X' 2 cX, .slice Y' 21 cY'] 25)
  have HCX := Lib.hid hcx
  have HX8 := Lib.hid (hx7.below hbn)
  have HY8 := Lib.hid (hy7.below hbn)
  have HFX := Lib.hid hfx
  have HFY := Lib.hid hfy
  have HB8 := Lib.hid (hbt hb7 hbn)
  have HM8 := Lib.hid (HM6.out.below (hbt hb7 hbn))
  have HT8 : Hid (MpBox (w7.alloc (.cells #[.slice X' 2 cX, .slice Y' 21 cY'] 25)) w7.heap.size X' 2 cX Y' 21 cY') := heap_alloc_new _ _
  have HL8 := Lib.hid (HL6.out.below (hbt hb7 hbn))
  have HG6 := Lib.hid (obj_lt HM6.out)
  have HZ7 := Lib.hid hb7.size
  clear hx7 hcx hy7 hb7 hfx hfy hbn HL6 HM6 HT
  go_upto_region 4 with fail
  generalize w7.alloc (.cells #[.slice X' 2 cX, .slice Y' 21 cY'] 25) = W8 at *
  generalize w7.heap.size = g8 at *
  have HBA := Lib.hid (below_al W8 (.cells #[.int .i64 2, .int .i64 13, .int .i64 0, .string ⟨#[]⟩, .slice none 0 0] 53))
  have HM9 := Lib.hid (HM8.out.below HBA.out)
  have HL9 := Lib.hid (HL8.out.below HBA.out)
  have HZ8 := Lib.hid (obj_lt HT8.out)
  have HZ9 : Hid (p + 1 ≤ (W8.alloc (.cells #[.int .i64 2, .int .i64 13, .int .i64 0, .string ⟨#[]⟩, .slice none 0 0] 53)).heap.size) := by have := HP5.out; have := HG6.out; have := HZ7.out; have := HZ8.out; show _ ≤ _; simp; omega
  have HN9 := Lib.hid (heap_alloc_new W8 (.cells #[.int .i64 2, .int .i64 13, .int .i64 0, .string ⟨#[]⟩, .slice none 0 0] 53))
  obtain ⟨m0, m1, _, _⟩ := obj_cells HM8.out
  go_upto_region 5 with (at_builtin; refine wpList_append_lies _ rfl _ _ _ rfl (p + 1) 53 i0 _ 5 64 Tryd.underlying23 hi hz0 hz1 hz2 rfl (by omega) (.slice Y 21 cY) 21 (rubsC losB) rfl HL9.out.2.2 ⟨W8.heap.size, 0, none⟩ 1 1 (rubC ((2, 13, 0, ⟨#[]⟩, []), none, 0)) rfl rfl (World.news_of_block (cs := #[.int .i64 2, .int .i64 13, .int .i64 0, .string ⟨#[]⟩, .slice none 0 0]) (t := 53) (fr := (0, 0)) HN9.out) (by simp [rubC, Value.oneCell']) (by omega) (by unfold maxLen; omega) (by omega) HZ9.out (W8.heap.size + 1) (by simp) ?_; intro g' cap' w10 hown10 hgrow10 hat10 hlt10; have HG10 := Lib.hid hgrow10; have HO10 := Lib.hid hown10; have HAT10 := Lib.hid hat10; have hx10 : MpBox w10 g6 (some ⟨p, 0, none⟩) 2 2 Y 21 cY := (hgrow10.block _ (obj_lt HM9.out) (fun e => by have := HYM.out g6 e.symm; omega)).trans HM9.out; obtain ⟨j0, j1, f0, f1⟩ := obj_cells hx10; have HM10 := Lib.hid hx10; clear hown10 hgrow10 hat10 hlt10 hx10)
  clear m0 m1
  have HNE : Hid (g' ≠ g6) := by
    have h1 := HG6.out
    have h2 := HZ7.out
    have h3 := HZ8.out
    show _ ≠ _
    rcases HAT10.out with e | e
    · have := HYM.out g' e; omega
    · omega
  have HKP : Hid (∀ b, b < W8.heap.size → some b ≠ Value.ownBlock (.slice Y 21 cY) → b ≠ g6 → (w10.setCell ⟨g6, 1, none⟩ (.slice (some ⟨g', 0, none⟩) 22 cap')).heap[b]? = W8.heap[b]?) := fun b h1 h2 h3 => (heap_setCell_other _ _ _ _ h3).trans ((HG10.out.block b (by simp; omega) h2).trans (HBA.out.block b h1))
  have HBF : Hid (Below W4.heap.size W4 (w10.setCell ⟨g6, 1, none⟩ (.slice (some ⟨g', 0, none⟩) 22 cap'))) := by
    have h1 := hbt HB6.out (hbt HB8.out HBA.out)
    exact (h1.grown HG10.out h1.size (fun q hq => by have := (HL9.out.2.2.lt q hq).1; have := HL9.out.1; omega)).setCell (p := ⟨g6, 1, none⟩) (HG5.out) _
  have HOX : Hid (∀ b, g6 < b → some b ≠ Value.ownBlock (.slice Y 21 cY)) := fun b hb e => by have := HYM.out b e.symm; omega
  have HWF : Hid (IAw w g A c A' c' g6 (some ⟨p, 0, none⟩) (some ⟨g', 0, none⟩) cap' g8 X' cX Y' cY' (w10.setCell ⟨g6, 1, none⟩ (.slice (some ⟨g', 0, none⟩) 22 cap'))) := by
    have h1 := HG6.out
    have h2 := HZ7.out
    have h3 := HZ8.out
    have h5 := HP5.out
    refine ⟨⟨hbt HB4.out HBF.out, HK.out.below (hbt HB4.out HBF.out)⟩, HX4.out.below HBF.out, HY4.out.below HBF.out, heap_setCell_same _ g6 1 _ _ _ HM10.out, (HKP.out g8 h3 (HOX.out g8 (by omega)) (by omega)).trans HT8.out, HA4.out.below HBF.out, HD4.out.below HBF.out, los_pair ((HKP.out p (by omega) (fun e => by have := (HL8.out.2.2.lt p e.symm).1; omega) (by omega)).trans HL8.out.2.1), ?_, ?_, ?_⟩
    · have hr := HRE.out w10 (p + 1) cap' (some ⟨g', 0, none⟩) (by rw [← HE0.out]; exact HO10.out)
      refine rls_same hr (fun a ha _ => heap_setCell_other _ _ _ _ ?_) HDN.out
      injection ha with ha
      subst ha
      exact HNE.out
    · refine prs_same HX8.out fun a ha hl => ?_
      have hlo := HFX.out a ha
      have hlt : a.block < W8.heap.size := by
        obtain ⟨a', ha', h0, _⟩ := HX8.out 0 (List.length_pos_iff.2 hl)
        rw [ha] at ha'; injection ha' with e; subst e
        have := block_lt_of_cell h0
        rwa [add_block] at this
      exact HKP.out _ hlt (HOX.out _ (by omega)) (by omega)
    · refine rls_same HY8.out (fun a ha hlt => ?_) HTN.out
      have hlo := HFY.out a ha
      exact HKP.out _ hlt (HOX.out _ (by omega)) (by omega)
  clear HNE HKP HBF HOX HG10 HO10 HAT10 HM10 HN9 HZ9 HL9 HM9 HBA HX4 HY4 HA4 HD4 HB4 HB6 HYM HG5 HP5 HX8 HY8 HFX HFY HB8 HM8 HT8 HL8 HG6 HZ7 HZ8 HRE HE0 HTN HDN
  generalize w10.setCell ⟨g6, 1, none⟩ (.slice (some ⟨g', 0, none⟩) 22 cap') = W at *
  obtain ⟨xa, rfl, _, _⟩ := HPT.out _ _ HWF.out.2.2.2.2.2.2.2.2.2.1
  refine wp_region_noPanic ?_
  refine wp_region_held_drew (S := (fun u => Below W.heap.size W u)) (by kernel_rfl) ((Below.refl _ _).drew) (fun hS => ?_)
  refine gv 1 (v := ?_) (fun u hu => ?_) hS ?_
  rotate_left
  · ((have hT := HWF.out.below hu; obtain ⟨a0, a1, a2⟩ := obj_cells3 hT.2.1; obtain ⟨b0, b1, b2⟩ := obj_cells3 hT.2.2.1; obtain ⟨m0, m1, _, _⟩ := obj_cells hT.2.2.2.1; obtain ⟨n0, n1, _, _⟩ := obj_cells hT.2.2.2.2.1; obtain ⟨xb, hxb, q0, q1⟩ := HPT.out _ _ hT.2.2.2.2.2.2.2.2.2.1; injection hxb with hxb; subst hxb; clear hT); go_simp; try (with_reducible rfl))
  try simp only [puts]
  refine gv 2 (v := ?_) (fun u hu => ?_) hS ?_
  rotate_left
  · ((have hT := HWF.out.below hu; obtain ⟨a0, a1, a2⟩ := obj_cells3 hT.2.1; obtain ⟨b0, b1, b2⟩ := obj_cells3 hT.2.2.1; obtain ⟨m0, m1, _, _⟩ := obj_cells hT.2.2.2.1; obtain ⟨n0, n1, _, _⟩ := obj_cells hT.2.2.2.2.1; obtain ⟨xb, hxb, q0, q1⟩ := HPT.out _ _ hT.2.2.2.2.2.2.2.2.2.1; injection hxb with hxb; subst hxb; clear hT); go_simp; try (with_reducible rfl))
  try simp only [puts]
  refine only_some (i := 0) 22 #[] rfl (by kernel_rfl) (by rfl) ((HL0.out _)) ?_ ?_
  · (go_simp; try (with_reducible rfl))
  intro v0 w0 hT
  obtain ⟨p0, Y0, c0, rfl, hl0, hb⟩ := hT
  have hS' := hbt hS hb
  refine ⟨hS', ?_⟩
  clear hS
  have hS := hS'; clear hS'
  try simp only [puts]
  refine only_call (i := 3) 9 #[.agg #[.slice (some ⟨p0, 0, none⟩) 2 2, .slice Y0 21 c0], .agg #[.int .i64 1, .int .i64 0, .slice A 28 c], .agg #[.int .i64 2, .int .i64 1, .slice A' 26 c']] rfl (by kernel_rfl) (by rfl) ((HC1.out p0 Y0 c0 A c A' c' _ (HWF.out.below hS).1.2 ⟨Nat.zero_le _, hl0.2⟩ (HWF.out.below hS).2.2.2.2.2.1 (HWF.out.below hS).2.2.2.2.2.2.1).mono fun e w' he => ⟨he.1, hbt hS he.2⟩) ?_ ?_
  · (go_simp; try (with_reducible rfl))
  clear hS
  intro w3 hS
  try simp only [puts]
  refine gv 4 (v := ?_) (fun u hu => ?_) hS ?_
  rotate_left
  · ((have hT := HWF.out.below hu; obtain ⟨a0, a1, a2⟩ := obj_cells3 hT.2.1; obtain ⟨b0, b1, b2⟩ := obj_cells3 hT.2.2.1; obtain ⟨m0, m1, _, _⟩ := obj_cells hT.2.2.2.1; obtain ⟨n0, n1, _, _⟩ := obj_cells hT.2.2.2.2.1; obtain ⟨xb, hxb, q0, q1⟩ := HPT.out _ _ hT.2.2.2.2.2.2.2.2.2.1; injection hxb with hxb; subst hxb; clear hT); go_simp; try (with_reducible rfl))
  try simp only [puts]
  refine gv 5 (v := ?_) (fun u hu => ?_) hS ?_
  rotate_left
  · ((have hT := HWF.out.below hu; obtain ⟨a0, a1, a2⟩ := obj_cells3 hT.2.1; obtain ⟨b0, b1, b2⟩ := obj_cells3 hT.2.2.1; obtain ⟨m0, m1, _, _⟩ := obj_cells hT.2.2.2.1; obtain ⟨n0, n1, _, _⟩ := obj_cells hT.2.2.2.2.1; obtain ⟨xb, hxb, q0, q1⟩ := HPT.out _ _ hT.2.2.2.2.2.2.2.2.2.1; injection hxb with hxb; subst hxb; clear hT); go_simp; try (with_reducible rfl))
  try simp only [puts]
  refine gv 6 (v := ?_) (fun u hu => ?_) hS ?_
  rotate_left
  · ((have hT := HWF.out.below hu; obtain ⟨a0, a1, a2⟩ := obj_cells3 hT.2.1; obtain ⟨b0, b1, b2⟩ := obj_cells3 hT.2.2.1; obtain ⟨m0, m1, _, _⟩ := obj_cells hT.2.2.2.1; obtain ⟨n0, n1, _, _⟩ := obj_cells hT.2.2.2.2.1; obtain ⟨xb, hxb, q0, q1⟩ := HPT.out _ _ hT.2.2.2.2.2.2.2.2.2.1; injection hxb with hxb; subst hxb; clear hT); go_simp; try (with_reducible rfl))
  try simp only [puts]
  refine gv 7 (v := ?_) (fun u hu => ?_) hS ?_
  rotate_left
  · ((have hT := HWF.out.below hu; obtain ⟨a0, a1, a2⟩ := obj_cells3 hT.2.1; obtain ⟨b0, b1, b2⟩ := obj_cells3 hT.2.2.1; obtain ⟨m0, m1, _, _⟩ := obj_cells hT.2.2.2.1; obtain ⟨n0, n1, _, _⟩ := obj_cells hT.2.2.2.2.1; obtain ⟨xb, hxb, q0, q1⟩ := HPT.out _ _ hT.2.2.2.2.2.2.2.2.2.1; injection hxb with hxb; subst hxb; clear hT); go_simp; try (with_reducible rfl))
  try simp only [puts]
  refine only_call (i := 8) 9 #[.agg #[.slice (some ⟨p, 0, none⟩) 2 2, .slice (some ⟨g', 0, none⟩) 22 cap'], .agg #[.int .i64 1, .int .i64 0, .slice A 28 c], .agg #[.int .i64 2, .int .i64 1, .slice A' 26 c']] rfl (by kernel_rfl) (by rfl) ((HC2.out (some ⟨p, 0, none⟩) (some ⟨g', 0, none⟩) cap' A c A' c' _ (HWF.out.below hS).1.2 (HWF.out.below hS).2.2.2.2.2.2.2.1 (HWF.out.below hS).2.2.2.2.2.2.2.2.1 (HWF.out.below hS).2.2.2.2.2.1 (HWF.out.below hS).2.2.2.2.2.2.1).mono fun e w' he => ⟨he.1, hbt hS he.2⟩) ?_ ?_
  · (go_simp; try (with_reducible rfl))
  clear hS
  intro w8 hS
  try simp only [puts]
  refine gv 9 (v := ?_) (fun u hu => ?_) hS ?_
  rotate_left
  · ((have hT := HWF.out.below hu; obtain ⟨a0, a1, a2⟩ := obj_cells3 hT.2.1; obtain ⟨b0, b1, b2⟩ := obj_cells3 hT.2.2.1; obtain ⟨m0, m1, _, _⟩ := obj_cells hT.2.2.2.1; obtain ⟨n0, n1, _, _⟩ := obj_cells hT.2.2.2.2.1; obtain ⟨xb, hxb, q0, q1⟩ := HPT.out _ _ hT.2.2.2.2.2.2.2.2.2.1; injection hxb with hxb; subst hxb; clear hT); go_simp; try (with_reducible rfl))
  try simp only [puts]
  refine gv 10 (v := ?_) (fun u hu => ?_) hS ?_
  rotate_left
  · ((have hT := HWF.out.below hu; obtain ⟨a0, a1, a2⟩ := obj_cells3 hT.2.1; obtain ⟨b0, b1, b2⟩ := obj_cells3 hT.2.2.1; obtain ⟨m0, m1, _, _⟩ := obj_cells hT.2.2.2.1; obtain ⟨n0, n1, _, _⟩ := obj_cells hT.2.2.2.2.1; obtain ⟨xb, hxb, q0, q1⟩ := HPT.out _ _ hT.2.2.2.2.2.2.2.2.2.1; injection hxb with hxb; subst hxb; clear hT); go_simp; try (with_reducible rfl))
  try simp only [puts]
  refine gv 11 (v := ?_) (fun u hu => ?_) hS ?_
  rotate_left
  · ((have hT := HWF.out.below hu; obtain ⟨a0, a1, a2⟩ := obj_cells3 hT.2.1; obtain ⟨b0, b1, b2⟩ := obj_cells3 hT.2.2.1; obtain ⟨m0, m1, _, _⟩ := obj_cells hT.2.2.2.1; obtain ⟨n0, n1, _, _⟩ := obj_cells hT.2.2.2.2.1; obtain ⟨xb, hxb, q0, q1⟩ := HPT.out _ _ hT.2.2.2.2.2.2.2.2.2.1; injection hxb with hxb; subst hxb; clear hT); go_simp; try (with_reducible rfl))
  try simp only [puts]
  refine gv 12 (v := ?_) (fun u hu => ?_) hS ?_
  rotate_left
  · ((have hT := HWF.out.below hu; obtain ⟨a0, a1, a2⟩ := obj_cells3 hT.2.1; obtain ⟨b0, b1, b2⟩ := obj_cells3 hT.2.2.1; obtain ⟨m0, m1, _, _⟩ := obj_cells hT.2.2.2.1; obtain ⟨n0, n1, _, _⟩ := obj_cells hT.2.2.2.2.1; obtain ⟨xb, hxb, q0, q1⟩ := HPT.out _ _ hT.2.2.2.2.2.2.2.2.2.1; injection hxb with hxb; subst hxb; clear hT); go_simp; try (with_reducible rfl))
  try simp only [puts]
  refine gv 13 (v := ?_) (fun u hu => ?_) hS ?_
  rotate_left
  · ((have hT := HWF.out.below hu; obtain ⟨a0, a1, a2⟩ := obj_cells3 hT.2.1; obtain ⟨b0, b1, b2⟩ := obj_cells3 hT.2.2.1; obtain ⟨m0, m1, _, _⟩ := obj_cells hT.2.2.2.1; obtain ⟨n0, n1, _, _⟩ := obj_cells hT.2.2.2.2.1; obtain ⟨xb, hxb, q0, q1⟩ := HPT.out _ _ hT.2.2.2.2.2.2.2.2.2.1; injection hxb with hxb; subst hxb; clear hT); go_simp; try (with_reducible rfl))
  try simp only [puts]
  refine gv 14 (v := ?_) (fun u hu => ?_) hS ?_
  rotate_left
  · ((have hT := HWF.out.below hu; obtain ⟨a0, a1, a2⟩ := obj_cells3 hT.2.1; obtain ⟨b0, b1, b2⟩ := obj_cells3 hT.2.2.1; obtain ⟨m0, m1, _, _⟩ := obj_cells hT.2.2.2.1; obtain ⟨n0, n1, _, _⟩ := obj_cells hT.2.2.2.2.1; obtain ⟨xb, hxb, q0, q1⟩ := HPT.out _ _ hT.2.2.2.2.2.2.2.2.2.1; injection hxb with hxb; subst hxb; clear hT); go_simp; try (with_reducible rfl))
  try simp only [puts]
  refine only_call (i := 15) 9 #[.agg #[.slice (some xa) 2 cX, .slice Y' 21 cY'], .agg #[.int .i64 2, .int .i64 1, .slice A' 26 c'], .agg #[.int .i64 1, .int .i64 0, .slice A 28 c]] rfl (by kernel_rfl) (by rfl) ((HC3.out (some xa) cX Y' cY' A c A' c' _ (HWF.out.below hS).1.2 HCX.out (HWF.out.below hS).2.2.2.2.2.2.2.2.2.1 (HWF.out.below hS).2.2.2.2.2.2.2.2.2.2 (HWF.out.below hS).2.2.2.2.2.1 (HWF.out.below hS).2.2.2.2.2.2.1).mono fun e w' he => ⟨he.1, hbt hS he.2⟩) ?_ ?_
  · (go_simp; try (with_reducible rfl))
  clear hS
  intro w15 hS
  try simp only [puts]
  refine gv 16 (v := ?_) (fun u hu => ?_) hS ?_
  rotate_left
  · ((have hT := HWF.out.below hu; obtain ⟨a0, a1, a2⟩ := obj_cells3 hT.2.1; obtain ⟨b0, b1, b2⟩ := obj_cells3 hT.2.2.1; obtain ⟨m0, m1, _, _⟩ := obj_cells hT.2.2.2.1; obtain ⟨n0, n1, _, _⟩ := obj_cells hT.2.2.2.2.1; obtain ⟨xb, hxb, q0, q1⟩ := HPT.out _ _ hT.2.2.2.2.2.2.2.2.2.1; injection hxb with hxb; subst hxb; clear hT); go_simp; try (with_reducible rfl))
  try simp only [puts]
  refine gv 17 (v := ?_) (fun u hu => ?_) hS ?_
  rotate_left
  · ((have hT := HWF.out.below hu; obtain ⟨a0, a1, a2⟩ := obj_cells3 hT.2.1; obtain ⟨b0, b1, b2⟩ := obj_cells3 hT.2.2.1; obtain ⟨m0, m1, _, _⟩ := obj_cells hT.2.2.2.1; obtain ⟨n0, n1, _, _⟩ := obj_cells hT.2.2.2.2.1; obtain ⟨xb, hxb, q0, q1⟩ := HPT.out _ _ hT.2.2.2.2.2.2.2.2.2.1; injection hxb with hxb; subst hxb; clear hT); go_simp; try (with_reducible rfl))
  try simp only [puts]
  refine gv 18 (v := ?_) (fun u hu => ?_) hS ?_
  rotate_left
  · ((have hT := HWF.out.below hu; obtain ⟨a0, a1, a2⟩ := obj_cells3 hT.2.1; obtain ⟨b0, b1, b2⟩ := obj_cells3 hT.2.2.1; obtain ⟨m0, m1, _, _⟩ := obj_cells hT.2.2.2.1; obtain ⟨n0, n1, _, _⟩ := obj_cells hT.2.2.2.2.1; obtain ⟨xb, hxb, q0, q1⟩ := HPT.out _ _ hT.2.2.2.2.2.2.2.2.2.1; injection hxb with hxb; subst hxb; clear hT); go_simp; try (with_reducible rfl))
  try simp only [puts]
  refine gv 19 (v := ?_) (fun u hu => ?_) hS ?_
  rotate_left
  · ((have hT := HWF.out.below hu; obtain ⟨a0, a1, a2⟩ := obj_cells3 hT.2.1; obtain ⟨b0, b1, b2⟩ := obj_cells3 hT.2.2.1; obtain ⟨m0, m1, _, _⟩ := obj_cells hT.2.2.2.1; obtain ⟨n0, n1, _, _⟩ := obj_cells hT.2.2.2.2.1; obtain ⟨xb, hxb, q0, q1⟩ := HPT.out _ _ hT.2.2.2.2.2.2.2.2.2.1; injection hxb with hxb; subst hxb; clear hT); go_simp; try (with_reducible rfl))
  try simp only [puts]
  refine gv 20 (v := ?_) (fun u hu => ?_) hS ?_
  rotate_left
  · ((have hT := HWF.out.below hu; obtain ⟨a0, a1, a2⟩ := obj_cells3 hT.2.1; obtain ⟨b0, b1, b2⟩ := obj_cells3 hT.2.2.1; obtain ⟨m0, m1, _, _⟩ := obj_cells hT.2.2.2.1; obtain ⟨n0, n1, _, _⟩ := obj_cells hT.2.2.2.2.1; obtain ⟨xb, hxb, q0, q1⟩ := HPT.out _ _ hT.2.2.2.2.2.2.2.2.2.1; injection hxb with hxb; subst hxb; clear hT); go_simp; try (with_reducible rfl))
  try simp only [puts]
  refine gv 21 (v := ?_) (fun u hu => ?_) hS ?_
  rotate_left
  · ((have hT := HWF.out.below hu; obtain ⟨a0, a1, a2⟩ := obj_cells3 hT.2.1; obtain ⟨b0, b1, b2⟩ := obj_cells3 hT.2.2.1; obtain ⟨m0, m1, _, _⟩ := obj_cells hT.2.2.2.1; obtain ⟨n0, n1, _, _⟩ := obj_cells hT.2.2.2.2.1; obtain ⟨xb, hxb, q0, q1⟩ := HPT.out _ _ hT.2.2.2.2.2.2.2.2.2.1; injection hxb with hxb; subst hxb; clear hT); go_simp; try (with_reducible rfl))
  try simp only [puts]
  refine gv 22 (v := ?_) (fun u hu => ?_) hS ?_
  rotate_left
  · ((have hT := HWF.out.below hu; obtain ⟨a0, a1, a2⟩ := obj_cells3 hT.2.1; obtain ⟨b0, b1, b2⟩ := obj_cells3 hT.2.2.1; obtain ⟨m0, m1, _, _⟩ := obj_cells hT.2.2.2.1; obtain ⟨n0, n1, _, _⟩ := obj_cells hT.2.2.2.2.1; obtain ⟨xb, hxb, q0, q1⟩ := HPT.out _ _ hT.2.2.2.2.2.2.2.2.2.1; injection hxb with hxb; subst hxb; clear hT); go_simp; try (with_reducible rfl))
  try simp only [puts]
  refine gv 23 (v := ?_) (fun u hu => ?_) hS ?_
  rotate_left
  · ((have hT := HWF.out.below hu; obtain ⟨a0, a1, a2⟩ := obj_cells3 hT.2.1; obtain ⟨b0, b1, b2⟩ := obj_cells3 hT.2.2.1; obtain ⟨m0, m1, _, _⟩ := obj_cells hT.2.2.2.1; obtain ⟨n0, n1, _, _⟩ := obj_cells hT.2.2.2.2.1; obtain ⟨xb, hxb, q0, q1⟩ := HPT.out _ _ hT.2.2.2.2.2.2.2.2.2.1; injection hxb with hxb; subst hxb; clear hT); go_simp; try (with_reducible rfl))
  try simp only [puts]
  refine gv 24 (v := ?_) (fun u hu => ?_) hS ?_
  rotate_left
  · ((have hT := HWF.out.below hu; obtain ⟨a0, a1, a2⟩ := obj_cells3 hT.2.1; obtain ⟨b0, b1, b2⟩ := obj_cells3 hT.2.2.1; obtain ⟨m0, m1, _, _⟩ := obj_cells hT.2.2.2.1; obtain ⟨n0, n1, _, _⟩ := obj_cells hT.2.2.2.2.1; obtain ⟨xb, hxb, q0, q1⟩ := HPT.out _ _ hT.2.2.2.2.2.2.2.2.2.1; injection hxb with hxb; subst hxb; clear hT); go_simp; try (with_reducible rfl))
  try simp only [puts]
  refine gv 25 (v := ?_) (fun u hu => ?_) hS ?_
  rotate_left
  · ((have hT := HWF.out.below hu; obtain ⟨a0, a1, a2⟩ := obj_cells3 hT.2.1; obtain ⟨b0, b1, b2⟩ := obj_cells3 hT.2.2.1; obtain ⟨m0, m1, _, _⟩ := obj_cells hT.2.2.2.1; obtain ⟨n0, n1, _, _⟩ := obj_cells hT.2.2.2.2.1; obtain ⟨xb, hxb, q0, q1⟩ := HPT.out _ _ hT.2.2.2.2.2.2.2.2.2.1; injection hxb with hxb; subst hxb; clear hT); go_simp; try (with_reducible rfl))
  try simp only [puts]
  refine gv 26 (v := ?_) (fun u hu => ?_) hS ?_
  rotate_left
  · ((have hT := HWF.out.below hu; obtain ⟨a0, a1, a2⟩ := obj_cells3 hT.2.1; obtain ⟨b0, b1, b2⟩ := obj_cells3 hT.2.2.1; obtain ⟨m0, m1, _, _⟩ := obj_cells hT.2.2.2.1; obtain ⟨n0, n1, _, _⟩ := obj_cells hT.2.2.2.2.1; obtain ⟨xb, hxb, q0, q1⟩ := HPT.out _ _ hT.2.2.2.2.2.2.2.2.2.1; injection hxb with hxb; subst hxb; clear hT); go_simp; try (with_reducible rfl))
  try simp only [puts]
  refine gv 27 (v := ?_) (fun u hu => ?_) hS ?_
  rotate_left
  · ((have hT := HWF.out.below hu; obtain ⟨a0, a1, a2⟩ := obj_cells3 hT.2.1; obtain ⟨b0, b1, b2⟩ := obj_cells3 hT.2.2.1; obtain ⟨m0, m1, _, _⟩ := obj_cells hT.2.2.2.1; obtain ⟨n0, n1, _, _⟩ := obj_cells hT.2.2.2.2.1; obtain ⟨xb, hxb, q0, q1⟩ := HPT.out _ _ hT.2.2.2.2.2.2.2.2.2.1; injection hxb with hxb; subst hxb; clear hT); go_simp; try (with_reducible rfl))
  try simp only [puts]
  refine gv 28 (v := ?_) (fun u hu => ?_) hS ?_
  rotate_left
  · ((have hT := HWF.out.below hu; obtain ⟨a0, a1, a2⟩ := obj_cells3 hT.2.1; obtain ⟨b0, b1, b2⟩ := obj_cells3 hT.2.2.1; obtain ⟨m0, m1, _, _⟩ := obj_cells hT.2.2.2.1; obtain ⟨n0, n1, _, _⟩ := obj_cells hT.2.2.2.2.1; obtain ⟨xb, hxb, q0, q1⟩ := HPT.out _ _ hT.2.2.2.2.2.2.2.2.2.1; injection hxb with hxb; subst hxb; clear hT); go_simp; try (with_reducible rfl))
  try simp only [puts]
  refine gv 29 (v := ?_) (fun u hu => ?_) hS ?_
  rotate_left
  · ((have hT := HWF.out.below hu; obtain ⟨a0, a1, a2⟩ := obj_cells3 hT.2.1; obtain ⟨b0, b1, b2⟩ := obj_cells3 hT.2.2.1; obtain ⟨m0, m1, _, _⟩ := obj_cells hT.2.2.2.1; obtain ⟨n0, n1, _, _⟩ := obj_cells hT.2.2.2.2.1; obtain ⟨xb, hxb, q0, q1⟩ := HPT.out _ _ hT.2.2.2.2.2.2.2.2.2.1; injection hxb with hxb; subst hxb; clear hT); go_simp; try (with_reducible rfl))
  try simp only [puts]
  refine gv 30 (v := ?_) (fun u hu => ?_) hS ?_
  rotate_left
  · ((have hT := HWF.out.below hu; obtain ⟨a0, a1, a2⟩ := obj_cells3 hT.2.1; obtain ⟨b0, b1, b2⟩ := obj_cells3 hT.2.2.1; obtain ⟨m0, m1, _, _⟩ := obj_cells hT.2.2.2.1; obtain ⟨n0, n1, _, _⟩ := obj_cells hT.2.2.2.2.1; obtain ⟨xb, hxb, q0, q1⟩ := HPT.out _ _ hT.2.2.2.2.2.2.2.2.2.1; injection hxb with hxb; subst hxb; clear hT); go_simp; try (with_reducible rfl))
  try simp only [puts]
  refine gv 31 (v := ?_) (fun u hu => ?_) hS ?_
  rotate_left
  · ((have hT := HWF.out.below hu; obtain ⟨a0, a1, a2⟩ := obj_cells3 hT.2.1; obtain ⟨b0, b1, b2⟩ := obj_cells3 hT.2.2.1; obtain ⟨m0, m1, _, _⟩ := obj_cells hT.2.2.2.1; obtain ⟨n0, n1, _, _⟩ := obj_cells hT.2.2.2.2.1; obtain ⟨xb, hxb, q0, q1⟩ := HPT.out _ _ hT.2.2.2.2.2.2.2.2.2.1; injection hxb with hxb; subst hxb; clear hT); go_simp; try (with_reducible rfl))
  try simp only [puts]
  refine gv 32 (v := ?_) (fun u hu => ?_) hS ?_
  rotate_left
  · ((have hT := HWF.out.below hu; obtain ⟨a0, a1, a2⟩ := obj_cells3 hT.2.1; obtain ⟨b0, b1, b2⟩ := obj_cells3 hT.2.2.1; obtain ⟨m0, m1, _, _⟩ := obj_cells hT.2.2.2.1; obtain ⟨n0, n1, _, _⟩ := obj_cells hT.2.2.2.2.1; obtain ⟨xb, hxb, q0, q1⟩ := HPT.out _ _ hT.2.2.2.2.2.2.2.2.2.1; injection hxb with hxb; subst hxb; clear hT); go_simp; try (with_reducible rfl))
  try simp only [puts]
  refine gv 33 (v := ?_) (fun u hu => ?_) hS ?_
  rotate_left
  · ((have hT := HWF.out.below hu; obtain ⟨a0, a1, a2⟩ := obj_cells3 hT.2.1; obtain ⟨b0, b1, b2⟩ := obj_cells3 hT.2.2.1; obtain ⟨m0, m1, _, _⟩ := obj_cells hT.2.2.2.1; obtain ⟨n0, n1, _, _⟩ := obj_cells hT.2.2.2.2.1; obtain ⟨xb, hxb, q0, q1⟩ := HPT.out _ _ hT.2.2.2.2.2.2.2.2.2.1; injection hxb with hxb; subst hxb; clear hT); go_simp; try (with_reducible rfl))
  try simp only [puts]
  refine gv 34 (v := ?_) (fun u hu => ?_) hS ?_
  rotate_left
  · ((have hT := HWF.out.below hu; obtain ⟨a0, a1, a2⟩ := obj_cells3 hT.2.1; obtain ⟨b0, b1, b2⟩ := obj_cells3 hT.2.2.1; obtain ⟨m0, m1, _, _⟩ := obj_cells hT.2.2.2.1; obtain ⟨n0, n1, _, _⟩ := obj_cells hT.2.2.2.2.1; obtain ⟨xb, hxb, q0, q1⟩ := HPT.out _ _ hT.2.2.2.2.2.2.2.2.2.1; injection hxb with hxb; subst hxb; clear hT); go_simp; try (with_reducible rfl))
  try simp only [puts]
  refine gv 35 (v := ?_) (fun u hu => ?_) hS ?_
  rotate_left
  · ((have hT := HWF.out.below hu; obtain ⟨a0, a1, a2⟩ := obj_cells3 hT.2.1; obtain ⟨b0, b1, b2⟩ := obj_cells3 hT.2.2.1; obtain ⟨m0, m1, _, _⟩ := obj_cells hT.2.2.2.1; obtain ⟨n0, n1, _, _⟩ := obj_cells hT.2.2.2.2.1; obtain ⟨xb, hxb, q0, q1⟩ := HPT.out _ _ hT.2.2.2.2.2.2.2.2.2.1; injection hxb with hxb; subst hxb; clear hT); go_simp; try (with_reducible rfl))
  try simp only [puts]
  refine gv 36 (v := ?_) (fun u hu => ?_) hS ?_
  rotate_left
  · ((have hT := HWF.out.below hu; obtain ⟨a0, a1, a2⟩ := obj_cells3 hT.2.1; obtain ⟨b0, b1, b2⟩ := obj_cells3 hT.2.2.1; obtain ⟨m0, m1, _, _⟩ := obj_cells hT.2.2.2.1; obtain ⟨n0, n1, _, _⟩ := obj_cells hT.2.2.2.2.1; obtain ⟨xb, hxb, q0, q1⟩ := HPT.out _ _ hT.2.2.2.2.2.2.2.2.2.1; injection hxb with hxb; subst hxb; clear hT); go_simp; try (with_reducible rfl))
  try simp only [puts]
  refine gv 37 (v := ?_) (fun u hu => ?_) hS ?_
  rotate_left
  · ((have hT := HWF.out.below hu; obtain ⟨a0, a1, a2⟩ := obj_cells3 hT.2.1; obtain ⟨b0, b1, b2⟩ := obj_cells3 hT.2.2.1; obtain ⟨m0, m1, _, _⟩ := obj_cells hT.2.2.2.1; obtain ⟨n0, n1, _, _⟩ := obj_cells hT.2.2.2.2.1; obtain ⟨xb, hxb, q0, q1⟩ := HPT.out _ _ hT.2.2.2.2.2.2.2.2.2.1; injection hxb with hxb; subst hxb; clear hT); go_simp; try (with_reducible rfl))
  try simp only [puts]
  refine gv 38 (v := ?_) (fun u hu => ?_) hS ?_
  rotate_left
  · ((have hT := HWF.out.below hu; obtain ⟨a0, a1, a2⟩ := obj_cells3 hT.2.1; obtain ⟨b0, b1, b2⟩ := obj_cells3 hT.2.2.1; obtain ⟨m0, m1, _, _⟩ := obj_cells hT.2.2.2.1; obtain ⟨n0, n1, _, _⟩ := obj_cells hT.2.2.2.2.1; obtain ⟨xb, hxb, q0, q1⟩ := HPT.out _ _ hT.2.2.2.2.2.2.2.2.2.1; injection hxb with hxb; subst hxb; clear hT); go_simp; try (with_reducible rfl))
  try simp only [puts]
  refine wpAnyH_done (by kernel_rfl) (NoPanic.normal ?_) _
  go_wp2
  go_ret
  exact ⟨rfl, hbt HWF.out.1.1 hS⟩

set_option maxRecDepth 100000 in
set_option maxHeartbeats 6400000 in
theorem ilgreat_any (X : Option Addr) (cM : Nat) (M : List PairT) (Y : Option Addr) (cR : Nat) (R : List Ru) (st v : Int) (A : Option Addr) (la ca : Nat) (st' v' : Int) (A' : Option Addr) (lb cb : Nat) (w : World) (hM : Prs w X M) (hR : Rls w Y R) (hn : M.length ≤ maxLen) (hm : R.length ≤ maxLen) (hf : Fit2 M) (hf3 : Fit3 R) (hla : la ≤ maxLen) (hlb : lb ≤ maxLen) :
    Calls Tryd.prog 8 #[.agg #[.slice X M.length cM, .slice Y R.length cR], .agg #[.int .i64 st, .int .i64 v, .slice A la ca, .int .i64 st', .int .i64 v', .slice A' lb cb]] w fun e w' => e = .returned (.bool (xgreatB M R || decide (200 < la) || decide (200 < lb))) ∧ Below w.heap.size w w' := by
  have HG := Lib.hid (fun W h1 h2 => xgreat_any X cM M Y cR R W h1 h2 hn hm hf hf3)
  have HQ0 := Lib.hid (lq_new w X M.length cM Y R.length cR st v A la ca st' v' A' lb cb)
  have HM := Lib.hid (hM.below HQ0.out.1)
  have HR := Lib.hid (hR.below HQ0.out.1)
  unfold maxLen at hla hlb
  generalize xgreatB M R = gr at *
  generalize M.length = n at *
  generalize R.length = m at *
  clear hM hR hn hm hf hf3
  cases gr
  · by_cases h1 : 200 < la
    · have t1 : decide ((200 : Int) < (la : Int)) = true := by simp; omega
      have HE : (false || decide (200 < la) || decide (200 < lb)) = true := by simp [h1]
      rw [HE]
      clear h1 HE
      go_enter Tryd.func8, Tryd.ntmps8
      go_wp2_with fail
      generalize (w.alloc (.cells #[.slice X n cM, .slice Y m cR] 25)).alloc (.cells #[.int .i64 st, .int .i64 v, .slice A la ca, .int .i64 st', .int .i64 v', .slice A' lb cb] 29) = U at *
      refine (HG.out _ HM.out HR.out).mono ?_
      rintro e w1 ⟨rfl, hb1⟩
      have HQ1 := Lib.hid (HQ0.out.below hb1)
      clear hb1 HQ0
      obtain ⟨_, a0, a1, a2, b0, b1, b2⟩ := HQ1.out.cells
      go_wp2
      go_ret
      exact ⟨rfl, HQ1.out.1⟩
    · have t1 : decide ((200 : Int) < (la : Int)) = false := by simp; omega
      have HE : (false || decide (200 < la) || decide (200 < lb)) = decide ((200 : Int) < (lb : Int)) := by rw [decide_eq_false h1, Bool.false_or, Bool.false_or]; exact decide_eq_decide.2 ⟨fun h => by omega, fun h => by omega⟩
      rw [HE]
      clear h1 HE
      generalize hq : decide ((200 : Int) < (lb : Int)) = q at *
      go_enter Tryd.func8, Tryd.ntmps8
      go_wp2_with fail
      generalize (w.alloc (.cells #[.slice X n cM, .slice Y m cR] 25)).alloc (.cells #[.int .i64 st, .int .i64 v, .slice A la ca, .int .i64 st', .int .i64 v', .slice A' lb cb] 29) = U at *
      refine (HG.out _ HM.out HR.out).mono ?_
      rintro e w1 ⟨rfl, hb1⟩
      have HQ1 := Lib.hid (HQ0.out.below hb1)
      clear hb1 HQ0
      obtain ⟨_, a0, a1, a2, b0, b1, b2⟩ := HQ1.out.cells
      go_wp2
      go_ret
      exact ⟨rfl, HQ1.out.1⟩
  · go_enter Tryd.func8, Tryd.ntmps8
    go_wp2_with fail
    generalize (w.alloc (.cells #[.slice X n cM, .slice Y m cR] 25)).alloc (.cells #[.int .i64 st, .int .i64 v, .slice A la ca, .int .i64 st', .int .i64 v', .slice A' lb cb] 29) = U at *
    refine (HG.out _ HM.out HR.out).mono ?_
    rintro e w1 ⟨rfl, hb1⟩
    have HQ1 := Lib.hid (HQ0.out.below hb1)
    clear hb1 HQ0
    go_wp2
    go_ret
    exact ⟨rfl, HQ1.out.1⟩

end Go.Proofs.YtbhlennolghjmaaDoor
