/-
  The law InvertSchemas: for every set of fields and every message, in every world where the table of kinds and both dialects' tables read as they are laid.
-/
import Derived.Test.YtbhlennolghjmaaDoorInvLq
import Derived.Test.YtbhlennolghjmaaDoorXltLm
import Derived.Test.YtbhlennolghjmaaDoorXltTra
import Derived.Test.YtbhlennolghjmaaDoorPackMsg
import Derived.Test.YtbhlennolghjmaaDoorPackRul
import Derived.Test.YtbhlennolghjmaaDoorPackDia
import Derived.Test.YtbhlennolghjmaaDoorPackSch
import Derived.Test.YtbhlennolghjmaaDoorPackFld
namespace Go.Proofs.YtbhlennolghjmaaDoor
open Go.RowKit

/-- The rules of the fields of a set, and where they stand. -/
def setR (h lw : Nat) : List Ru := losR.filter fun r => hasN h lw r.2.1
def setB (h lw q : Nat) : List RuB := (losB.take q).filter fun x => hasN h lw x.1.2.1
theorem setB_fst (h lw : Nat) : (setB h lw 21).map Prod.fst = setR h lw := by
  unfold setB setR
  rw [List.take_of_length_le (by rw [losB_len]; exact Nat.le_refl _)]
  unfold losB
  rw [List.filter_map, List.map_map]
  exact List.map_id _
theorem setB_step {h lw q : Nat} (hq : q < 21) : setB h lw (q + 1) = if hasN h lw (losL.getD q 0) then setB h lw q ++ [((if losL.getD q 0 = 12 then 4 else 1, losL.getD q 0, losL.getD q 0, ⟨#[]⟩, []), none, 0)] else setB h lw q := by
  unfold setB
  rw [losB_step hq, List.filter_append]
  cases hh : hasN h lw (losL.getD q 0)
  · rw [List.filter_cons_of_neg (by show ¬ hasN h lw (losL.getD q 0) = true; rw [hh]; decide)]; simp
  · rw [List.filter_cons_of_pos (by show hasN h lw (losL.getD q 0) = true; exact hh)]; simp
/-- A rule's cells, in every world behind. -/
theorem losB_cells {w : World} {base c : Nat} {Y : Option Addr} (h : w.ownsRow base 53 5 (.slice Y 21 c) 21 (rubsC losB)) {q : Nat} (hq : q < 21) : ∃ a, Y = some a ∧ ∀ u, Below w.heap.size w u →
    u.cell? (a.add (q * 5)) = some (.int .i64 (if losL.getD q 0 = 12 then 4 else 1)) ∧ u.cell? ⟨(a.add (q * 5)).block, (a.add (q * 5)).off + 1, none⟩ = some (.int .i64 (losL.getD q 0)) ∧ u.cell? ⟨(a.add (q * 5)).block, (a.add (q * 5)).off + 2, none⟩ = some (.int .i64 (losL.getD q 0)) ∧
    u.cell? ⟨(a.add (q * 5)).block, (a.add (q * 5)).off + 3, none⟩ = some (.string ⟨#[]⟩) ∧ u.cell? ⟨(a.add (q * 5)).block, (a.add (q * 5)).off + 4, none⟩ = some (.slice none 0 0) := by
  rcases h.2 with ⟨_, h0⟩ | ⟨g, cap, cur, hv, _⟩
  · omega
  · injection hv with h1 h2 h3
    subst h1
    subst h3
    have h2 : q < losB.length := by rw [losB_len]; exact hq
    have e1 : (⟨g, 0, none⟩ : Addr).add (q * 5) = ⟨g, q * 5, none⟩ := by rw [Addr.add_lit, Nat.zero_add]
    obtain ⟨c0, c1, c2, c3, c4⟩ := rubsC_at losB q h2
    have hx : rubAt losB q = ((if losL.getD q 0 = 12 then 4 else 1, losL.getD q 0, losL.getD q 0, ⟨#[]⟩, []), none, 0) := by
      have e : losB[q]'h2 = (losR[q]'(by rw [los_len.1]; exact hq), none, 0) := by simp [losB]
      rw [rubAt_get h2, e, ← ruAt_get, los_at hq]
    rw [hx] at c0 c1 c2 c3 c4
    refine ⟨_, rfl, fun u hu => ?_⟩
    rw [e1]
    have k0 := (h.cellAt (q * 5) (by omega)).trans c0
    have k1 := (h.cellAt (q * 5 + 1) (by omega)).trans c1
    have k2 := (h.cellAt (q * 5 + 2) (by omega)).trans c2
    have k3 := (h.cellAt (q * 5 + 3) (by omega)).trans c3
    have k4 := (h.cellAt (q * 5 + 4) (by omega)).trans c4
    exact ⟨(hu.cell (block_lt_of_cell k0)).trans k0, (hu.cell (block_lt_of_cell k1)).trans k1, (hu.cell (block_lt_of_cell k2)).trans k2, (hu.cell (block_lt_of_cell k3)).trans k3, (hu.cell (block_lt_of_cell k4)).trans k4⟩
theorem setB_len (h lw q : Nat) (hq : q ≤ 21) : (setB h lw q).length ≤ q := by
  unfold setB
  refine Nat.le_trans (List.length_filter_le _ _) ?_
  rw [List.length_take, losB_len]
  omega
theorem setB_nop (h lw q : Nat) : NoP (setB h lw q) := fun y hy => losB_nop y (List.mem_of_mem_take (List.mem_filter.1 hy).1)
theorem setR_none (h lw : Nat) : ∀ r ∈ setR h lw, r.2.2.2.1 = ⟨#[]⟩ ∧ r.2.2.2.2 = [] := fun r hr => los_none r (List.mem_filter.1 hr).1
theorem setR_len (h lw : Nat) : (setR h lw).length ≤ 21 := Nat.le_trans (List.length_filter_le _ _) (by rw [los_len.1]; exact Nat.le_refl _)
theorem iss_keep : keepL (ofH (nosOf issL)) (ofL (nosOf issL)) issL = issL := by
  unfold keepL
  rw [List.filter_eq_self]
  decide +kernel

/-- What stands in the blocks: the message, both schemas, the map. -/
def ISt (w : World) (m : ByteArray) (B : Option Addr) (lx cx : Nat) (g : Nat) (A : Option Addr) (A' : Option Addr) (g9 : Nat) (X Y : Option Addr) (n c : Nat) (R : List Ru) (u : World) : Prop :=
  (Below w.heap.size w u ∧ MBox u w.heap.size m B lx cx) ∧ Box u g 1 0 A 28 28 ∧ Box u (g + 1) 2 1 A' 26 26 ∧ MpBox u g9 X 2 2 Y n c ∧ Spl u A acqL ∧ Spl u A' issL ∧ Prs u X losM ∧ Rls u Y R
theorem ISt.below {w : World} {m : ByteArray} {B : Option Addr} {lx cx g : Nat} {A A' : Option Addr} {g9 : Nat} {X Y : Option Addr} {n c : Nat} {R : List Ru} {u u' : World} (h : ISt w m B lx cx g A A' g9 X Y n c R u) (hb : Below u.heap.size u u') : ISt w m B lx cx g A A' g9 X Y n c R u' := by
  obtain ⟨⟨h1, h2⟩, h3, h4, h5, h6, h7, h8, h9⟩ := h
  exact ⟨⟨hbt h1 hb, h2.below hb⟩, h3.below hb, h4.below hb, h5.below hb, h6.below hb, h7.below hb, h8.below hb, h9.below hb⟩

set_option maxRecDepth 100000 in
set_option maxHeartbeats 25600000 in
theorem ischemas_row (z1 z2 : Int) (m : ByteArray) (B : Option Addr) (cx : Nat) (l : List Item) (w : World) (hK : Kinds w) (hT : Tabs w) (hz1 : 0 ≤ z1) (hz2 : z1 ≤ 18446744073709551615) (hz3 : 0 ≤ z2) (hz4 : z2 ≤ 18446744073709551615) (_ : m.size ≤ maxLen) (hI : Tlvs w B l) (_ : l.length ≤ maxLen) (hs : ∀ x ∈ l, x.2.size ≤ maxLen) :
    Calls Tryd.prog 6 #[.int .u64 z1, .int .u64 z2, .agg #[.string m, .slice B l.length cx]] w fun e w' => e = .returned (.bool true) ∧ Below w.heap.size w w' := by
  obtain ⟨h, rfl⟩ := Int.eq_ofNat_of_zero_le hz1
  obtain ⟨lw, rfl⟩ := Int.eq_ofNat_of_zero_le hz3
  have hh : h < M64 := by unfold M64; omega
  have hlw : lw < M64 := by unfold M64; omega
  clear hz1 hz2 hz3 hz4
  obtain ⟨i0, hi, hz0, hz1, hz2⟩ := info_parts Tryd.infoRule
  have HAW := Lib.hid (fun W h => iawake_any W h)
  have HGM := Lib.hid (fun W h => mgreat_any m B cx l W h hs)
  have HB0 := Lib.hid (below_al w (.cells #[.string m, .slice B l.length cx] 41))
  have HX0 : Hid (MBox (w.alloc (.cells #[.string m, .slice B l.length cx] 41)) w.heap.size m B l.length cx) := heap_alloc_new _ _
  have HK := Lib.hid hK
  have HT := Lib.hid hT
  have HI := Lib.hid hI
  cases hgm : greatM m l
  · rw [hgm] at HGM
    have hl2 := (great_in hgm).2.1
    have HL0 := Lib.hid (fun W => lossless_any W)
    have HHS := Lib.hid (fun k W => refHas_any h lw k W hh hlw)
    have HST0 := Lib.hid (fun q hq => setB_step (h := h) (lw := lw) (q := q) hq)
    have HLN := Lib.hid (setB_len h lw)
    have HNP := Lib.hid (setB_nop h lw)
    have HFS := Lib.hid (setB_fst h lw)
    have hrl := setR_len h lw
    have hrn := setR_none h lw
    have hinv : invB 1 0 acqL 2 1 issL losM (setR h lw) = true := los_inv _
    have hf4 := fit_none hrn
    have HIC : Hid (∀ X Y c A ca A' cb W, Kinds W → Prs W X losM → Rls W Y (setR h lw) → Spl W A acqL → Spl W A' issL → Calls Tryd.prog 9 #[.agg #[.slice X 2 2, .slice Y (setR h lw).length c], .agg #[.int .i64 1, .int .i64 0, .slice A 28 ca], .agg #[.int .i64 2, .int .i64 1, .slice A' 26 cb]] W fun e w' => e = .returned (.bool true) ∧ Below W.heap.size W w') := fun X Y c A ca A' cb W k0 k1 k2 k3 k4 => by
      have := icheck_any rchk_any X 2 losM Y c (setR h lw) 1 0 A ca acqL 2 1 A' cb issL W k0 k1 k2 k3 k4 (by decide) (by decide) (by rw [los_len.2.1]; unfold maxLen; omega) (by rw [los_len.2.1]; omega) los_fit (by unfold maxLen; omega) hf4
      rw [hinv, los_len.2.1, dia_lens.1, dia_lens.2] at this
      exact this
    have HTR : Hid (∀ X Y c A ca A' cb W, Kinds W → Prs W X losM → Rls W Y (setR h lw) → Spl W A acqL → Spl W A' issL → Tlvs W B l → Calls Tryd.prog 18 #[.agg #[.slice X 2 2, .slice Y (setR h lw).length c], .agg #[.int .i64 1, .int .i64 0, .slice A 28 ca], .agg #[.int .i64 2, .int .i64 1, .slice A' 26 cb], .agg #[.string m, .slice B l.length cx]] W fun e w' => DecTo (xltT 1 0 acqL 2 1 issL losM (setR h lw) m l) W w' e) := fun X Y c A ca A' cb W k0 k1 k2 k3 k4 k5 => by
      have := xtrans_any rchk_any rapp_any X 2 losM Y c (setR h lw) 1 0 A ca acqL 2 1 A' cb issL m B cx l W k0 k1 k2 k3 k4 k5 (by decide) (by decide) (by rw [los_len.2.1]; unfold maxLen; omega) (by rw [los_len.2.1]; omega) (by unfold maxLen; omega) hf4 (by omega) hs
      rw [los_len.2.1, dia_lens.1, dia_lens.2] at this
      exact this
    have HTN : Hid (∀ X Y c W, Prs W X losM → Rls W Y (setR h lw) → Calls Tryd.prog 14 #[.agg #[.slice X 2 2, .slice Y (setR h lw).length c]] W fun e w' => ∃ x, e = .returned x ∧ ∃ (A : Option Addr × Option Addr) (c : Nat × Nat), x = .agg #[.slice A.1 2 c.1, .slice A.2 (setR h lw).length c.2] ∧ MpAt (turnL losM) (turnRs (setR h lw)) A c w' ∧ Below W.heap.size W w') := fun X Y c W k1 k2 => by
      have := turn_some (turn_len losM) (iturn_any X 2 losM Y c (setR h lw) W k1 k2 (by rw [los_len.2.1]; omega) (by omega) (fun r hr => (hf4 r hr).2.1))
      rw [los_len.2.1] at this
      exact this
    have hTL : (xltT 1 0 acqL 2 1 issL losM (setR h lw) m l).2.1.length ≤ 128 ∧ ∀ y ∈ (xltT 1 0 acqL 2 1 issL losM (setR h lw) m l).2.1, y.2.size ≤ maxLen := by
      rcases xt_cases (st := 1) (v := 0) (a := acqL) (st' := 2) (v' := 1) (b := issL) (M := losM) (R := setR h lw) (m := m) (l := l) with ⟨k, _, hT⟩ | ⟨h1, h2, h3, h4⟩
      · rw [hT]; exact ⟨Nat.zero_le _, fun y hy => by simp at hy⟩
      · rw [xt_ok h1 h2 h3 h4]; exact ⟨xsort_length (xlt_valid h1 (msgN_told h2) h3 h4), xmade_sizes hf4 hs⟩
    have HE0 : Hid ((xltT 1 0 acqL 2 1 issL losM (setR h lw) m l).2.2.1 = 0 → (xltT 1 0 acqL 2 1 issL losM (setR h lw) m l).2.2.2 = 0) := by
      show _ → _
      rcases xt_cases (st := 1) (v := 0) (a := acqL) (st' := 2) (v' := 1) (b := issL) (M := losM) (R := setR h lw) (m := m) (l := l) with ⟨k, hk, hT⟩ | ⟨h1, h2, h3, h4⟩
      · rw [hT]; exact fun e => absurd e hk
      · rw [xt_ok h1 h2 h3 h4]; exact fun _ => rfl
    have HBK : Hid ((xltT 1 0 acqL 2 1 issL losM (setR h lw) m l).2.2.1 = 0 → xltT 2 1 issL 1 0 acqL (turnL losM) (turnRs (setR h lw)) (xltT 1 0 acqL 2 1 issL losM (setR h lw) m l).1 (xltT 1 0 acqL 2 1 issL losM (setR h lw) m l).2.1 = (m, l, 0, 0)) := by
      show _ → _
      rcases xt_cases (st := 1) (v := 0) (a := acqL) (st' := 2) (v' := 1) (b := issL) (M := losM) (R := setR h lw) (m := m) (l := l) with ⟨k, hk, hT⟩ | ⟨h1, h2, h3, h4⟩
      · rw [hT]; exact fun e => absurd e hk
      · rw [xt_ok h1 h2 h3 h4]; exact fun _ => inv_back hinv (msgN_told h2) h3 h4
    have HTB : Hid (∀ (A1 : Option Addr × Option Addr) (c1 : Nat × Nat) A ca A' cb D cd W, Kinds W → MpAt (turnL losM) (turnRs (setR h lw)) A1 c1 W → Spl W A' issL → Spl W A acqL → Tlvs W D (xltT 1 0 acqL 2 1 issL losM (setR h lw) m l).2.1 → Calls Tryd.prog 18 #[.agg #[.slice A1.1 2 c1.1, .slice A1.2 (setR h lw).length c1.2], .agg #[.int .i64 2, .int .i64 1, .slice A' 26 cb], .agg #[.int .i64 1, .int .i64 0, .slice A 28 ca], .agg #[.string (xltT 1 0 acqL 2 1 issL losM (setR h lw) m l).1, .slice D (xltT 1 0 acqL 2 1 issL losM (setR h lw) m l).2.1.length cd]] W fun e w' => DecTo (xltT 2 1 issL 1 0 acqL (turnL losM) (turnRs (setR h lw)) (xltT 1 0 acqL 2 1 issL losM (setR h lw) m l).1 (xltT 1 0 acqL 2 1 issL losM (setR h lw) m l).2.1) W w' e) := fun A1 c1 A ca A' cb D cd W k0 k1 k2 k3 k4 => by
      have hl : (turnL losM).length = 2 := by rw [turn_len, los_len.2.1]
      have := xtrans_any rchk_any rapp_any A1.1 c1.1 (turnL losM) A1.2 c1.2 (turnRs (setR h lw)) 2 1 A' cb issL 1 0 A ca acqL (xltT 1 0 acqL 2 1 issL losM (setR h lw) m l).1 D cd (xltT 1 0 acqL 2 1 issL losM (setR h lw) m l).2.1 W k0 k1.1 k1.2.2 k2 k3 k4 (by decide) (by decide) (by rw [hl]; unfold maxLen; omega) (by rw [hl]; have := k1.2.1; rw [hl] at this; exact this) (by rw [turnRs_len]; unfold maxLen; omega) (turn_four hf4) (by have := hTL.1; omega) hTL.2
      rw [hl, turnRs_len, dia_lens.1, dia_lens.2] at this
      exact this
    have HSM := Lib.hid (fun E ce W k1 k2 => mrsame_any m B cx l m E ce l W k1 k2 (by omega))
    simp only [sameM_refl] at HSM
    have HSE : Hid (∀ A c W, Spl W A issL → Calls Tryd.prog 25 #[.agg #[.int .i64 2, .int .i64 1, .slice A 26 c]] W fun e w' => e = .returned (setV (ofH (nosOf issL)) (ofL (nosOf issL))) ∧ Below W.heap.size W w') := fun A c W k => sset_any 2 1 A c issL W k (by decide)
    have HRS : Hid (∀ A c W, Spl W A issL → Calls Tryd.prog 24 #[.agg #[.int .i64 2, .int .i64 1, .slice A 26 c], setV (ofH (nosOf issL)) (ofL (nosOf issL))] W fun e w' => ∃ x, e = .returned x ∧ ∃ A' c', x = .agg #[.int .i64 2, .int .i64 1, .slice A' 26 c'] ∧ Spl w' A' issL ∧ Below W.heap.size W w') := fun A c W k => by
      have := schema_some (srestrict_any 2 1 A c issL (ofH (nosOf issL)) (ofL (nosOf issL)) W k (by decide) (of_lt _).1 (of_lt _).2 |>.mono fun e w' he => by rw [iss_keep] at he; exact he)
      rw [dia_lens.2] at this
      exact this
    have HRE : Hid (∀ (u : World) (b n c : Nat) (Y : Option Addr), u.ownsRow b 53 5 (.slice Y n c) n (rubsC (setB h lw 21)) → n = (setB h lw 21).length → Rls u Y (setR h lw)) := fun u b n c Y k k2 => by
      have := rls_own k k2 (nop_prs (setB_nop h lw 21))
      rwa [setB_fst] at this
    have HRN : Hid ((setB h lw 21).length = (setR h lw).length) := by show _ = _; rw [← setB_fst, List.length_map]
    unfold setV at HSE HRS
    generalize ofH (nosOf issL) = sh at *
    generalize ofL (nosOf issL) = sl at *
    generalize hTT : xltT 1 0 acqL 2 1 issL losM (setR h lw) m l = T at *
    clear hTT hTL hinv hf4 hrn
    obtain ⟨t1, TL, e1, e2⟩ := T
    dsimp only at HTR HE0 HBK HTB
    generalize xltT 2 1 issL 1 0 acqL (turnL losM) (turnRs (setR h lw)) t1 TL = T2 at *
    generalize turnRs (setR h lw) = RT at *
    generalize setR h lw = RK at *
    generalize hrk : RK.length = nk at *
    clear hrk
    generalize hlx : l.length = lx at *
    have HLX := Lib.hid hlx
    generalize htn : TL.length = tn at *
    have HTL := Lib.hid htn
    clear htn hlx hK hT hI hs hgm hh hlw hl2
    go_enter Tryd.func6, Tryd.ntmps6
    go_upto_region 1 with fail
    generalize w.alloc (.cells #[.string m, .slice B lx cx] 41) = U at *
    go_wp2_with fail
    refine (HAW.out _ (HK.out.below HB0.out)).mono ?_
    rintro e w1 ⟨rfl, hb1⟩
    have HB1 := Lib.hid (hbt HB0.out hb1)
    have HX1 := Lib.hid (HX0.out.below hb1)
    clear hb1 HB0 HX0
    obtain ⟨x0, x1, _, _⟩ := obj_cells HX1.out
    go_wp2_with fail
    clear x0 x1
    refine (HGM.out _ (HI.out.below HB1.out)).mono ?_
    rintro e w2 ⟨rfl, hb2⟩
    have HB2 := Lib.hid (hbt HB1.out hb2)
    have HX2 := Lib.hid (HX1.out.below hb2)
    clear hb2 HB1 HX1 HGM
    go_wp2_with fail
    refine (acq_any _ (HT.out.below HB2.out)).mono ?_
    rintro e w3 ⟨ga, rfl, _, ha3, hb3⟩
    have HB3 := Lib.hid (hbt HB2.out hb3)
    have HX3 := Lib.hid (HX2.out.below hb3)
    have HA3 := Lib.hid ha3
    clear ha3 hb3 HB2 HX2
    go_wp2_with fail
    refine (iss_any _ (HT.out.below HB3.out)).mono ?_
    rintro e w4 ⟨gi, rfl, _, hi4, hb4⟩
    have hb5 := below_al w4 (.cells #[.int .i64 1, .int .i64 0, .slice (some ⟨ga, 0, none⟩) 28 28] 28)
    have hb6 := below_al (w4.alloc (.cells #[.int .i64 1, .int .i64 0, .slice (some ⟨ga, 0, none⟩) 28 28] 28)) (.cells #[.int .i64 2, .int .i64 1, .slice (some ⟨gi, 0, none⟩) 26 26] 28)
    have HB6 := Lib.hid (hbt HB3.out (hbt hb4 (hbt hb5 hb6)))
    have HX6 := Lib.hid (HX3.out.below (hbt hb4 (hbt hb5 hb6)))
    have HA6 := Lib.hid (obj_below HA3.out (hbt hb4 (hbt hb5 hb6)))
    have HI6 := Lib.hid (obj_below hi4 (hbt hb5 hb6))
    have HS6 : Hid (Box ((w4.alloc (.cells #[.int .i64 1, .int .i64 0, .slice (some ⟨ga, 0, none⟩) 28 28] 28)).alloc (.cells #[.int .i64 2, .int .i64 1, .slice (some ⟨gi, 0, none⟩) 26 26] 28)) w4.heap.size 1 0 (some ⟨ga, 0, none⟩) 28 28) := (box_new _ _ _ _ _ _).below hb6
    have HY6 : Hid (Box ((w4.alloc (.cells #[.int .i64 1, .int .i64 0, .slice (some ⟨ga, 0, none⟩) 28 28] 28)).alloc (.cells #[.int .i64 2, .int .i64 1, .slice (some ⟨gi, 0, none⟩) 26 26] 28)) (w4.heap.size + 1) 2 1 (some ⟨gi, 0, none⟩) 26 26) := heap_al _ _ _ (by simp)
    clear hi4 hb4 hb5 hb6 HB3 HX3 HA3
    go_upto_region 4 with fail
    generalize (w4.alloc (.cells #[.int .i64 1, .int .i64 0, .slice (some ⟨ga, 0, none⟩) 28 28] 28)).alloc (.cells #[.int .i64 2, .int .i64 1, .slice (some ⟨gi, 0, none⟩) 26 26] 28) = W6 at *
    generalize w4.heap.size = g at *
    go_wp2_with fail
    refine (HL0.out _).mono ?_
    rintro e w7 ⟨x, rfl, p, Y, cY, rfl, hl7, hb7⟩
    have hbn := below_al w7 (.cells #[.slice (some ⟨p, 0, none⟩) 2 2, .slice Y 21 cY] 25)
    have HB8 := Lib.hid (hbt HB6.out (hbt hb7 hbn))
    have HX8 := Lib.hid (HX6.out.below (hbt hb7 hbn))
    have HA8 := Lib.hid (obj_below HA6.out (hbt hb7 hbn))
    have HI8 := Lib.hid (obj_below HI6.out (hbt hb7 hbn))
    have HS8 := Lib.hid (HS6.out.below (hbt hb7 hbn))
    have HY8 := Lib.hid (HY6.out.below (hbt hb7 hbn))
    have HL8 := Lib.hid (hl7.below hbn)
    have HM8 : Hid (MpBox (w7.alloc (.cells #[.slice (some ⟨p, 0, none⟩) 2 2, .slice Y 21 cY] 25)) w7.heap.size (some ⟨p, 0, none⟩) 2 2 Y 21 cY) := heap_alloc_new _ _
    have HGX : Hid (w.heap.size < w7.heap.size ∧ ga < w7.heap.size ∧ gi < w7.heap.size ∧ g + 1 < w7.heap.size ∧ p < w7.heap.size) := by
      have h1 := hb7.size
      have h2 := obj_lt HX6.out
      have h3 := obj_lt HA6.out
      have h4 := obj_lt HI6.out
      have h5 := obj_lt HY6.out
      have h6 := obj_lt hl7.2.1
      exact ⟨by omega, by omega, by omega, by omega, h6⟩
    clear hl7 hb7 hbn HB6 HX6 HA6 HI6 HS6 HY6 HL0
    go_upto_region 5 with fail
    generalize w7.alloc (.cells #[.slice (some ⟨p, 0, none⟩) 2 2, .slice Y 21 cY] 25) = W8 at *
    generalize w7.heap.size = g9 at *
    have HG9 := Lib.hid (obj_lt HM8.out)
    obtain ⟨m0, m1, _, _⟩ := obj_cells HM8.out
    go_wp2
    clear m0 m1
    go_loopw [10, 30] (fun s i wr => ∃ q : Nat, q ≤ 21 ∧ i = .int .i64 (q : Int) ∧ wr.ownsRow W8.heap.size 53 5 s (setB h lw q).length (rubsC (setB h lw q)) ∧ Below W8.heap.size W8 wr) (fun _ i _ => 21 - (intOf i).toNat)
    case atStart => exact ⟨0, Nat.zero_le _, rfl, World.ownsRow_nil _ _ _ _, Below.refl _ _⟩
    case round =>
      obtain ⟨q, hq, rfl, hown, hb⟩ := hrel
      obtain ⟨Y1, cp, rfl⟩ := pown_slice hown
      have HO := Lib.hid hown
      have HB := Lib.hid hb
      have hqn := HLN.out q hq
      clear hown hb
      by_cases hlt : q < 21
      · have HST := Lib.hid (HST0.out q hlt)
        obtain ⟨aa, rfl, hcr⟩ := losB_cells HL8.out.2.2 hlt
        generalize losL.getD q 0 = no at *
        generalize (if no = 12 then (4 : Int) else 1) = kd at *
        generalize hbl : (setB h lw q).length = bl at *
        have HBL := Lib.hid hbl
        obtain ⟨c0, c1, c2, c3, c4⟩ := hcr _ HB.out
        have hba := below_al wr (.cells #[.int .i64 kd, .int .i64 no, .int .i64 no, .string ⟨#[]⟩, .slice none 0 0] 53)
        have HB1 := Lib.hid (hbt HB.out hba)
        have HO1 := Lib.hid (sowns_below HO.out hba)
        have HN1 : Hid (RBox (wr.alloc (.cells #[.int .i64 kd, .int .i64 no, .int .i64 no, .string ⟨#[]⟩, .slice none 0 0] 53)) wr.heap.size kd no no ⟨#[]⟩ none 0 0) := heap_alloc_new wr _
        clear hba hcr hbl
        go_upto_region 9 with fail
        clear c0 c1 c2 c3 c4
        generalize wr.alloc (.cells #[.int .i64 kd, .int .i64 no, .int .i64 no, .string ⟨#[]⟩, .slice none 0 0] 53) = W1 at *
        generalize wr.heap.size = g12 at *
        obtain ⟨r0, r1, r2, r3, r4⟩ := obj_cells5 HN1.out
        go_wp2_with fail
        refine (HHS.out no _).mono ?_
        rintro e w10 ⟨rfl, rfl⟩
        generalize hasN h lw no = hb at *
        cases hb
        · have HSU : Hid (setB h lw (q + 1) = setB h lw q) := HST.out
          go_wp2
          go_roundw
          case rel => exact ⟨q + 1, by omega, by go_num, by rw [HSU.out, HBL.out]; exact HO1.out, HB1.out⟩
          case measure => simp [intOf]; omega
        · have HSU : Hid (setB h lw (q + 1) = setB h lw q ++ [((kd, no, no, ⟨#[]⟩, []), none, 0)]) := HST.out
          have hba := below_al W1 (.cells #[.int .i64 kd, .int .i64 no, .int .i64 no, .string ⟨#[]⟩, .slice none 0 0] 53)
          have HB2 := Lib.hid (hbt HB1.out hba)
          have HO2 := Lib.hid (HO1.out.alloc (.cells #[.int .i64 kd, .int .i64 no, .int .i64 no, .string ⟨#[]⟩, .slice none 0 0] 53))
          have HN2 := Lib.hid (heap_alloc_new W1 (.cells #[.int .i64 kd, .int .i64 no, .int .i64 no, .string ⟨#[]⟩, .slice none 0 0] 53))
          have HZ2 := Lib.hid HB2.out.size
          clear hba
          go_wp2_with (at_builtin; refine wpList_append_lies _ rfl _ _ _ rfl W8.heap.size 53 i0 _ 5 64 Tryd.underlying23 hi hz0 hz1 hz2 rfl (by omega) (.slice Y1 bl cp) bl (rubsC (setB h lw q)) rfl HO2.out ⟨W1.heap.size, 0, none⟩ 1 1 (rubC ((kd, no, no, ⟨#[]⟩, []), none, 0)) rfl rfl (World.news_of_block (cs := #[.int .i64 kd, .int .i64 no, .int .i64 no, .string ⟨#[]⟩, .slice none 0 0]) (t := 53) (fr := (0, 0)) HN2.out) (by simp [rubC, Value.oneCell']) (by omega) (by unfold maxLen; omega) (by omega) HZ2.out (W1.heap.size + 1) (by simp) ?_; intro g' cap' w4 hown4 hgrow4 hat4 hlt4; have HO4 := Lib.hid hown4; have HB4 := Lib.hid (HB2.out.grown hgrow4 HZ2.out (fun q hq => (HO2.out.lt q hq).1)); clear hown4 hgrow4 hat4 hlt4)
          go_roundw
          case rel => exact ⟨q + 1, by omega, by go_num, by rw [HSU.out, List.length_append, HBL.out, rubsC_snoc]; exact HO4.out, HB4.out⟩
          case measure => simp [intOf]; omega
      · have hqe : q = 21 := by omega
        subst hqe
        rw [HRN.out] at HO ⊢
        have HR9 := Lib.hid (HRE.out _ _ _ _ _ HO.out HRN.out.symm)
        have HM9 := Lib.hid (HM8.out.below HB.out)
        obtain ⟨j0, j1, f0, f1⟩ := obj_cells HM9.out
        go_upto_region 13 with fail
        clear j0 j1 f0 f1
        have HKX : Hid (KeepX W8 g9 (wr.setCell ⟨g9, 1, none⟩ (.slice Y1 nk cp))) := ⟨by have := HB.out.size; simp; omega, fun b h1 h2 => (heap_setCell_other _ _ _ _ h2).trans (HB.out.block b h1)⟩
        have HBW : Hid (Below w.heap.size w (wr.setCell ⟨g9, 1, none⟩ (.slice Y1 nk cp))) := (hbt HB8.out HB.out).setCell (p := ⟨g9, 1, none⟩) (show w.heap.size ≤ g9 by have := HGX.out; omega) _
        have HQ9 : Hid (ISt w m B lx cx g (some ⟨ga, 0, none⟩) (some ⟨gi, 0, none⟩) g9 (some ⟨p, 0, none⟩) Y1 nk cp RK (wr.setCell ⟨g9, 1, none⟩ (.slice Y1 nk cp))) := by
          obtain ⟨q1, q2, q3, q4, q5⟩ := HGX.out
          refine ⟨⟨HBW.out, HKX.out.obj HX8.out (by omega)⟩, HKX.out.obj HS8.out (by omega), HKX.out.obj HY8.out (by omega), heap_setCell_same _ g9 1 _ _ _ HM9.out, spl_row (HKX.out.obj HA8.out (by omega)) rfl, spl_row (HKX.out.obj HI8.out (by omega)) rfl, los_pair (HKX.out.obj HL8.out.2.1 (by omega)), ?_⟩
          have hO := sowns_set1 HO.out HG9.out 1 (.slice Y1 nk cp)
          exact HRE.out _ _ _ _ _ hO HRN.out.symm
        clear HKX HBW HR9 HM9 HO HB HB8 HX8 HA8 HI8 HS8 HY8 HL8 HM8 HGX HG9 HRE HRN HLN HST0 HNP HFS HHS hqn
        generalize wr.setCell ⟨g9, 1, none⟩ (.slice Y1 nk cp) = W9 at *
        obtain ⟨a0, a1, a2⟩ := obj_cells3 HQ9.out.2.1
        obtain ⟨b0, b1, b2⟩ := obj_cells3 HQ9.out.2.2.1
        obtain ⟨m0, m1, _, _⟩ := obj_cells HQ9.out.2.2.2.1
        go_wp2_with fail
        clear m0 m1 a0 a1 a2 b0 b1 b2
        refine (HIC.out _ _ _ _ _ _ _ _ (HK.out.below HQ9.out.1.1) HQ9.out.2.2.2.2.2.2.1 HQ9.out.2.2.2.2.2.2.2 HQ9.out.2.2.2.2.1 HQ9.out.2.2.2.2.2.1).mono ?_
        rintro e w10 ⟨rfl, hb10⟩
        have HQ10 := Lib.hid (HQ9.out.below hb10)
        clear hb10 HQ9 HIC
        obtain ⟨a0, a1, a2⟩ := obj_cells3 HQ10.out.2.1
        obtain ⟨b0, b1, b2⟩ := obj_cells3 HQ10.out.2.2.1
        obtain ⟨m0, m1, _, _⟩ := obj_cells HQ10.out.2.2.2.1
        obtain ⟨x0, x1, _, _⟩ := obj_cells HQ10.out.1.2
        go_wp2_with fail
        clear m0 m1 a0 a1 a2 b0 b1 b2 x0 x1
        refine (HTR.out _ _ _ _ _ _ _ _ (HK.out.below HQ10.out.1.1) HQ10.out.2.2.2.2.2.2.1 HQ10.out.2.2.2.2.2.2.2 HQ10.out.2.2.2.2.1 HQ10.out.2.2.2.2.2.1 (HI.out.below HQ10.out.1.1)).mono ?_
        rintro e w5 ⟨D, cd, rfl, htd, hb5⟩
        dsimp only at htd ⊢
        rw [HTL.out]
        have hbm := below_al w5 (.cells #[.string t1, .slice D tn cd] 41)
        have hbf := below_al (w5.alloc (.cells #[.string t1, .slice D tn cd] 41)) (.cells #[.int .i64 e1, .int .i64 e2] 44)
        have HQ6 := Lib.hid (HQ10.out.below (hbt hb5 (hbt hbm hbf)))
        have HD6 := Lib.hid (htd.below (hbt hbm hbf))
        have HM6 : Hid (MBox ((w5.alloc (.cells #[.string t1, .slice D tn cd] 41)).alloc (.cells #[.int .i64 e1, .int .i64 e2] 44)) w5.heap.size t1 D tn cd) := obj_below (heap_alloc_new _ _) hbf
        have HF6 : Hid (((w5.alloc (.cells #[.string t1, .slice D tn cd] 41)).alloc (.cells #[.int .i64 e1, .int .i64 e2] 44)).heap[w5.heap.size + 1]? = some (.cells #[.int .i64 e1, .int .i64 e2] 44)) := heap_al _ _ _ (by simp)
        clear hb5 hbm hbf HQ10 HTR htd
        go_upto_region 16 with fail
        generalize (w5.alloc (.cells #[.string t1, .slice D tn cd] 41)).alloc (.cells #[.int .i64 e1, .int .i64 e2] 44) = W6 at *
        generalize w5.heap.size = g6 at *
        by_cases he : e1 = 0
        · have h2 := HE0.out he
          have HBZ := Lib.hid (HBK.out he)
          clear HE0 HBK
          subst he h2
          rw [HBZ.out] at HTB
          have HTC := Lib.hid (fun A1 c1 A ca A' cb W k0 k1 k2 k3 k4 => (HTB.out A1 c1 A ca A' cb D cd W k0 k1 k2 k3 k4).mono fun e w' he => decto_some he)
          dsimp only at HTC
          rw [HLX.out] at HTC
          obtain ⟨f0, f1, _, _⟩ := obj_cells HF6.out
          go_upto_region 18 with fail
          clear f0 f1
          go_cut [15, 16] (fun s15 s16 wx => ∃ (p p' : Nat) (E : Option Addr) (ce : Nat), s15 = .pointer (some ⟨p, 0, none⟩) ∧ s16 = .pointer (some ⟨p', 0, none⟩) ∧ Below W6.heap.size W6 wx ∧ MBox wx p m E lx ce ∧ Tlvs wx E l ∧ wx.heap[p']? = some (.cells #[.int .i64 0, .int .i64 0] 44))
          case first =>
            refine wp_region_noPanic ?_
            refine wp_region_held_drew (S := (fun u => Below W6.heap.size W6 u)) (by kernel_rfl) ((Below.refl _ _).drew) (fun hS => ?_)
            refine gv 0 (v := ?_) (fun u hu => ?_) hS ?_
            rotate_left
            · ((have hq := HQ6.out.below hu; obtain ⟨a0, a1, a2⟩ := obj_cells3 hq.2.1; obtain ⟨b0, b1, b2⟩ := obj_cells3 hq.2.2.1; obtain ⟨m0, m1, _, _⟩ := obj_cells hq.2.2.2.1; obtain ⟨x0, x1, _, _⟩ := obj_cells (HM6.out.below hu); clear hq); go_simp; try (with_reducible rfl))
            try simp only [puts]
            refine gv 2 (v := ?_) (fun u hu => ?_) hS ?_
            rotate_left
            · ((have hq := HQ6.out.below hu; obtain ⟨a0, a1, a2⟩ := obj_cells3 hq.2.1; obtain ⟨b0, b1, b2⟩ := obj_cells3 hq.2.2.1; obtain ⟨m0, m1, _, _⟩ := obj_cells hq.2.2.2.1; obtain ⟨x0, x1, _, _⟩ := obj_cells (HM6.out.below hu); clear hq); go_simp; try (with_reducible rfl))
            try simp only [puts]
            refine gv 3 (v := ?_) (fun u hu => ?_) hS ?_
            rotate_left
            · ((have hq := HQ6.out.below hu; obtain ⟨a0, a1, a2⟩ := obj_cells3 hq.2.1; obtain ⟨b0, b1, b2⟩ := obj_cells3 hq.2.2.1; obtain ⟨m0, m1, _, _⟩ := obj_cells hq.2.2.2.1; obtain ⟨x0, x1, _, _⟩ := obj_cells (HM6.out.below hu); clear hq); go_simp; try (with_reducible rfl))
            try simp only [puts]
            refine gv 6 (v := ?_) (fun u hu => ?_) hS ?_
            rotate_left
            · ((have hq := HQ6.out.below hu; obtain ⟨a0, a1, a2⟩ := obj_cells3 hq.2.1; obtain ⟨b0, b1, b2⟩ := obj_cells3 hq.2.2.1; obtain ⟨m0, m1, _, _⟩ := obj_cells hq.2.2.2.1; obtain ⟨x0, x1, _, _⟩ := obj_cells (HM6.out.below hu); clear hq); go_simp; try (with_reducible rfl))
            try simp only [puts]
            refine gv 7 (v := ?_) (fun u hu => ?_) hS ?_
            rotate_left
            · ((have hq := HQ6.out.below hu; obtain ⟨a0, a1, a2⟩ := obj_cells3 hq.2.1; obtain ⟨b0, b1, b2⟩ := obj_cells3 hq.2.2.1; obtain ⟨m0, m1, _, _⟩ := obj_cells hq.2.2.2.1; obtain ⟨x0, x1, _, _⟩ := obj_cells (HM6.out.below hu); clear hq); go_simp; try (with_reducible rfl))
            try simp only [puts]
            refine wpAnyH_ready (rs := [1, 12, 13]) (by kernel_rfl) (by simp) (arm_some (i := 1) 14 #[.agg #[.slice (some ⟨p, 0, none⟩) 2 2, .slice Y1 nk cp]] rfl (by rfl) (HTN.out (some ⟨p, 0, none⟩) Y1 cp _ (HQ6.out.below hS).2.2.2.2.2.2.1 (HQ6.out.below hS).2.2.2.2.2.2.2) ?_ ?_ (arm_alloc (i := 12) (.cells #[.string ⟨#[]⟩, .slice none 0 0] 41) rfl (by rfl) ?_ ?_ (arm_alloc (i := 13) (.cells #[.int .i64 0, .int .i64 0] 44) rfl (by rfl) ?_ ?_ AllReadyH.nil)))
            · (go_simp; try (with_reducible rfl))
            intro v1 u' hT
            obtain ⟨A1, c1, rfl, ht1, hb⟩ := hT
            have hS' : (fun u => Below W6.heap.size W6 u) u' := hbt hS hb
            refine ⟨hS', ?_⟩
            clear hS hb; have hS := hS'; clear hS'; rename World => u; try simp only [puts]
            rotate_left
            · (go_simp; try (with_reducible rfl))
            intro p12 u' hb ho12 hp12
            replace hp12 := Nat.le_trans (hS.size) hp12
            have hS' : (fun u => Below W6.heap.size W6 u) u' := hbt hS hb
            refine ⟨hS', ?_⟩
            clear hS hb; have hS := hS'; clear hS'; rename World => u; try simp only [puts]
            rotate_left
            · (go_simp; try (with_reducible rfl))
            intro p13 u' hb ho13 hp13
            replace hp13 := Nat.le_trans (hS.size) hp13
            have hS' : (fun u => Below W6.heap.size W6 u) u' := hbt hS hb
            refine ⟨hS', ?_⟩
            clear hS hb; have hS := hS'; clear hS'; rename World => u; try simp only [puts]
            rotate_left
            all_goals first
              |
                refine wpAnyH_ready (rs := [1, 13]) (by kernel_rfl) (by simp) (arm_some (i := 1) 14 #[.agg #[.slice (some ⟨p, 0, none⟩) 2 2, .slice Y1 nk cp]] rfl (by rfl) (HTN.out (some ⟨p, 0, none⟩) Y1 cp _ (HQ6.out.below hS).2.2.2.2.2.2.1 (HQ6.out.below hS).2.2.2.2.2.2.2) ?_ ?_ (arm_alloc (i := 13) (.cells #[.int .i64 0, .int .i64 0] 44) rfl (by rfl) ?_ ?_ AllReadyH.nil))
                · (go_simp; try (with_reducible rfl))
                intro v1 u' hT
                obtain ⟨A1, c1, rfl, ht1, hb⟩ := hT
                have hS' : (fun u => Below W6.heap.size W6 u) u' := hbt hS hb
                refine ⟨hS', ?_⟩
                replace ho12 := obj_below ho12 hb
                clear hS hb; have hS := hS'; clear hS'; rename World => u; try simp only [puts]
                rotate_left
                · (go_simp; try (with_reducible rfl))
                intro p13 u' hb ho13 hp13
                have ne12_13 : p12 ≠ p13 := by have := obj_lt ho12; omega
                replace hp13 := Nat.le_trans (hS.size) hp13
                have hS' : (fun u => Below W6.heap.size W6 u) u' := hbt hS hb
                refine ⟨hS', ?_⟩
                replace ho12 := obj_below ho12 hb
                clear hS hb; have hS := hS'; clear hS'; rename World => u; try simp only [puts]
                rotate_left
              |
                refine wpAnyH_ready (rs := [1, 12]) (by kernel_rfl) (by simp) (arm_some (i := 1) 14 #[.agg #[.slice (some ⟨p, 0, none⟩) 2 2, .slice Y1 nk cp]] rfl (by rfl) (HTN.out (some ⟨p, 0, none⟩) Y1 cp _ (HQ6.out.below hS).2.2.2.2.2.2.1 (HQ6.out.below hS).2.2.2.2.2.2.2) ?_ ?_ (arm_alloc (i := 12) (.cells #[.string ⟨#[]⟩, .slice none 0 0] 41) rfl (by rfl) ?_ ?_ AllReadyH.nil))
                · (go_simp; try (with_reducible rfl))
                intro v1 u' hT
                obtain ⟨A1, c1, rfl, ht1, hb⟩ := hT
                have hS' : (fun u => Below W6.heap.size W6 u) u' := hbt hS hb
                refine ⟨hS', ?_⟩
                replace ho13 := obj_below ho13 hb
                clear hS hb; have hS := hS'; clear hS'; rename World => u; try simp only [puts]
                rotate_left
                · (go_simp; try (with_reducible rfl))
                intro p12 u' hb ho12 hp12
                have ne12_13 : p12 ≠ p13 := by have := obj_lt ho13; omega
                replace hp12 := Nat.le_trans (hS.size) hp12
                have hS' : (fun u => Below W6.heap.size W6 u) u' := hbt hS hb
                refine ⟨hS', ?_⟩
                replace ho13 := obj_below ho13 hb
                clear hS hb; have hS := hS'; clear hS'; rename World => u; try simp only [puts]
                rotate_left
              |
                refine wpAnyH_ready (rs := [4, 12, 13]) (by kernel_rfl) (by simp) (arm_call (i := 4) 25 #[.agg #[.int .i64 2, .int .i64 1, .slice (some ⟨gi, 0, none⟩) 26 26]] rfl (by rfl) (HSE.out (some ⟨gi, 0, none⟩) 26 _ (HQ6.out.below hS).2.2.2.2.2.1) ?_ ?_ (arm_alloc (i := 12) (.cells #[.string ⟨#[]⟩, .slice none 0 0] 41) rfl (by rfl) ?_ ?_ (arm_alloc (i := 13) (.cells #[.int .i64 0, .int .i64 0] 44) rfl (by rfl) ?_ ?_ AllReadyH.nil)))
                · (go_simp; try (with_reducible rfl))
                intro u' hb
                have hS' : (fun u => Below W6.heap.size W6 u) u' := hbt hS hb
                refine ⟨hS', ?_⟩
                replace ht1 := ht1.below hb
                clear hS hb; have hS := hS'; clear hS'; rename World => u; try simp only [puts]
                rotate_left
                · (go_simp; try (with_reducible rfl))
                intro p12 u' hb ho12 hp12
                replace hp12 := Nat.le_trans (hS.size) hp12
                have hS' : (fun u => Below W6.heap.size W6 u) u' := hbt hS hb
                refine ⟨hS', ?_⟩
                replace ht1 := ht1.below hb
                clear hS hb; have hS := hS'; clear hS'; rename World => u; try simp only [puts]
                rotate_left
                · (go_simp; try (with_reducible rfl))
                intro p13 u' hb ho13 hp13
                replace hp13 := Nat.le_trans (hS.size) hp13
                have hS' : (fun u => Below W6.heap.size W6 u) u' := hbt hS hb
                refine ⟨hS', ?_⟩
                replace ht1 := ht1.below hb
                clear hS hb; have hS := hS'; clear hS'; rename World => u; try simp only [puts]
                rotate_left
            all_goals first
              |
                refine wpAnyH_ready (rs := [1]) (by kernel_rfl) (by simp) (arm_some (i := 1) 14 #[.agg #[.slice (some ⟨p, 0, none⟩) 2 2, .slice Y1 nk cp]] rfl (by rfl) (HTN.out (some ⟨p, 0, none⟩) Y1 cp _ (HQ6.out.below hS).2.2.2.2.2.2.1 (HQ6.out.below hS).2.2.2.2.2.2.2) ?_ ?_ AllReadyH.nil)
                · (go_simp; try (with_reducible rfl))
                intro v1 u' hT
                obtain ⟨A1, c1, rfl, ht1, hb⟩ := hT
                have hS' : (fun u => Below W6.heap.size W6 u) u' := hbt hS hb
                refine ⟨hS', ?_⟩
                replace ho12 := obj_below ho12 hb
                replace ho13 := obj_below ho13 hb
                clear hS hb; have hS := hS'; clear hS'; rename World => u; try simp only [puts]
              |
                refine wpAnyH_ready (rs := [4, 13]) (by kernel_rfl) (by simp) (arm_call (i := 4) 25 #[.agg #[.int .i64 2, .int .i64 1, .slice (some ⟨gi, 0, none⟩) 26 26]] rfl (by rfl) (HSE.out (some ⟨gi, 0, none⟩) 26 _ (HQ6.out.below hS).2.2.2.2.2.1) ?_ ?_ (arm_alloc (i := 13) (.cells #[.int .i64 0, .int .i64 0] 44) rfl (by rfl) ?_ ?_ AllReadyH.nil))
                · (go_simp; try (with_reducible rfl))
                intro u' hb
                have hS' : (fun u => Below W6.heap.size W6 u) u' := hbt hS hb
                refine ⟨hS', ?_⟩
                replace ho12 := obj_below ho12 hb
                replace ht1 := ht1.below hb
                clear hS hb; have hS := hS'; clear hS'; rename World => u; try simp only [puts]
                rotate_left
                · (go_simp; try (with_reducible rfl))
                intro p13 u' hb ho13 hp13
                have ne12_13 : p12 ≠ p13 := by have := obj_lt ho12; omega
                replace hp13 := Nat.le_trans (hS.size) hp13
                have hS' : (fun u => Below W6.heap.size W6 u) u' := hbt hS hb
                refine ⟨hS', ?_⟩
                replace ho12 := obj_below ho12 hb
                replace ht1 := ht1.below hb
                clear hS hb; have hS := hS'; clear hS'; rename World => u; try simp only [puts]
                rotate_left
              |
                refine wpAnyH_ready (rs := [4, 12]) (by kernel_rfl) (by simp) (arm_call (i := 4) 25 #[.agg #[.int .i64 2, .int .i64 1, .slice (some ⟨gi, 0, none⟩) 26 26]] rfl (by rfl) (HSE.out (some ⟨gi, 0, none⟩) 26 _ (HQ6.out.below hS).2.2.2.2.2.1) ?_ ?_ (arm_alloc (i := 12) (.cells #[.string ⟨#[]⟩, .slice none 0 0] 41) rfl (by rfl) ?_ ?_ AllReadyH.nil))
                · (go_simp; try (with_reducible rfl))
                intro u' hb
                have hS' : (fun u => Below W6.heap.size W6 u) u' := hbt hS hb
                refine ⟨hS', ?_⟩
                replace ho13 := obj_below ho13 hb
                replace ht1 := ht1.below hb
                clear hS hb; have hS := hS'; clear hS'; rename World => u; try simp only [puts]
                rotate_left
                · (go_simp; try (with_reducible rfl))
                intro p12 u' hb ho12 hp12
                have ne12_13 : p12 ≠ p13 := by have := obj_lt ho13; omega
                replace hp12 := Nat.le_trans (hS.size) hp12
                have hS' : (fun u => Below W6.heap.size W6 u) u' := hbt hS hb
                refine ⟨hS', ?_⟩
                replace ho13 := obj_below ho13 hb
                replace ht1 := ht1.below hb
                clear hS hb; have hS := hS'; clear hS'; rename World => u; try simp only [puts]
                rotate_left
              |
                refine wpAnyH_ready (rs := [5, 12, 13]) (by kernel_rfl) (by simp) (arm_some (i := 5) 24 #[.agg #[.int .i64 2, .int .i64 1, .slice (some ⟨gi, 0, none⟩) 26 26], .agg #[.int .u64 (sh : Int), .int .u64 (sl : Int)]] rfl (by rfl) (HRS.out (some ⟨gi, 0, none⟩) 26 _ (HQ6.out.below hS).2.2.2.2.2.1) ?_ ?_ (arm_alloc (i := 12) (.cells #[.string ⟨#[]⟩, .slice none 0 0] 41) rfl (by rfl) ?_ ?_ (arm_alloc (i := 13) (.cells #[.int .i64 0, .int .i64 0] 44) rfl (by rfl) ?_ ?_ AllReadyH.nil)))
                · (go_simp; try (with_reducible rfl))
                intro v5 u' hT
                obtain ⟨A5, c5, rfl, ht5, hb⟩ := hT
                have hS' : (fun u => Below W6.heap.size W6 u) u' := hbt hS hb
                refine ⟨hS', ?_⟩
                replace ht1 := ht1.below hb
                clear hS hb; have hS := hS'; clear hS'; rename World => u; try simp only [puts]
                rotate_left
                · (go_simp; try (with_reducible rfl))
                intro p12 u' hb ho12 hp12
                replace hp12 := Nat.le_trans (hS.size) hp12
                have hS' : (fun u => Below W6.heap.size W6 u) u' := hbt hS hb
                refine ⟨hS', ?_⟩
                replace ht1 := ht1.below hb
                clear hS hb; have hS := hS'; clear hS'; rename World => u; try simp only [puts]
                rotate_left
                · (go_simp; try (with_reducible rfl))
                intro p13 u' hb ho13 hp13
                replace hp13 := Nat.le_trans (hS.size) hp13
                have hS' : (fun u => Below W6.heap.size W6 u) u' := hbt hS hb
                refine ⟨hS', ?_⟩
                replace ht1 := ht1.below hb
                clear hS hb; have hS := hS'; clear hS'; rename World => u; try simp only [puts]
                rotate_left
            all_goals first
              |
                refine wpAnyH_ready (rs := [4]) (by kernel_rfl) (by simp) (arm_call (i := 4) 25 #[.agg #[.int .i64 2, .int .i64 1, .slice (some ⟨gi, 0, none⟩) 26 26]] rfl (by rfl) (HSE.out (some ⟨gi, 0, none⟩) 26 _ (HQ6.out.below hS).2.2.2.2.2.1) ?_ ?_ AllReadyH.nil)
                · (go_simp; try (with_reducible rfl))
                intro u' hb
                have hS' : (fun u => Below W6.heap.size W6 u) u' := hbt hS hb
                refine ⟨hS', ?_⟩
                replace ho12 := obj_below ho12 hb
                replace ho13 := obj_below ho13 hb
                replace ht1 := ht1.below hb
                clear hS hb; have hS := hS'; clear hS'; rename World => u; try simp only [puts]
              |
                refine wpAnyH_ready (rs := [5, 13]) (by kernel_rfl) (by simp) (arm_some (i := 5) 24 #[.agg #[.int .i64 2, .int .i64 1, .slice (some ⟨gi, 0, none⟩) 26 26], .agg #[.int .u64 (sh : Int), .int .u64 (sl : Int)]] rfl (by rfl) (HRS.out (some ⟨gi, 0, none⟩) 26 _ (HQ6.out.below hS).2.2.2.2.2.1) ?_ ?_ (arm_alloc (i := 13) (.cells #[.int .i64 0, .int .i64 0] 44) rfl (by rfl) ?_ ?_ AllReadyH.nil))
                · (go_simp; try (with_reducible rfl))
                intro v5 u' hT
                obtain ⟨A5, c5, rfl, ht5, hb⟩ := hT
                have hS' : (fun u => Below W6.heap.size W6 u) u' := hbt hS hb
                refine ⟨hS', ?_⟩
                replace ho12 := obj_below ho12 hb
                replace ht1 := ht1.below hb
                clear hS hb; have hS := hS'; clear hS'; rename World => u; try simp only [puts]
                rotate_left
                · (go_simp; try (with_reducible rfl))
                intro p13 u' hb ho13 hp13
                have ne12_13 : p12 ≠ p13 := by have := obj_lt ho12; omega
                replace hp13 := Nat.le_trans (hS.size) hp13
                have hS' : (fun u => Below W6.heap.size W6 u) u' := hbt hS hb
                refine ⟨hS', ?_⟩
                replace ho12 := obj_below ho12 hb
                replace ht1 := ht1.below hb
                clear hS hb; have hS := hS'; clear hS'; rename World => u; try simp only [puts]
                rotate_left
              |
                refine wpAnyH_ready (rs := [5, 12]) (by kernel_rfl) (by simp) (arm_some (i := 5) 24 #[.agg #[.int .i64 2, .int .i64 1, .slice (some ⟨gi, 0, none⟩) 26 26], .agg #[.int .u64 (sh : Int), .int .u64 (sl : Int)]] rfl (by rfl) (HRS.out (some ⟨gi, 0, none⟩) 26 _ (HQ6.out.below hS).2.2.2.2.2.1) ?_ ?_ (arm_alloc (i := 12) (.cells #[.string ⟨#[]⟩, .slice none 0 0] 41) rfl (by rfl) ?_ ?_ AllReadyH.nil))
                · (go_simp; try (with_reducible rfl))
                intro v5 u' hT
                obtain ⟨A5, c5, rfl, ht5, hb⟩ := hT
                have hS' : (fun u => Below W6.heap.size W6 u) u' := hbt hS hb
                refine ⟨hS', ?_⟩
                replace ho13 := obj_below ho13 hb
                replace ht1 := ht1.below hb
                clear hS hb; have hS := hS'; clear hS'; rename World => u; try simp only [puts]
                rotate_left
                · (go_simp; try (with_reducible rfl))
                intro p12 u' hb ho12 hp12
                have ne12_13 : p12 ≠ p13 := by have := obj_lt ho13; omega
                replace hp12 := Nat.le_trans (hS.size) hp12
                have hS' : (fun u => Below W6.heap.size W6 u) u' := hbt hS hb
                refine ⟨hS', ?_⟩
                replace ho13 := obj_below ho13 hb
                replace ht1 := ht1.below hb
                clear hS hb; have hS := hS'; clear hS'; rename World => u; try simp only [puts]
                rotate_left
              |
                refine wpAnyH_ready (rs := [8, 12, 13]) (by kernel_rfl) (by simp) (arm_some (i := 8) 18 #[.agg #[.slice A1.1 2 c1.1, .slice A1.2 nk c1.2], .agg #[.int .i64 2, .int .i64 1, .slice A5 26 c5], .agg #[.int .i64 1, .int .i64 0, .slice (some ⟨ga, 0, none⟩) 28 28], .agg #[.string t1, .slice D tn cd]] rfl (by rfl) (HTC.out A1 c1 (some ⟨ga, 0, none⟩) 28 A5 c5 _ (HK.out.below (HQ6.out.below hS).1.1) ht1 ht5 (HQ6.out.below hS).2.2.2.2.1 (HD6.out.below hS)) ?_ ?_ (arm_alloc (i := 12) (.cells #[.string ⟨#[]⟩, .slice none 0 0] 41) rfl (by rfl) ?_ ?_ (arm_alloc (i := 13) (.cells #[.int .i64 0, .int .i64 0] 44) rfl (by rfl) ?_ ?_ AllReadyH.nil)))
                · (go_simp; try (with_reducible rfl))
                intro v8 u' hT
                obtain ⟨A8, c8, rfl, ht8, hb⟩ := hT
                have hS' : (fun u => Below W6.heap.size W6 u) u' := hbt hS hb
                refine ⟨hS', ?_⟩
                replace ht1 := ht1.below hb
                replace ht5 := ht5.below hb
                clear hS hb; have hS := hS'; clear hS'; rename World => u; try simp only [puts]
                refine gv 9 (v := ?_) (fun u hu => ?_) hS ?_
                rotate_left
                · ((have hq := HQ6.out.below hu; obtain ⟨a0, a1, a2⟩ := obj_cells3 hq.2.1; obtain ⟨b0, b1, b2⟩ := obj_cells3 hq.2.2.1; obtain ⟨m0, m1, _, _⟩ := obj_cells hq.2.2.2.1; obtain ⟨x0, x1, _, _⟩ := obj_cells (HM6.out.below hu); clear hq); go_simp; try (with_reducible rfl))
                try simp only [puts]
                refine gv 10 (v := ?_) (fun u hu => ?_) hS ?_
                rotate_left
                · ((have hq := HQ6.out.below hu; obtain ⟨a0, a1, a2⟩ := obj_cells3 hq.2.1; obtain ⟨b0, b1, b2⟩ := obj_cells3 hq.2.2.1; obtain ⟨m0, m1, _, _⟩ := obj_cells hq.2.2.2.1; obtain ⟨x0, x1, _, _⟩ := obj_cells (HM6.out.below hu); clear hq); go_simp; try (with_reducible rfl))
                try simp only [puts]
                refine gv 11 (v := ?_) (fun u hu => ?_) hS ?_
                rotate_left
                · ((have hq := HQ6.out.below hu; obtain ⟨a0, a1, a2⟩ := obj_cells3 hq.2.1; obtain ⟨b0, b1, b2⟩ := obj_cells3 hq.2.2.1; obtain ⟨m0, m1, _, _⟩ := obj_cells hq.2.2.2.1; obtain ⟨x0, x1, _, _⟩ := obj_cells (HM6.out.below hu); clear hq); go_simp; try (with_reducible rfl))
                try simp only [puts]
                rotate_left
                · (go_simp; try (with_reducible rfl))
                intro p12 u' hb ho12 hp12
                replace hp12 := Nat.le_trans (hS.size) hp12
                have hS' : (fun u => Below W6.heap.size W6 u) u' := hbt hS hb
                refine ⟨hS', ?_⟩
                replace ht1 := ht1.below hb
                replace ht5 := ht5.below hb
                clear hS hb; have hS := hS'; clear hS'; rename World => u; try simp only [puts]
                rotate_left
                · (go_simp; try (with_reducible rfl))
                intro p13 u' hb ho13 hp13
                replace hp13 := Nat.le_trans (hS.size) hp13
                have hS' : (fun u => Below W6.heap.size W6 u) u' := hbt hS hb
                refine ⟨hS', ?_⟩
                replace ht1 := ht1.below hb
                replace ht5 := ht5.below hb
                clear hS hb; have hS := hS'; clear hS'; rename World => u; try simp only [puts]
                rotate_left
            all_goals first
              |
                refine wpAnyH_ready (rs := [5]) (by kernel_rfl) (by simp) (arm_some (i := 5) 24 #[.agg #[.int .i64 2, .int .i64 1, .slice (some ⟨gi, 0, none⟩) 26 26], .agg #[.int .u64 (sh : Int), .int .u64 (sl : Int)]] rfl (by rfl) (HRS.out (some ⟨gi, 0, none⟩) 26 _ (HQ6.out.below hS).2.2.2.2.2.1) ?_ ?_ AllReadyH.nil)
                · (go_simp; try (with_reducible rfl))
                intro v5 u' hT
                obtain ⟨A5, c5, rfl, ht5, hb⟩ := hT
                have hS' : (fun u => Below W6.heap.size W6 u) u' := hbt hS hb
                refine ⟨hS', ?_⟩
                replace ho12 := obj_below ho12 hb
                replace ho13 := obj_below ho13 hb
                replace ht1 := ht1.below hb
                clear hS hb; have hS := hS'; clear hS'; rename World => u; try simp only [puts]
              |
                refine wpAnyH_ready (rs := [8, 13]) (by kernel_rfl) (by simp) (arm_some (i := 8) 18 #[.agg #[.slice A1.1 2 c1.1, .slice A1.2 nk c1.2], .agg #[.int .i64 2, .int .i64 1, .slice A5 26 c5], .agg #[.int .i64 1, .int .i64 0, .slice (some ⟨ga, 0, none⟩) 28 28], .agg #[.string t1, .slice D tn cd]] rfl (by rfl) (HTC.out A1 c1 (some ⟨ga, 0, none⟩) 28 A5 c5 _ (HK.out.below (HQ6.out.below hS).1.1) ht1 ht5 (HQ6.out.below hS).2.2.2.2.1 (HD6.out.below hS)) ?_ ?_ (arm_alloc (i := 13) (.cells #[.int .i64 0, .int .i64 0] 44) rfl (by rfl) ?_ ?_ AllReadyH.nil))
                · (go_simp; try (with_reducible rfl))
                intro v8 u' hT
                obtain ⟨A8, c8, rfl, ht8, hb⟩ := hT
                have hS' : (fun u => Below W6.heap.size W6 u) u' := hbt hS hb
                refine ⟨hS', ?_⟩
                replace ho12 := obj_below ho12 hb
                replace ht1 := ht1.below hb
                replace ht5 := ht5.below hb
                clear hS hb; have hS := hS'; clear hS'; rename World => u; try simp only [puts]
                refine gv 9 (v := ?_) (fun u hu => ?_) hS ?_
                rotate_left
                · ((have hq := HQ6.out.below hu; obtain ⟨a0, a1, a2⟩ := obj_cells3 hq.2.1; obtain ⟨b0, b1, b2⟩ := obj_cells3 hq.2.2.1; obtain ⟨m0, m1, _, _⟩ := obj_cells hq.2.2.2.1; obtain ⟨x0, x1, _, _⟩ := obj_cells (HM6.out.below hu); clear hq); go_simp; try (with_reducible rfl))
                try simp only [puts]
                refine gv 10 (v := ?_) (fun u hu => ?_) hS ?_
                rotate_left
                · ((have hq := HQ6.out.below hu; obtain ⟨a0, a1, a2⟩ := obj_cells3 hq.2.1; obtain ⟨b0, b1, b2⟩ := obj_cells3 hq.2.2.1; obtain ⟨m0, m1, _, _⟩ := obj_cells hq.2.2.2.1; obtain ⟨x0, x1, _, _⟩ := obj_cells (HM6.out.below hu); clear hq); go_simp; try (with_reducible rfl))
                try simp only [puts]
                refine gv 11 (v := ?_) (fun u hu => ?_) hS ?_
                rotate_left
                · ((have hq := HQ6.out.below hu; obtain ⟨a0, a1, a2⟩ := obj_cells3 hq.2.1; obtain ⟨b0, b1, b2⟩ := obj_cells3 hq.2.2.1; obtain ⟨m0, m1, _, _⟩ := obj_cells hq.2.2.2.1; obtain ⟨x0, x1, _, _⟩ := obj_cells (HM6.out.below hu); clear hq); go_simp; try (with_reducible rfl))
                try simp only [puts]
                rotate_left
                · (go_simp; try (with_reducible rfl))
                intro p13 u' hb ho13 hp13
                have ne12_13 : p12 ≠ p13 := by have := obj_lt ho12; omega
                replace hp13 := Nat.le_trans (hS.size) hp13
                have hS' : (fun u => Below W6.heap.size W6 u) u' := hbt hS hb
                refine ⟨hS', ?_⟩
                replace ho12 := obj_below ho12 hb
                replace ht1 := ht1.below hb
                replace ht5 := ht5.below hb
                clear hS hb; have hS := hS'; clear hS'; rename World => u; try simp only [puts]
                rotate_left
              |
                refine wpAnyH_ready (rs := [8, 12]) (by kernel_rfl) (by simp) (arm_some (i := 8) 18 #[.agg #[.slice A1.1 2 c1.1, .slice A1.2 nk c1.2], .agg #[.int .i64 2, .int .i64 1, .slice A5 26 c5], .agg #[.int .i64 1, .int .i64 0, .slice (some ⟨ga, 0, none⟩) 28 28], .agg #[.string t1, .slice D tn cd]] rfl (by rfl) (HTC.out A1 c1 (some ⟨ga, 0, none⟩) 28 A5 c5 _ (HK.out.below (HQ6.out.below hS).1.1) ht1 ht5 (HQ6.out.below hS).2.2.2.2.1 (HD6.out.below hS)) ?_ ?_ (arm_alloc (i := 12) (.cells #[.string ⟨#[]⟩, .slice none 0 0] 41) rfl (by rfl) ?_ ?_ AllReadyH.nil))
                · (go_simp; try (with_reducible rfl))
                intro v8 u' hT
                obtain ⟨A8, c8, rfl, ht8, hb⟩ := hT
                have hS' : (fun u => Below W6.heap.size W6 u) u' := hbt hS hb
                refine ⟨hS', ?_⟩
                replace ho13 := obj_below ho13 hb
                replace ht1 := ht1.below hb
                replace ht5 := ht5.below hb
                clear hS hb; have hS := hS'; clear hS'; rename World => u; try simp only [puts]
                refine gv 9 (v := ?_) (fun u hu => ?_) hS ?_
                rotate_left
                · ((have hq := HQ6.out.below hu; obtain ⟨a0, a1, a2⟩ := obj_cells3 hq.2.1; obtain ⟨b0, b1, b2⟩ := obj_cells3 hq.2.2.1; obtain ⟨m0, m1, _, _⟩ := obj_cells hq.2.2.2.1; obtain ⟨x0, x1, _, _⟩ := obj_cells (HM6.out.below hu); clear hq); go_simp; try (with_reducible rfl))
                try simp only [puts]
                refine gv 10 (v := ?_) (fun u hu => ?_) hS ?_
                rotate_left
                · ((have hq := HQ6.out.below hu; obtain ⟨a0, a1, a2⟩ := obj_cells3 hq.2.1; obtain ⟨b0, b1, b2⟩ := obj_cells3 hq.2.2.1; obtain ⟨m0, m1, _, _⟩ := obj_cells hq.2.2.2.1; obtain ⟨x0, x1, _, _⟩ := obj_cells (HM6.out.below hu); clear hq); go_simp; try (with_reducible rfl))
                try simp only [puts]
                refine gv 11 (v := ?_) (fun u hu => ?_) hS ?_
                rotate_left
                · ((have hq := HQ6.out.below hu; obtain ⟨a0, a1, a2⟩ := obj_cells3 hq.2.1; obtain ⟨b0, b1, b2⟩ := obj_cells3 hq.2.2.1; obtain ⟨m0, m1, _, _⟩ := obj_cells hq.2.2.2.1; obtain ⟨x0, x1, _, _⟩ := obj_cells (HM6.out.below hu); clear hq); go_simp; try (with_reducible rfl))
                try simp only [puts]
                rotate_left
                · (go_simp; try (with_reducible rfl))
                intro p12 u' hb ho12 hp12
                have ne12_13 : p12 ≠ p13 := by have := obj_lt ho13; omega
                replace hp12 := Nat.le_trans (hS.size) hp12
                have hS' : (fun u => Below W6.heap.size W6 u) u' := hbt hS hb
                refine ⟨hS', ?_⟩
                replace ho13 := obj_below ho13 hb
                replace ht1 := ht1.below hb
                replace ht5 := ht5.below hb
                clear hS hb; have hS := hS'; clear hS'; rename World => u; try simp only [puts]
                rotate_left
              |
                refine wpAnyH_ready (rs := [12, 13]) (by kernel_rfl) (by simp) (arm_alloc (i := 12) (.cells #[.string ⟨#[]⟩, .slice none 0 0] 41) rfl (by rfl) ?_ ?_ (arm_alloc (i := 13) (.cells #[.int .i64 0, .int .i64 0] 44) rfl (by rfl) ?_ ?_ AllReadyH.nil))
                · (go_simp; try (with_reducible rfl))
                intro p12 u' hb ho12 hp12
                replace hp12 := Nat.le_trans (hS.size) hp12
                have hS' : (fun u => Below W6.heap.size W6 u) u' := hbt hS hb
                refine ⟨hS', ?_⟩
                replace ht1 := ht1.below hb
                replace ht5 := ht5.below hb
                replace ht8 := ht8.below hb
                clear hS hb; have hS := hS'; clear hS'; rename World => u; try simp only [puts]
                rotate_left
                · (go_simp; try (with_reducible rfl))
                intro p13 u' hb ho13 hp13
                replace hp13 := Nat.le_trans (hS.size) hp13
                have hS' : (fun u => Below W6.heap.size W6 u) u' := hbt hS hb
                refine ⟨hS', ?_⟩
                replace ht1 := ht1.below hb
                replace ht5 := ht5.below hb
                replace ht8 := ht8.below hb
                clear hS hb; have hS := hS'; clear hS'; rename World => u; try simp only [puts]
                rotate_left
            all_goals first
              |
                refine wpAnyH_ready (rs := [8]) (by kernel_rfl) (by simp) (arm_some (i := 8) 18 #[.agg #[.slice A1.1 2 c1.1, .slice A1.2 nk c1.2], .agg #[.int .i64 2, .int .i64 1, .slice A5 26 c5], .agg #[.int .i64 1, .int .i64 0, .slice (some ⟨ga, 0, none⟩) 28 28], .agg #[.string t1, .slice D tn cd]] rfl (by rfl) (HTC.out A1 c1 (some ⟨ga, 0, none⟩) 28 A5 c5 _ (HK.out.below (HQ6.out.below hS).1.1) ht1 ht5 (HQ6.out.below hS).2.2.2.2.1 (HD6.out.below hS)) ?_ ?_ AllReadyH.nil)
                · (go_simp; try (with_reducible rfl))
                intro v8 u' hT
                obtain ⟨A8, c8, rfl, ht8, hb⟩ := hT
                have hS' : (fun u => Below W6.heap.size W6 u) u' := hbt hS hb
                refine ⟨hS', ?_⟩
                replace ho12 := obj_below ho12 hb
                replace ho13 := obj_below ho13 hb
                replace ht1 := ht1.below hb
                replace ht5 := ht5.below hb
                clear hS hb; have hS := hS'; clear hS'; rename World => u; try simp only [puts]
                refine gv 9 (v := ?_) (fun u hu => ?_) hS ?_
                rotate_left
                · ((have hq := HQ6.out.below hu; obtain ⟨a0, a1, a2⟩ := obj_cells3 hq.2.1; obtain ⟨b0, b1, b2⟩ := obj_cells3 hq.2.2.1; obtain ⟨m0, m1, _, _⟩ := obj_cells hq.2.2.2.1; obtain ⟨x0, x1, _, _⟩ := obj_cells (HM6.out.below hu); clear hq); go_simp; try (with_reducible rfl))
                try simp only [puts]
                refine gv 10 (v := ?_) (fun u hu => ?_) hS ?_
                rotate_left
                · ((have hq := HQ6.out.below hu; obtain ⟨a0, a1, a2⟩ := obj_cells3 hq.2.1; obtain ⟨b0, b1, b2⟩ := obj_cells3 hq.2.2.1; obtain ⟨m0, m1, _, _⟩ := obj_cells hq.2.2.2.1; obtain ⟨x0, x1, _, _⟩ := obj_cells (HM6.out.below hu); clear hq); go_simp; try (with_reducible rfl))
                try simp only [puts]
                refine gv 11 (v := ?_) (fun u hu => ?_) hS ?_
                rotate_left
                · ((have hq := HQ6.out.below hu; obtain ⟨a0, a1, a2⟩ := obj_cells3 hq.2.1; obtain ⟨b0, b1, b2⟩ := obj_cells3 hq.2.2.1; obtain ⟨m0, m1, _, _⟩ := obj_cells hq.2.2.2.1; obtain ⟨x0, x1, _, _⟩ := obj_cells (HM6.out.below hu); clear hq); go_simp; try (with_reducible rfl))
                try simp only [puts]
              |
                refine wpAnyH_ready (rs := [13]) (by kernel_rfl) (by simp) (arm_alloc (i := 13) (.cells #[.int .i64 0, .int .i64 0] 44) rfl (by rfl) ?_ ?_ AllReadyH.nil)
                · (go_simp; try (with_reducible rfl))
                intro p13 u' hb ho13 hp13
                have ne12_13 : p12 ≠ p13 := by have := obj_lt ho12; omega
                replace hp13 := Nat.le_trans (hS.size) hp13
                have hS' : (fun u => Below W6.heap.size W6 u) u' := hbt hS hb
                refine ⟨hS', ?_⟩
                replace ho12 := obj_below ho12 hb
                replace ht1 := ht1.below hb
                replace ht5 := ht5.below hb
                replace ht8 := ht8.below hb
                clear hS hb; have hS := hS'; clear hS'; rename World => u; try simp only [puts]
              |
                refine wpAnyH_ready (rs := [12]) (by kernel_rfl) (by simp) (arm_alloc (i := 12) (.cells #[.string ⟨#[]⟩, .slice none 0 0] 41) rfl (by rfl) ?_ ?_ AllReadyH.nil)
                · (go_simp; try (with_reducible rfl))
                intro p12 u' hb ho12 hp12
                have ne12_13 : p12 ≠ p13 := by have := obj_lt ho13; omega
                replace hp12 := Nat.le_trans (hS.size) hp12
                have hS' : (fun u => Below W6.heap.size W6 u) u' := hbt hS hb
                refine ⟨hS', ?_⟩
                replace ho13 := obj_below ho13 hb
                replace ht1 := ht1.below hb
                replace ht5 := ht5.below hb
                replace ht8 := ht8.below hb
                clear hS hb; have hS := hS'; clear hS'; rename World => u; try simp only [puts]
            all_goals
              obtain ⟨d0, d1, f0, f1⟩ := obj_cells ho12
              have k1 := obj_set2 ho12 (.string m) (.slice A8 lx c8)
              have k2 := obj_set_other ho13 (Ne.symm ne12_13) (.string m) (.slice A8 lx c8)
              have k3 : Below W6.heap.size W6 _ := below_set2 hS hp12 (.string m) (.slice A8 lx c8)
              have k4 := vals_by_msg ht8 ho12 (.string m) (.slice A8 lx c8)
              refine only (i := 14) rfl (by kernel_rfl) (by rfl) (fun K hK => ?_)
              go_simp
              refine hK.out _ _ k3 ?_
              clear hK
              try simp only [puts]
              clear d0 d1 f0 f1 hS
              generalize ((u.setCell _ _).setCell _ _) = u8 at *
              obtain ⟨d0, d1, f0, f1⟩ := obj_cells k2
              have k5 := obj_set_other k1 ne12_13 (.int .i64 0) (.int .i64 0)
              have k6 := obj_set2 k2 (.int .i64 0) (.int .i64 0)
              have k7 : Below W6.heap.size W6 _ := below_set2 k3 hp13 (.int .i64 0) (.int .i64 0)
              have k8 := vals_by_fault k4 k2 (.int .i64 0) (.int .i64 0)
              refine only (i := 15) rfl (by kernel_rfl) (by rfl) (fun K hK => ?_)
              go_simp
              refine hK.out _ _ k7 ?_
              clear hK
              try simp only [puts]
              refine wpAnyH_done (by kernel_rfl) (NoPanic.normal ?_) _
              go_wp2_with fail
              go_meet
              exact ⟨p12, p13, A8, c8, rfl, rfl, k7, k5, k8, k6⟩
          case rest =>
            obtain ⟨p15, p16, E, ce, rfl, rfl, hb, hE, hEt, hF⟩ := hcut
            have HQ7 := Lib.hid (HQ6.out.below hb)
            have HE7 := Lib.hid hE
            have HT7 := Lib.hid hEt
            have HF7 := Lib.hid hF
            clear hb hE hEt hF HQ6 HTC HTB HTN HM6 HF6 HD6
            generalize wc = W7 at *
            obtain ⟨f0, f1, _, _⟩ := obj_cells HF7.out
            obtain ⟨x0, x1, _, _⟩ := obj_cells HQ7.out.1.2
            obtain ⟨y0, y1, _, _⟩ := obj_cells HE7.out
            go_wp2_with fail
            clear f0 f1 x0 x1 y0 y1
            refine (HSM.out E ce _ (HI.out.below HQ7.out.1.1) HT7.out).mono ?_
            rintro e w8 ⟨rfl, hb8⟩
            have HB8 := Lib.hid (hbt HQ7.out.1.1 hb8)
            clear hb8
            go_wp2
            go_ret
            exact ⟨rfl, HB8.out⟩
        · have tk : (e1 == 0) = false := by simpa using he
          clear he
          obtain ⟨f0, f1, _, _⟩ := obj_cells HF6.out
          go_wp2
          go_ret
          exact ⟨rfl, HQ6.out.1.1⟩
  · rw [hgm] at HGM
    clear hK hT hI hs hgm hh hlw
    generalize l.length = lx at *
    go_enter Tryd.func6, Tryd.ntmps6
    go_upto_region 1 with fail
    generalize w.alloc (.cells #[.string m, .slice B lx cx] 41) = U at *
    go_wp2_with fail
    refine (HAW.out _ (HK.out.below HB0.out)).mono ?_
    rintro e w1 ⟨rfl, hb1⟩
    have HB1 := Lib.hid (hbt HB0.out hb1)
    have HX1 := Lib.hid (HX0.out.below hb1)
    clear hb1 HB0 HX0
    obtain ⟨x0, x1, _, _⟩ := obj_cells HX1.out
    go_wp2_with fail
    clear x0 x1
    refine (HGM.out _ (HI.out.below HB1.out)).mono ?_
    rintro e w2 ⟨rfl, hb2⟩
    have HB2 := Lib.hid (hbt HB1.out hb2)
    clear hb2 HB1 HX1 HGM
    go_wp2_with fail
    refine (HAW.out _ (HK.out.below HB2.out)).mono ?_
    rintro e w3 ⟨rfl, hb3⟩
    have HB3 := Lib.hid (hbt HB2.out hb3)
    clear hb3
    go_wp2
    go_ret
    exact ⟨rfl, HB3.out⟩

end Go.Proofs.YtbhlennolghjmaaDoor
