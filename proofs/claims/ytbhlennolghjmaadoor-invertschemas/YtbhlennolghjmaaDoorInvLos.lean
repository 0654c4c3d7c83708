/-
  What the law's lossless answers: the map of the lossless fields, in every world.
-/
import Derived.Test.YtbhlennolghjmaaDoorXltCopy
import Derived.Test.YtbhlennolghjmaaDoorInvKeep
import Derived.Test.YtbhlennolghjmaaDoorPackDia
import Derived.OwnWalk
namespace Go.Proofs.YtbhlennolghjmaaDoor
open Go.RowKit

def losB : List RuB := losR.map fun r => (r, none, 0)
theorem losB_len : losB.length = 21 := by unfold losB; rw [List.length_map, los_len.1]
theorem losB_fst : losB.map Prod.fst = losR := by unfold losB; rw [List.map_map]; exact List.map_id _
theorem losB_step {q : Nat} (h : q < 21) : losB.take (q + 1) = losB.take q ++ [((if losL.getD q 0 = 12 then 4 else 1, losL.getD q 0, losL.getD q 0, ⟨#[]⟩, []), none, 0)] := by
  have h2 : q < losB.length := by rw [losB_len]; exact h
  have e : losB[q]'h2 = (losR[q]'(by rw [los_len.1]; exact h), none, 0) := by simp [losB]
  rw [List.take_add_one, List.getElem?_eq_getElem h2, e, ← ruAt_get, los_at h]
  rfl
/-- Rules of none of which there are pairs. -/
def NoP (l : List RuB) : Prop := ∀ y ∈ l, y.1.2.2.2.2 = []
theorem losB_nop : NoP losB := fun y hy => by
  unfold losB at hy
  rw [List.mem_map] at hy
  obtain ⟨r, hr, rfl⟩ := hy
  exact (los_none r hr).2
theorem nop_prs {l : List RuB} (h : NoP l) {u : World} : ∀ y ∈ l, Prs u y.2.1 y.1.2.2.2.2 := fun y hy => by rw [h y hy]; exact prs_nil _ _
theorem nop_prsX {l : List RuB} (h : NoP l) {u : World} {lo : Nat} {g : Option Nat} : ∀ y ∈ l, PrsX u lo g y.2.1 y.1.2.2.2.2 := fun y hy => ⟨nop_prs h y hy, fun _ _ hl => absurd (h y hy) hl⟩
theorem los_rls {w : World} {base c : Nat} {Y : Option Addr} (h : w.ownsRow base 53 5 (.slice Y 21 c) 21 (rubsC losB)) : Rls w Y losR := by
  have := rls_own h losB_len.symm (nop_prs losB_nop)
  rwa [losB_fst] at this
theorem los_pair {u : World} {g : Nat} (h : u.heap[g]? = some (.cells #[.string ⟨#[48, 50, 48, 48]⟩, .string ⟨#[49, 50, 48, 48]⟩, .string ⟨#[48, 50, 49, 48]⟩, .string ⟨#[49, 50, 49, 48]⟩] 62)) : Prs u (some ⟨g, 0, none⟩) losM := by
  have ha : ∀ j, (⟨g, 0, none⟩ : Addr).add j = ⟨g, j, none⟩ := fun j => by rw [Addr.add_lit, Nat.zero_add]
  intro i hi
  refine ⟨_, rfl, ?_⟩
  rw [ha]
  match i, hi with
  | 0, _ => exact ⟨cell_of_row u g 0 _ _ _ h, cell_of_row u g 1 _ _ _ h⟩
  | 1, _ => exact ⟨cell_of_row u g 2 _ _ _ h, cell_of_row u g 3 _ _ _ h⟩

/-- Where the map of the lossless fields stands: its pairs in block p, its rules in a row of the call's own behind p. -/
def LosAt (w0 p : Nat) (Y : Option Addr) (c : Nat) (u : World) : Prop := w0 ≤ p ∧ u.heap[p]? = some (.cells #[.string ⟨#[48, 50, 48, 48]⟩, .string ⟨#[49, 50, 48, 48]⟩, .string ⟨#[48, 50, 49, 48]⟩, .string ⟨#[49, 50, 49, 48]⟩] 62) ∧ u.ownsRow (p + 1) 53 5 (.slice Y 21 c) 21 (rubsC losB)
theorem LosAt.below {w0 p : Nat} {Y : Option Addr} {c : Nat} {u u' : World} (h : LosAt w0 p Y c u) (hb : Below u.heap.size u u') : LosAt w0 p Y c u' := ⟨h.1, obj_below h.2.1 hb, sowns_below h.2.2 hb⟩
set_option maxRecDepth 100000 in
set_option maxHeartbeats 1600000 in
theorem reflos_far (w : World) :
    Calls Tryd.prog 48 #[] w fun e w' => ∃ g, e = .returned (.slice (some ⟨g, 0, none⟩) 21 21) ∧ w.heap.size ≤ g ∧ w'.heap[g]? = some losO ∧ Below w.heap.size w w' := by
  have HL := Lib.hid (heap_alloc_new w losO)
  have HB := Lib.hid (below_al w losO)
  go_enter Tryd.func48, Tryd.ntmps48
  go_wp2
  go_ret
  exact ⟨w.heap.size, rfl, Nat.le_refl _, HL.out, HB.out⟩
theorem row_less {w : World} {base base' e size n : Nat} {v : Value} {xs : List Value} (h : w.ownsRow base e size v n xs) (hb : base' ≤ base) : w.ownsRow base' e size v n xs :=
  ⟨h.1, h.2.imp id fun ⟨g, cap, cur, h1, h2, h3⟩ => ⟨g, cap, cur, h1, Nat.le_trans hb h2, h3⟩⟩
set_option maxRecDepth 100000 in
set_option maxHeartbeats 12800000 in
theorem lossless_any (w : World) :
    Calls Tryd.prog 22 #[] w fun e w' => ∃ x, e = .returned x ∧ ∃ p Y c', x = .agg #[.slice (some ⟨p, 0, none⟩) 2 2, .slice Y 21 c'] ∧ LosAt w.heap.size p Y c' w' ∧ Below w.heap.size w w' := by
  obtain ⟨i0, hi, hz0, hz1, hz2⟩ := info_parts Tryd.infoRule
  have hb0 := below_al w (.cells #[.slice none 0 0, .slice none 0 0] 25)
  have HR0 : Hid (MpBox (w.alloc (.cells #[.slice none 0 0, .slice none 0 0] 25)) w.heap.size none 0 0 none 0 0) := heap_alloc_new _ _
  have HZ0 : Hid ((w.alloc (.cells #[.slice none 0 0, .slice none 0 0] 25)).heap.size = w.heap.size + 1) := by show _ = _; simp
  have HB0 := Lib.hid hb0
  clear hb0
  go_enter Tryd.func22, Tryd.ntmps22
  go_upto_region 1 with fail
  generalize w.alloc (.cells #[.slice none 0 0, .slice none 0 0] 25) = U0 at *
  have hb1 := below_al U0 (.cells #[.string ⟨#[48, 50, 48, 48]⟩, .string ⟨#[49, 50, 48, 48]⟩, .string ⟨#[48, 50, 49, 48]⟩, .string ⟨#[49, 50, 49, 48]⟩] 62)
  have hb2 := below_al (U0.alloc (.cells #[.string ⟨#[48, 50, 48, 48]⟩, .string ⟨#[49, 50, 48, 48]⟩, .string ⟨#[48, 50, 49, 48]⟩, .string ⟨#[49, 50, 49, 48]⟩] 62)) (.cells #[.slice (some ⟨U0.heap.size, 0, none⟩) 2 2, .slice none 0 0] 25)
  have HP2 : Hid (((U0.alloc (.cells #[.string ⟨#[48, 50, 48, 48]⟩, .string ⟨#[49, 50, 48, 48]⟩, .string ⟨#[48, 50, 49, 48]⟩, .string ⟨#[49, 50, 49, 48]⟩] 62)).alloc (.cells #[.slice (some ⟨U0.heap.size, 0, none⟩) 2 2, .slice none 0 0] 25)).heap[U0.heap.size]? = some (.cells #[.string ⟨#[48, 50, 48, 48]⟩, .string ⟨#[49, 50, 48, 48]⟩, .string ⟨#[48, 50, 49, 48]⟩, .string ⟨#[49, 50, 49, 48]⟩] 62)) := obj_below (heap_alloc_new _ _) hb2
  have HG2 : Hid (MpBox ((U0.alloc (.cells #[.string ⟨#[48, 50, 48, 48]⟩, .string ⟨#[49, 50, 48, 48]⟩, .string ⟨#[48, 50, 49, 48]⟩, .string ⟨#[49, 50, 49, 48]⟩] 62)).alloc (.cells #[.slice (some ⟨U0.heap.size, 0, none⟩) 2 2, .slice none 0 0] 25)) (U0.heap.size + 1) (some ⟨U0.heap.size, 0, none⟩) 2 2 none 0 0) := heap_al _ _ _ (by simp)
  have HB2 := Lib.hid (hbt HB0.out (hbt hb1 hb2))
  have HR2 := Lib.hid (HR0.out.below (hbt hb1 hb2))
  have HPW := HZ0
  clear hb1 hb2 HB0 HR0 HZ0
  go_upto_region 2 with fail
  generalize (U0.alloc (.cells #[.string ⟨#[48, 50, 48, 48]⟩, .string ⟨#[49, 50, 48, 48]⟩, .string ⟨#[48, 50, 49, 48]⟩, .string ⟨#[49, 50, 49, 48]⟩] 62)).alloc (.cells #[.slice (some ⟨U0.heap.size, 0, none⟩) 2 2, .slice none 0 0] 25) = U1 at *
  generalize U0.heap.size = p at *
  go_wp2_with fail
  refine (reflos_far _).mono ?_
  rintro e U ⟨gl, rfl, hgl, hol, hb3⟩
  have HL3 := Lib.hid hol
  have HGL : Hid (gl ≠ p + 1) := by have := obj_lt HG2.out; show _ ≠ _; omega
  have HB3 := Lib.hid (hbt HB2.out hb3)
  have HP3 := Lib.hid (obj_below HP2.out hb3)
  have HG3 := Lib.hid (HG2.out.below hb3)
  have HR3 := Lib.hid (HR2.out.below hb3)
  have HGU := Lib.hid (obj_lt HG3.out)
  have HWU := Lib.hid HB3.out.size
  clear hgl hol hb3 HB2 HP2 HG2 HR2
  go_wp2
  go_loopw [11] (fun i wr => ∃ q : Nat, q ≤ 21 ∧ i = .int .i64 (q : Int) ∧ RWants w U (p + 1) (some ⟨p, 0, none⟩) 2 2 (losB.take q) wr) (fun i _ => 21 - (intOf i).toNat)
  case atStart => exact ⟨0, Nat.zero_le _, rfl, rwants_new HG3.out HB3.out⟩
  case round =>
    obtain ⟨q, hq, rfl, Y1, cp, hbox, hown, hpx, hkeep, hb⟩ := hrel
    have HLL : Hid ((losB.take q).length = q) := by show _ = _; rw [List.length_take, losB_len]; omega
    rw [HLL.out] at hbox hown hpx
    have HX := Lib.hid hbox
    have HO := Lib.hid hown
    have HK := Lib.hid hkeep
    have HB := Lib.hid hb
    obtain ⟨x0, x1, _, _⟩ := obj_cells hbox
    clear hown hbox hb hkeep hpx
    by_cases hlt : q < 21
    · have HST := Lib.hid (losB_step hlt).symm
      have HNP : Hid (∀ l : List RuB, l = losB.take (q + 1) → NoP l) := fun l h y hy => losB_nop y (List.mem_of_mem_take (h ▸ hy))
      obtain ⟨al, hal, c0⟩ := los_ints (HK.out.obj HL3.out HGL.out) q hlt
      injection hal with hal
      subst hal
      rw [Addr.add_lit, Nat.zero_add] at c0
      generalize hno : losL.getD q 0 = no at *
      by_cases h12 : no = 12
      · rw [if_pos h12] at HST
        subst h12
        clear hno
        have HBL := Lib.hid (below_al wr (.cells #[.int .i64 4, .int .i64 12, .int .i64 12, .string ⟨#[]⟩, .slice none 0 0] 53))
        have HO1 := Lib.hid (HO.out.alloc (.cells #[.int .i64 4, .int .i64 12, .int .i64 12, .string ⟨#[]⟩, .slice none 0 0] 53))
        have HN1 := Lib.hid (heap_alloc_new wr (.cells #[.int .i64 4, .int .i64 12, .int .i64 12, .string ⟨#[]⟩, .slice none 0 0] 53))
        have HZ1 : Hid (U.heap.size ≤ (wr.alloc (.cells #[.int .i64 4, .int .i64 12, .int .i64 12, .string ⟨#[]⟩, .slice none 0 0] 53)).heap.size) := by have := HK.out.1; show _ ≤ _; simp; omega
        go_wp2_with (at_builtin; refine wpList_append_lies _ rfl _ _ _ rfl U.heap.size 53 i0 _ 5 64 Tryd.underlying23 hi hz0 hz1 hz2 rfl (by omega) _ q (rubsC (losB.take q)) rfl HO1.out ⟨wr.heap.size, 0, none⟩ 1 1 (rubC ((4, 12, 12, ⟨#[]⟩, []), none, 0)) rfl rfl (World.news_of_block (cs := #[.int .i64 4, .int .i64 12, .int .i64 12, .string ⟨#[]⟩, .slice none 0 0]) (t := 53) (fr := (0, 0)) HN1.out) (by simp [rubC, Value.oneCell']) (by omega) (by unfold maxLen; omega) (by omega) HZ1.out (wr.heap.size + 1) (by simp) ?_; intro g' cap' w4 hown4 hgrow4 hat4 hlt4; have hbB : Below U.heap.size wr w4 := (HBL.out.mono HK.out.1).grown hgrow4 HZ1.out (fun q hq => (HO1.out.lt q hq).1); have HX4 : Hid (MpBox w4 (p + 1) (some ⟨p, 0, none⟩) 2 2 Y1 q cp) := (hbB.block _ HGU.out).trans HX.out; obtain ⟨j0, j1, f0, f1⟩ := obj_cells HX4.out; have HO4 := Lib.hid hown4; have HK4 := Lib.hid (HK.out.step hbB); have HB4 := Lib.hid (HB.out.trans (hbB.mono HWU.out)); clear hown4 hgrow4 hat4 hlt4 hbB)
        go_roundw
        case rel => exact ⟨q + 1, by omega, by go_num, HST.out ▸ rwants_put HGU.out (by have := HPW.out; omega) HLL.out HX4.out HO4.out (nop_prsX (HNP.out _ HST.out)) HK4.out HB4.out⟩
        case measure => simp [intOf]; omega
      · rw [if_neg h12] at HST
        have t12 : (no == 12) = false := by simpa using h12
        clear hno h12
        have HBL := Lib.hid (below_al wr (.cells #[.int .i64 1, .int .i64 no, .int .i64 no, .string ⟨#[]⟩, .slice none 0 0] 53))
        have HO1 := Lib.hid (HO.out.alloc (.cells #[.int .i64 1, .int .i64 no, .int .i64 no, .string ⟨#[]⟩, .slice none 0 0] 53))
        have HN1 := Lib.hid (heap_alloc_new wr (.cells #[.int .i64 1, .int .i64 no, .int .i64 no, .string ⟨#[]⟩, .slice none 0 0] 53))
        have HZ1 : Hid (U.heap.size ≤ (wr.alloc (.cells #[.int .i64 1, .int .i64 no, .int .i64 no, .string ⟨#[]⟩, .slice none 0 0] 53)).heap.size) := by have := HK.out.1; show _ ≤ _; simp; omega
        go_wp2_with (at_builtin; refine wpList_append_lies _ rfl _ _ _ rfl U.heap.size 53 i0 _ 5 64 Tryd.underlying23 hi hz0 hz1 hz2 rfl (by omega) _ q (rubsC (losB.take q)) rfl HO1.out ⟨wr.heap.size, 0, none⟩ 1 1 (rubC ((1, no, no, ⟨#[]⟩, []), none, 0)) rfl rfl (World.news_of_block (cs := #[.int .i64 1, .int .i64 no, .int .i64 no, .string ⟨#[]⟩, .slice none 0 0]) (t := 53) (fr := (0, 0)) HN1.out) (by simp [rubC, Value.oneCell']) (by omega) (by unfold maxLen; omega) (by omega) HZ1.out (wr.heap.size + 1) (by simp) ?_; intro g' cap' w4 hown4 hgrow4 hat4 hlt4; have hbB : Below U.heap.size wr w4 := (HBL.out.mono HK.out.1).grown hgrow4 HZ1.out (fun q hq => (HO1.out.lt q hq).1); have HX4 : Hid (MpBox w4 (p + 1) (some ⟨p, 0, none⟩) 2 2 Y1 q cp) := (hbB.block _ HGU.out).trans HX.out; obtain ⟨j0, j1, f0, f1⟩ := obj_cells HX4.out; have HO4 := Lib.hid hown4; have HK4 := Lib.hid (HK.out.step hbB); have HB4 := Lib.hid (HB.out.trans (hbB.mono HWU.out)); clear hown4 hgrow4 hat4 hlt4 hbB)
        go_roundw
        case rel => exact ⟨q + 1, by omega, by go_num, HST.out ▸ rwants_put HGU.out (by have := HPW.out; omega) HLL.out HX4.out HO4.out (nop_prsX (HNP.out _ HST.out)) HK4.out HB4.out⟩
        case measure => simp [intOf]; omega
    · have hqe : q = 21 := by omega
      subst hqe
      have HE : Hid (losB.take 21 = losB) := List.take_of_length_le (by rw [losB_len]; exact Nat.le_refl _)
      rw [HE.out] at HO
      have HXR : Hid (MpBox wr w.heap.size none 0 0 none 0 0) := HK.out.obj HR3.out (by have := HPW.out; omega)
      have HXP := Lib.hid (HK.out.obj HP3.out (by omega))
      obtain ⟨r0, r1, f0, f1⟩ := obj_cells HXR.out
      go_wp2
      refine bodyPost_ret (results_cell_row rfl _ _ w.heap.size _ _ _ _ rfl (obj_set2 HXR.out _ _) Tryd.underlying25 rfl (by kernel_rfl)) rfl ?_
      have hlo : w.heap.size < U.heap.size := by have := HPW.out; have := HGU.out; omega
      have hO := sowns_set1 (sowns_set1 HO.out hlo 0 (.slice (some ⟨p, 0, none⟩) 2 2)) hlo 1 (.slice Y1 21 cp)
      exact ⟨_, rfl, p, Y1, cp, rfl, ⟨by have := HPW.out; omega, obj_set_other HXP.out (by have := HPW.out; omega) _ _, row_less hO (Nat.le_of_lt HGU.out)⟩, below_set2 HB.out (Nat.le_refl _) _ _⟩

end Go.Proofs.YtbhlennolghjmaaDoor
