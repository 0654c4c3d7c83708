/-
  What the law's great and awake answer: in every world where the table of kinds reads as it is laid.
-/
import Derived.Test.YthheflgfbdcnlaaGreatDoorXltTra
import Derived.Test.YthheflgfbdcnlaaGreatDoorXltGreat
import Derived.Test.YthheflgfbdcnlaaGreatDoorPackMsg
import Derived.Test.YthheflgfbdcnlaaGreatDoorPackDia
import Derived.Test.YthheflgfbdcnlaaGreatDoorRulAwk
namespace Go.Proofs.YthheflgfbdcnlaaGreatDoor
open Go.RowKit

abbrev xaA : ByteArray := ⟨#[48, 50, 48, 48]⟩
abbrev xaB : ByteArray := ⟨#[49, 50, 48, 48]⟩
abbrev xaC : ByteArray := ⟨#[48, 49, 48, 48]⟩
abbrev xaT : ByteArray := ⟨#[48, 48, 48, 48, 48, 49]⟩
abbrev xaF : ByteArray := ⟨#[53, 57, 57, 57]⟩
abbrev xaM : List PairT := [(xaA, xaB)]
abbrev xaR : List Ru := [(3, 0, 26, xaF, []), (1, 11, 11, ⟨#[]⟩, [])]
abbrev xaX : List Item := [(11, xaT)]
abbrev xaY : List Item := [(11, xaT), (26, xaF)]
abbrev xaV : List Item := [(3, xaT)]
theorem xaw_n : xltN 1 0 (refL 0 diaT) 2 1 (refL 1 diaT) xaM xaR = (0, 0, 0) := by decide +kernel
theorem xaw_1 : xltT 1 0 (refL 0 diaT) 2 1 (refL 1 diaT) xaM xaR xaA xaX = (xaB, xaY, (0, 0)) := by decide +kernel
theorem xaw_2 : xltT 1 0 (refL 0 diaT) 2 1 (refL 1 diaT) xaM xaR xaA xaV = (⟨#[]⟩, [], (9, 3)) := by decide +kernel
theorem xaw_3 : xltT 1 0 (refL 0 diaT) 2 1 (refL 1 diaT) xaM xaR xaC [] = (⟨#[]⟩, [], (7, 0)) := by decide +kernel
theorem xaw_fit : Fit4 xaR := by
  intro r hr
  simp only [List.mem_cons, List.not_mem_nil, or_false] at hr
  rcases hr with rfl | rfl
  · exact ⟨by show 4 ≤ _; decide, by show 0 ≤ _; decide, fun x hx => by simp at hx⟩
  · exact ⟨by show 0 ≤ _; decide, by show 0 ≤ _; decide, fun x hx => by simp at hx⟩
theorem xaw_size {l : List Item} (h : l.all (fun x => decide (x.2.size ≤ 1000)) = true) : ∀ x ∈ l, x.2.size ≤ maxLen := fun x hx => by
  have := List.all_eq_true.1 h x hx
  have := of_decide_eq_true this
  unfold maxLen; omega
theorem xaw_rows {u : World} {g : Nat} (h : u.heap[g]? = some (.cells #[.int .i64 3, .int .i64 0, .int .i64 26, .string xaF, .slice none 0 0, .int .i64 1, .int .i64 11, .int .i64 11, .string ⟨#[]⟩, .slice none 0 0] 58)) : Rls u (some ⟨g, 0, none⟩) xaR := by
  have ha : ∀ j, (⟨g, 0, none⟩ : Addr).add j = ⟨g, j, none⟩ := fun j => by rw [Addr.add_lit, Nat.zero_add]
  intro i hi
  refine ⟨_, rfl, ?_⟩
  rw [ha]
  match i, hi with
  | 0, _ => exact ⟨none, 0, cell_of_row u g 0 _ _ _ h, cell_of_row u g 1 _ _ _ h, cell_of_row u g 2 _ _ _ h, cell_of_row u g 3 _ _ _ h, cell_of_row u g 4 _ _ _ h, prs_nil _ _⟩
  | 1, _ => exact ⟨none, 0, cell_of_row u g 5 _ _ _ h, cell_of_row u g 6 _ _ _ h, cell_of_row u g 7 _ _ _ h, cell_of_row u g 8 _ _ _ h, cell_of_row u g 9 _ _ _ h, prs_nil _ _⟩
theorem xaw_pair {u : World} {g : Nat} (h : u.heap[g]? = some (.cells #[.string xaA, .string xaB] 56)) : Prs u (some ⟨g, 0, none⟩) xaM := by
  have ha : ∀ j, (⟨g, 0, none⟩ : Addr).add j = ⟨g, j, none⟩ := fun j => by rw [Addr.add_lit, Nat.zero_add]
  intro i hi
  refine ⟨_, rfl, ?_⟩
  rw [ha]
  match i, hi with
  | 0, _ => exact ⟨cell_of_row u g 0 _ _ _ h, cell_of_row u g 1 _ _ _ h⟩
/-- What stands in the blocks: both schemas, the map. -/
def XAw (w : World) (g : Nat) (A : Option Addr) (n c : Nat) (a : List Sp) (A' : Option Addr) (n' c' : Nat) (b : List Sp) (u : World) : Prop :=
  (Below w.heap.size w u ∧ Kinds u) ∧ Box u g 1 0 A n c ∧ Box u (g + 1) 2 1 A' n' c' ∧ MpBox u (g + 2 + 1 + 1) (some ⟨g + 2, 0, none⟩) 1 1 (some ⟨g + 2 + 1, 0, none⟩) 2 2 ∧ Prs u (some ⟨g + 2, 0, none⟩) xaM ∧ Rls u (some ⟨g + 2 + 1, 0, none⟩) xaR ∧ Spl u A a ∧ Spl u A' b
theorem XAw.below {w : World} {g : Nat} {A : Option Addr} {n c : Nat} {a : List Sp} {A' : Option Addr} {n' c' : Nat} {b : List Sp} {u u' : World} (h : XAw w g A n c a A' n' c' b u) (hb : Below u.heap.size u u') : XAw w g A n c a A' n' c' b u' := by
  obtain ⟨⟨h1, h2⟩, h3, h4, h5, h6, h7, h8, h9⟩ := h
  exact ⟨⟨hbt h1 hb, h2.below hb⟩, h3.below hb, h4.below hb, h5.below hb, h6.below hb, h7.below hb, h8.below hb, h9.below hb⟩
theorem xaw_len : (refL 0 diaT).length ≤ 1000 ∧ (refL 1 diaT).length ≤ 1000 := by decide +kernel

set_option maxRecDepth 100000 in
set_option maxHeartbeats 25600000 in
theorem xawake_any (hchk : RChk) (happ : RApp) (w : World) (hK : Kinds w) : Calls Tryz.prog 6 #[] w fun e w' => e = .returned (.bool true) ∧ Below w.heap.size w w' := by
  have HK := Lib.hid hK
  have HS0 := Lib.hid (fun W => refsch_0 W)
  have HS1 := Lib.hid (fun W => refsch_1 W)
  have HCK : Hid (∀ g A c A' c' W, XAw w g A (refL 0 diaT).length c (refL 0 diaT) A' (refL 1 diaT).length c' (refL 1 diaT) W → Calls Tryz.prog 8 #[.agg #[.slice (some ⟨g + 2, 0, none⟩) 1 1, .slice (some ⟨g + 2 + 1, 0, none⟩) 2 2], .agg #[.int .i64 1, .int .i64 0, .slice A (refL 0 diaT).length c], .agg #[.int .i64 2, .int .i64 1, .slice A' (refL 1 diaT).length c']] W fun e w' => e = .returned (.tuple #[.int .i64 0, .int .i64 0, .int .i64 0]) ∧ Below W.heap.size W w') := fun g A c A' c' W h => by
    have := xchk_any hchk (some ⟨g + 2, 0, none⟩) 1 xaM (some ⟨g + 2 + 1, 0, none⟩) 2 xaR 1 0 A c (refL 0 diaT) 2 1 A' c' (refL 1 diaT) W h.1.2 h.2.2.2.2.1 h.2.2.2.2.2.1 h.2.2.2.2.2.2.1 h.2.2.2.2.2.2.2 xaw_len.1 xaw_len.2 (by decide) (by decide) (by decide) xaw_fit
    rw [xaw_n] at this
    exact this
  have HTR : Hid (∀ (m : ByteArray) (l : List Item) T, xltT 1 0 (refL 0 diaT) 2 1 (refL 1 diaT) xaM xaR m l = T → l.length ≤ 499 → (∀ x ∈ l, x.2.size ≤ maxLen) → ∀ g A c A' c' B cx W, XAw w g A (refL 0 diaT).length c (refL 0 diaT) A' (refL 1 diaT).length c' (refL 1 diaT) W → Tlvs W B l → Calls Tryz.prog 13 #[.agg #[.slice (some ⟨g + 2, 0, none⟩) 1 1, .slice (some ⟨g + 2 + 1, 0, none⟩) 2 2], .agg #[.int .i64 1, .int .i64 0, .slice A (refL 0 diaT).length c], .agg #[.int .i64 2, .int .i64 1, .slice A' (refL 1 diaT).length c'], .agg #[.string m, .slice B l.length cx]] W fun e w' => DecTo T W w' e) := fun m l T hT hl hs g A c A' c' B cx W h hI => by
    have := xtrans_any hchk happ (some ⟨g + 2, 0, none⟩) 1 xaM (some ⟨g + 2 + 1, 0, none⟩) 2 xaR 1 0 A c (refL 0 diaT) 2 1 A' c' (refL 1 diaT) m B cx l W h.1.2 h.2.2.2.2.1 h.2.2.2.2.2.1 h.2.2.2.2.2.2.1 h.2.2.2.2.2.2.2 hI xaw_len.1 xaw_len.2 (by decide) (by decide) (by decide) xaw_fit hl hs
    rw [hT] at this
    exact this
  have HT1 := Lib.hid (HTR.out xaA xaX _ xaw_1 (by decide) (xaw_size (by decide +kernel)))
  have HT2 := Lib.hid (HTR.out xaA xaV _ xaw_2 (by decide) (xaw_size (by decide +kernel)))
  have HT3 := Lib.hid (HTR.out xaC [] _ xaw_3 (by decide) (fun x hx => by simp at hx))
  have HSM : Hid (∀ B c D d W, Tlvs W B xaY → Tlvs W D xaY → Calls Tryz.prog 16 #[.agg #[.string xaB, .slice B 2 c], .agg #[.string xaB, .slice D 2 d]] W fun e w' => e = .returned (.bool true) ∧ Below W.heap.size W w') := fun B c D d W h1 h2 => by
    have := mrsame_any xaB B c xaY xaB D d xaY W h1 h2 (by decide) 
    rw [sameM_refl] at this
    exact this
  clear hK HTR
  generalize (refL 0 diaT).length = n0 at *
  generalize refL 0 diaT = L0 at *
  generalize (refL 1 diaT).length = n1 at *
  generalize refL 1 diaT = L1 at *
  go_enter Tryz.func6, Tryz.ntmps6
  go_wp2_with fail
  refine (HS0.out _).mono ?_
  rintro e w1 ⟨A, c, rfl, ht1, _, hb1⟩
  have HB1 := Lib.hid hb1
  have HA1 := Lib.hid ht1
  clear hb1 ht1 HS0
  go_wp2_with fail
  refine (HS1.out _).mono ?_
  rintro e w2 ⟨A', c', rfl, ht2, _, hb2⟩
  have HB2 := Lib.hid (hbt HB1.out hb2)
  have HA2 := Lib.hid (HA1.out.below hb2)
  have HD2 := Lib.hid ht2
  clear hb2 ht2 HA1 HB1 HS1
  have hb3 := below_al w2 (.cells #[.int .i64 1, .int .i64 0, .slice A n0 c] 28)
  have hb4 := below_al (w2.alloc (.cells #[.int .i64 1, .int .i64 0, .slice A n0 c] 28)) (.cells #[.int .i64 2, .int .i64 1, .slice A' n1 c'] 28)
  have HX4 : Hid (Box ((w2.alloc (.cells #[.int .i64 1, .int .i64 0, .slice A n0 c] 28)).alloc (.cells #[.int .i64 2, .int .i64 1, .slice A' n1 c'] 28)) w2.heap.size 1 0 A n0 c) := (box_new _ _ _ _ _ _).below hb4
  have HY4 : Hid (Box ((w2.alloc (.cells #[.int .i64 1, .int .i64 0, .slice A n0 c] 28)).alloc (.cells #[.int .i64 2, .int .i64 1, .slice A' n1 c'] 28)) (w2.heap.size + 1) 2 1 A' n1 c') := heap_al _ _ _ (by simp)
  have HB4 := Lib.hid (hbt HB2.out (hbt hb3 hb4))
  have HA4 := Lib.hid (HA2.out.below (hbt hb3 hb4))
  have HD4 := Lib.hid (HD2.out.below (hbt hb3 hb4))
  have HZ4 : Hid (((w2.alloc (.cells #[.int .i64 1, .int .i64 0, .slice A n0 c] 28)).alloc (.cells #[.int .i64 2, .int .i64 1, .slice A' n1 c'] 28)).heap.size = w2.heap.size + 2) := by show _ = _; simp
  clear hb3 hb4 HA2 HD2 HB2
  obtain ⟨x0, x1, x2⟩ := obj_cells3 HX4.out
  obtain ⟨y0, y1, y2⟩ := obj_cells3 HY4.out
  go_upto_region 2 with fail
  clear x0 x1 x2 y0 y1 y2
  generalize (w2.alloc (.cells #[.int .i64 1, .int .i64 0, .slice A n0 c] 28)).alloc (.cells #[.int .i64 2, .int .i64 1, .slice A' n1 c'] 28) = W4 at *
  generalize w2.heap.size = g at *
  have hb5 := below_al W4 (.cells #[.string xaA, .string xaB] 56)
  have hb6 := below_al (W4.alloc (.cells #[.string xaA, .string xaB] 56)) (.cells #[.int .i64 3, .int .i64 0, .int .i64 26, .string xaF, .slice none 0 0, .int .i64 1, .int .i64 11, .int .i64 11, .string ⟨#[]⟩, .slice none 0 0] 58)
  have hb7 := below_al ((W4.alloc (.cells #[.string xaA, .string xaB] 56)).alloc (.cells #[.int .i64 3, .int .i64 0, .int .i64 26, .string xaF, .slice none 0 0, .int .i64 1, .int .i64 11, .int .i64 11, .string ⟨#[]⟩, .slice none 0 0] 58)) (.cells #[.slice (some ⟨g + 2, 0, none⟩) 1 1, .slice (some ⟨g + 2 + 1, 0, none⟩) 2 2] 25)
  have HW7 : Hid (XAw w g A n0 c L0 A' n1 c' L1 (((W4.alloc (.cells #[.string xaA, .string xaB] 56)).alloc (.cells #[.int .i64 3, .int .i64 0, .int .i64 26, .string xaF, .slice none 0 0, .int .i64 1, .int .i64 11, .int .i64 11, .string ⟨#[]⟩, .slice none 0 0] 58)).alloc (.cells #[.slice (some ⟨g + 2, 0, none⟩) 1 1, .slice (some ⟨g + 2 + 1, 0, none⟩) 2 2] 25))) :=
    ⟨⟨hbt HB4.out (hbt (hbt hb5 hb6) hb7), HK.out.below (hbt HB4.out (hbt (hbt hb5 hb6) hb7))⟩, HX4.out.below (hbt (hbt hb5 hb6) hb7), HY4.out.below (hbt (hbt hb5 hb6) hb7), heap_al _ _ _ (by have := HZ4.out; simp; omega),
      xaw_pair (obj_below (obj_below (heap_al _ _ _ HZ4.out.symm) hb6) hb7), xaw_rows (obj_below (heap_al _ _ _ (by have := HZ4.out; simp; omega)) hb7), HA4.out.below (hbt (hbt hb5 hb6) hb7), HD4.out.below (hbt (hbt hb5 hb6) hb7)⟩
  clear hb5 hb6 hb7 HX4 HY4 HA4 HD4 HB4
  have hz := HZ4.out
  go_upto_region 3 with fail
  generalize ((W4.alloc (.cells #[.string xaA, .string xaB] 56)).alloc (.cells #[.int .i64 3, .int .i64 0, .int .i64 26, .string xaF, .slice none 0 0, .int .i64 1, .int .i64 11, .int .i64 11, .string ⟨#[]⟩, .slice none 0 0] 58)).alloc (.cells #[.slice (some ⟨g + 2, 0, none⟩) 1 1, .slice (some ⟨g + 2 + 1, 0, none⟩) 2 2] 25) = W7 at *
  clear hz HZ4
  obtain ⟨x0, x1, x2⟩ := obj_cells3 HW7.out.2.1
  obtain ⟨y0, y1, y2⟩ := obj_cells3 HW7.out.2.2.1
  obtain ⟨m0, m1, _, _⟩ := obj_cells HW7.out.2.2.2.1
  go_wp2_with fail
  clear x0 x1 x2 y0 y1 y2 m0 m1
  refine (HCK.out g A c A' c' _ HW7.out).mono ?_
  rintro e w8 ⟨rfl, hb8⟩
  have HW8 := Lib.hid (HW7.out.below hb8)
  clear hb8 HW7 HCK
  obtain ⟨x0, x1, x2⟩ := obj_cells3 HW8.out.2.1
  obtain ⟨y0, y1, y2⟩ := obj_cells3 HW8.out.2.2.1
  obtain ⟨m0, m1, _, _⟩ := obj_cells HW8.out.2.2.2.1
  have HW9 := Lib.hid (HW8.out.below (below_al w8 (.cells #[.int .i64 11, .string xaT] 53)))
  have HV9 : Hid (Tlvs (w8.alloc (.cells #[.int .i64 11, .string xaT] 53)) (some ⟨w8.heap.size, 0, none⟩) xaX) := vals_row (heap_alloc_new _ _) rfl
  go_wp2_with fail
  clear x0 x1 x2 y0 y1 y2 m0 m1
  refine (HT1.out g A c A' c' (some ⟨w8.heap.size, 0, none⟩) 1 _ HW9.out HV9.out).mono ?_
  rintro e w10 ⟨D, cd, rfl, ht10, hb10⟩
  have hbm := below_al w10 (.cells #[.string xaB, .slice D 2 cd] 41)
  have hbf := below_al (w10.alloc (.cells #[.string xaB, .slice D 2 cd] 41)) (.cells #[.int .i64 0, .int .i64 0] 44)
  have HW11 := Lib.hid ((HW9.out.below hb10).below (hbt hbm hbf))
  have HD11 := Lib.hid (ht10.below (hbt hbm hbf))
  have HM11 : Hid (MBox ((w10.alloc (.cells #[.string xaB, .slice D 2 cd] 41)).alloc (.cells #[.int .i64 0, .int .i64 0] 44)) w10.heap.size xaB D 2 cd) := obj_below (heap_alloc_new _ _) hbf
  have HF11 : Hid (((w10.alloc (.cells #[.string xaB, .slice D 2 cd] 41)).alloc (.cells #[.int .i64 0, .int .i64 0] 44)).heap[w10.heap.size + 1]? = some (.cells #[.int .i64 0, .int .i64 0] 44)) := heap_al _ _ _ (by simp)
  clear hb10 ht10 hbm hbf HW8 HW9 HV9 HT1
  go_upto_region 5 with fail
  generalize (w10.alloc (.cells #[.string xaB, .slice D 2 cd] 41)).alloc (.cells #[.int .i64 0, .int .i64 0] 44) = W11 at *
  generalize w10.heap.size = g1 at *
  obtain ⟨x0, x1, x2⟩ := obj_cells3 HW11.out.2.1
  obtain ⟨y0, y1, y2⟩ := obj_cells3 HW11.out.2.2.1
  obtain ⟨m0, m1, _, _⟩ := obj_cells HW11.out.2.2.2.1
  have HB12 := Lib.hid (below_al W11 (.cells #[.int .i64 3, .string xaT] 53))
  have HW12 := Lib.hid (HW11.out.below HB12.out)
  have HV12 : Hid (Tlvs (W11.alloc (.cells #[.int .i64 3, .string xaT] 53)) (some ⟨W11.heap.size, 0, none⟩) xaV) := vals_row (heap_alloc_new _ _) rfl
  go_wp2_with fail
  clear x0 x1 x2 y0 y1 y2 m0 m1
  refine (HT2.out g A c A' c' (some ⟨W11.heap.size, 0, none⟩) 1 _ HW12.out HV12.out).mono ?_
  rintro e w13 ⟨E, ce, rfl, _, hb13⟩
  have hbm := below_al w13 (.cells #[.string ⟨#[]⟩, .slice E 0 ce] 41)
  have hbf := below_al (w13.alloc (.cells #[.string ⟨#[]⟩, .slice E 0 ce] 41)) (.cells #[.int .i64 9, .int .i64 3] 44)
  have hb14 := hbt HB12.out (hbt hb13 (hbt hbm hbf))
  have HW14 := Lib.hid (HW11.out.below hb14)
  have HD14 := Lib.hid (HD11.out.below hb14)
  have HM14 := Lib.hid (HM11.out.below hb14)
  have HF14 := Lib.hid (obj_below HF11.out hb14)
  have HG14 : Hid (((w13.alloc (.cells #[.string ⟨#[]⟩, .slice E 0 ce] 41)).alloc (.cells #[.int .i64 9, .int .i64 3] 44)).heap[w13.heap.size + 1]? = some (.cells #[.int .i64 9, .int .i64 3] 44)) := heap_al _ _ _ (by simp)
  clear hb13 hbm hbf hb14 HB12 HW11 HD11 HM11 HF11 HW12 HV12 HT2
  go_upto_region 6 with fail
  generalize (w13.alloc (.cells #[.string ⟨#[]⟩, .slice E 0 ce] 41)).alloc (.cells #[.int .i64 9, .int .i64 3] 44) = W14 at *
  generalize w13.heap.size = g2 at *
  obtain ⟨x0, x1, x2⟩ := obj_cells3 HW14.out.2.1
  obtain ⟨y0, y1, y2⟩ := obj_cells3 HW14.out.2.2.1
  obtain ⟨m0, m1, _, _⟩ := obj_cells HW14.out.2.2.2.1
  go_wp2_with fail
  clear x0 x1 x2 y0 y1 y2 m0 m1
  refine (HT3.out g A c A' c' none 0 _ HW14.out (tlvs_nil _ _)).mono ?_
  rintro e w15 ⟨G, cg, rfl, _, hb15⟩
  have hbm := below_al w15 (.cells #[.string ⟨#[]⟩, .slice G 0 cg] 41)
  have hbf := below_al (w15.alloc (.cells #[.string ⟨#[]⟩, .slice G 0 cg] 41)) (.cells #[.int .i64 7, .int .i64 0] 44)
  have hb16 := hbt hb15 (hbt hbm hbf)
  have HB16 := Lib.hid (hbt HW14.out.1.1 hb16)
  have HD16 := Lib.hid (HD14.out.below hb16)
  have HM16 := Lib.hid (HM14.out.below hb16)
  have HF16 := Lib.hid (obj_below HF14.out hb16)
  have HG16 := Lib.hid (obj_below HG14.out hb16)
  have HH16 : Hid (((w15.alloc (.cells #[.string ⟨#[]⟩, .slice G 0 cg] 41)).alloc (.cells #[.int .i64 7, .int .i64 0] 44)).heap[w15.heap.size + 1]? = some (.cells #[.int .i64 7, .int .i64 0] 44)) := heap_al _ _ _ (by simp)
  clear hb15 hbm hbf hb16 HW14 HD14 HM14 HF14 HG14 HT3
  go_upto_region 7 with fail
  generalize (w15.alloc (.cells #[.string ⟨#[]⟩, .slice G 0 cg] 41)).alloc (.cells #[.int .i64 7, .int .i64 0] 44) = W16 at *
  generalize w15.heap.size = g3 at *
  obtain ⟨d0, d1, _, _⟩ := obj_cells HM16.out
  have HB17 := Lib.hid (below_al W16 (.cells #[.int .i64 11, .string xaT, .int .i64 26, .string xaF] 53))
  have HV17 : Hid (Tlvs (W16.alloc (.cells #[.int .i64 11, .string xaT, .int .i64 26, .string xaF] 53)) (some ⟨W16.heap.size, 0, none⟩) xaY) := vals_row (heap_alloc_new _ _) rfl
  go_wp2_with fail
  clear d0 d1
  refine (HSM.out D cd (some ⟨W16.heap.size, 0, none⟩) 2 _ (HD16.out.below HB17.out) HV17.out).mono ?_
  rintro e w18 ⟨rfl, hb18⟩
  have hb19 := hbt HB17.out hb18
  have HF18 := Lib.hid (obj_below HF16.out hb19)
  have HG18 := Lib.hid (obj_below HG16.out hb19)
  have HH18 := Lib.hid (obj_below HH16.out hb19)
  have HB18 := Lib.hid (hbt HB16.out hb19)
  clear hb18 hb19
  obtain ⟨f0, f1, _, _⟩ := obj_cells HF18.out
  obtain ⟨h0, h1, _, _⟩ := obj_cells HG18.out
  obtain ⟨i0, i1, _, _⟩ := obj_cells HH18.out
  go_wp2
  go_ret
  exact ⟨rfl, HB18.out⟩

theorem obj_six {u : World} {g : Nat} {a b c d e f : Value} {t : TypeId} (h : u.heap[g]? = some (.cells #[a, b, c, d, e, f] t)) :
    u.cell? ⟨g, 0, none⟩ = some a ∧ u.cell? ⟨g, 1, none⟩ = some b ∧ u.cell? ⟨g, 2, none⟩ = some c ∧ u.cell? ⟨g, 3, none⟩ = some d ∧ u.cell? ⟨g, 4, none⟩ = some e ∧ u.cell? ⟨g, 5, none⟩ = some f := obj_cells6 h
/-- A map, and an array of two schemas. -/
def LQ (w : World) (X : Option Addr) (n c : Nat) (Y : Option Addr) (n' c' : Nat) (st v : Int) (A : Option Addr) (la ca : Nat) (st' v' : Int) (A' : Option Addr) (lb cb : Nat) (u : World) : Prop :=
  Below w.heap.size w u ∧ MpBox u w.heap.size X n c Y n' c' ∧ u.heap[w.heap.size + 1]? = some (.cells #[.int .i64 st, .int .i64 v, .slice A la ca, .int .i64 st', .int .i64 v', .slice A' lb cb] 29)
theorem LQ.below {w : World} {X : Option Addr} {n c : Nat} {Y : Option Addr} {n' c' : Nat} {st v : Int} {A : Option Addr} {la ca : Nat} {st' v' : Int} {A' : Option Addr} {lb cb : Nat} {u u' : World} (h : LQ w X n c Y n' c' st v A la ca st' v' A' lb cb u) (hb : Below u.heap.size u u') : LQ w X n c Y n' c' st v A la ca st' v' A' lb cb u' :=
  ⟨hbt h.1 hb, h.2.1.below hb, obj_below h.2.2 hb⟩
theorem lq_new (w : World) (X : Option Addr) (n c : Nat) (Y : Option Addr) (n' c' : Nat) (st v : Int) (A : Option Addr) (la ca : Nat) (st' v' : Int) (A' : Option Addr) (lb cb : Nat) :
    LQ w X n c Y n' c' st v A la ca st' v' A' lb cb ((w.alloc (.cells #[.slice X n c, .slice Y n' c'] 25)).alloc (.cells #[.int .i64 st, .int .i64 v, .slice A la ca, .int .i64 st', .int .i64 v', .slice A' lb cb] 29)) :=
  ⟨hbt (below_al _ _) (below_al _ _), obj_below (heap_alloc_new _ _) (below_al _ _), heap_al _ _ _ (by simp)⟩
theorem LQ.cells {w : World} {X : Option Addr} {n c : Nat} {Y : Option Addr} {n' c' : Nat} {st v : Int} {A : Option Addr} {la ca : Nat} {st' v' : Int} {A' : Option Addr} {lb cb : Nat} {u : World} (h : LQ w X n c Y n' c' st v A la ca st' v' A' lb cb u) :
    (u.cell? ⟨w.heap.size, 0, none⟩ = some (.slice X n c) ∧ u.cell? ⟨w.heap.size, 1, none⟩ = some (.slice Y n' c')) ∧
    u.cell? ⟨w.heap.size + 1, 0, none⟩ = some (.int .i64 st) ∧ u.cell? ⟨w.heap.size + 1, 1, none⟩ = some (.int .i64 v) ∧ u.cell? ⟨w.heap.size + 1, 2, none⟩ = some (.slice A la ca) ∧
    u.cell? ⟨w.heap.size + 1, 3, none⟩ = some (.int .i64 st') ∧ u.cell? ⟨w.heap.size + 1, 4, none⟩ = some (.int .i64 v') ∧ u.cell? ⟨w.heap.size + 1, 5, none⟩ = some (.slice A' lb cb) := by
  obtain ⟨m0, m1, _, _⟩ := obj_cells h.2.1
  exact ⟨⟨m0, m1⟩, obj_cells6 h.2.2⟩

set_option maxRecDepth 100000 in
set_option maxHeartbeats 6400000 in
theorem xlgreat_any (X : Option Addr) (cM : Nat) (M : List PairT) (Y : Option Addr) (cR : Nat) (R : List Ru) (st v : Int) (A : Option Addr) (la ca : Nat) (st' v' : Int) (A' : Option Addr) (lb cb : Nat) (w : World) (hM : Prs w X M) (hR : Rls w Y R) (hn : M.length ≤ maxLen) (hm : R.length ≤ maxLen) (hf : Fit2 M) (hf3 : Fit3 R) (hla : la ≤ maxLen) (hlb : lb ≤ maxLen) :
    Calls Tryz.prog 7 #[.agg #[.slice X M.length cM, .slice Y R.length cR], .agg #[.int .i64 st, .int .i64 v, .slice A la ca, .int .i64 st', .int .i64 v', .slice A' lb cb]] w fun e w' => e = .returned (.bool (xgreatB M R || decide (200 < la) || decide (200 < lb))) ∧ Below w.heap.size w w' := by
  have HG := Lib.hid (fun W h1 h2 => xgreat_any X cM M Y cR R W h1 h2 hn hm hf hf3)
  have HQ0 := Lib.hid (lq_new w X M.length cM Y R.length cR st v A la ca st' v' A' lb cb)
  have HM := Lib.hid (hM.below HQ0.out.1)
  have HR := Lib.hid (hR.below HQ0.out.1)
  unfold maxLen at hla hlb
  generalize xgreatB M R = gr at *
  generalize M.length = n at *
  generalize R.length = m at *
  clear hM hR hn hm hf hf3
  cases gr
  · by_cases h1 : 200 < la
    · have t1 : decide ((200 : Int) < (la : Int)) = true := by simp; omega
      have HE : (false || decide (200 < la) || decide (200 < lb)) = true := by simp [h1]
      rw [HE]
      clear h1 HE
      go_enter Tryz.func7, Tryz.ntmps7
      go_wp2_with fail
      generalize (w.alloc (.cells #[.slice X n cM, .slice Y m cR] 25)).alloc (.cells #[.int .i64 st, .int .i64 v, .slice A la ca, .int .i64 st', .int .i64 v', .slice A' lb cb] 29) = U at *
      refine (HG.out _ HM.out HR.out).mono ?_
      rintro e w1 ⟨rfl, hb1⟩
      have HQ1 := Lib.hid (HQ0.out.below hb1)
      clear hb1 HQ0
      obtain ⟨_, a0, a1, a2, b0, b1, b2⟩ := HQ1.out.cells
      go_wp2
      go_ret
      exact ⟨rfl, HQ1.out.1⟩
    · have t1 : decide ((200 : Int) < (la : Int)) = false := by simp; omega
      have HE : (false || decide (200 < la) || decide (200 < lb)) = decide ((200 : Int) < (lb : Int)) := by rw [decide_eq_false h1, Bool.false_or, Bool.false_or]; exact decide_eq_decide.2 ⟨fun h => by omega, fun h => by omega⟩
      rw [HE]
      clear h1 HE
      generalize hq : decide ((200 : Int) < (lb : Int)) = q at *
      go_enter Tryz.func7, Tryz.ntmps7
      go_wp2_with fail
      generalize (w.alloc (.cells #[.slice X n cM, .slice Y m cR] 25)).alloc (.cells #[.int .i64 st, .int .i64 v, .slice A la ca, .int .i64 st', .int .i64 v', .slice A' lb cb] 29) = U at *
      refine (HG.out _ HM.out HR.out).mono ?_
      rintro e w1 ⟨rfl, hb1⟩
      have HQ1 := Lib.hid (HQ0.out.below hb1)
      clear hb1 HQ0
      obtain ⟨_, a0, a1, a2, b0, b1, b2⟩ := HQ1.out.cells
      go_wp2
      go_ret
      exact ⟨rfl, HQ1.out.1⟩
  · go_enter Tryz.func7, Tryz.ntmps7
    go_wp2_with fail
    generalize (w.alloc (.cells #[.slice X n cM, .slice Y m cR] 25)).alloc (.cells #[.int .i64 st, .int .i64 v, .slice A la ca, .int .i64 st', .int .i64 v', .slice A' lb cb] 29) = U at *
    refine (HG.out _ HM.out HR.out).mono ?_
    rintro e w1 ⟨rfl, hb1⟩
    have HQ1 := Lib.hid (HQ0.out.below hb1)
    clear hb1 HQ0
    go_wp2
    go_ret
    exact ⟨rfl, HQ1.out.1⟩
/-- What a map that is no more than is played has. -/
theorem xgreat_in {M : List PairT} {R : List Ru} (h : xgreatB M R = false) : M.length ≤ 300 ∧ R.length ≤ 300 ∧ ∀ r ∈ R, rgreatB r.2.2.2.1 r.2.2.2.2 = false := by
  unfold xgreatB at h
  simp only [Bool.or_eq_false_iff, decide_eq_false_iff_not, List.any_eq_false] at h
  obtain ⟨⟨⟨h1, h2⟩, _⟩, h4⟩ := h
  exact ⟨by omega, by omega, fun r hr => by simpa using h4 r hr⟩
theorem xgreat_four {M : List PairT} {R : List Ru} (h : xgreatB M R = false) (hf : Fit3 R) : Fit4 R := fun r hr => by
  have h1 := (xgreat_in h).2.2 r hr
  obtain ⟨k1, k2, k3⟩ := hf r hr
  refine ⟨k1, ?_, k3⟩
  unfold rgreatB at h1
  simp only [Bool.or_eq_false_iff, decide_eq_false_iff_not] at h1
  omega

end Go.Proofs.YthheflgfbdcnlaaGreatDoor
