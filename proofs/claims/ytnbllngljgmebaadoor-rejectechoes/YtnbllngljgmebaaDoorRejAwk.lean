/-
  The answers that the document fixes: in every world that holds the table of kinds.
-/
import Derived.Test.YtnbllngljgmebaaDoorRejBuild
import Derived.Test.YtnbllngljgmebaaDoorRejTop
import Derived.Test.YtnbllngljgmebaaDoorPackMsg
import Derived.Test.YtnbllngljgmebaaDoorPackDia
namespace Go.Proofs.YtnbllngljgmebaaDoor
open Go.RowKit

abbrev rw0 : ByteArray := ⟨#[48, 50, 48, 48]⟩
abbrev rw1 : ByteArray := ⟨#[48, 50, 49, 48]⟩
abbrev rw30 : ByteArray := ⟨#[51, 48]⟩
abbrev rw96 : ByteArray := ⟨#[57, 54]⟩
abbrev rwZ : ByteArray := ⟨#[48, 48, 48, 48, 48, 48]⟩
abbrev rwN : ByteArray := ⟨#[49, 50, 51, 52, 53, 54]⟩
abbrev rwE : List Int := [11, 41]
abbrev rwC : List Item := [(0, rw96), (2, rw30)]
abbrev rwL : List Item := [(3, rwZ), (11, rwN)]
abbrev rwX : List Item := [(11, rwN), (39, rw30)]
theorem rw_len : acqL.length = 28 := rfl
theorem ints_pair {u : World} {g : Nat} {x y : Int} {t : TypeId} (h : u.heap[g]? = some (.cells #[.int .i64 x, .int .i64 y] t)) : Ints u (some ⟨g, 0, none⟩) [x, y] := by
  intro i hi
  refine ⟨_, rfl, ?_⟩
  rw [show (⟨g, 0, none⟩ : Addr).add i = ⟨g, i, none⟩ from by rw [Addr.add_lit, Nat.zero_add], cell_of_row _ _ i _ _ _ h]
  match i, hi with
  | 0, _ => rfl
  | 1, _ => rfl
theorem rw_sizes {l : List Item} (h : (l.all fun x => decide (x.2.size ≤ 6)) = true) : ∀ x ∈ l, x.2.size ≤ maxLen := fun x hx => by
  have := of_decide_eq_true (List.all_eq_true.1 h x hx)
  unfold maxLen
  omega

/-- What stands in the blocks: the side, what it lists, the message and its fields. -/
def RAw (w : World) (g : Nat) (A : Option Addr) (c : Nat) (u : World) : Prop :=
  Below w.heap.size w u ∧ Kinds u ∧ SBox u (g + 1 + 1) 1 0 A 28 c none 0 0 none 0 0 (some ⟨g, 0, none⟩) 2 2 (some ⟨g + 1, 0, none⟩) 2 2 ∧ MBox u (g + 1 + 1 + 1 + 1) rw0 (some ⟨g + 1 + 1 + 1, 0, none⟩) 2 2 ∧ Spl u A acqL ∧ Ints u (some ⟨g, 0, none⟩) rwE ∧ Tlvs u (some ⟨g + 1, 0, none⟩) rwC ∧ Tlvs u (some ⟨g + 1 + 1 + 1, 0, none⟩) rwL
theorem RAw.below {w : World} {g : Nat} {A : Option Addr} {c : Nat} {u u' : World} (h : RAw w g A c u) (hb : Below u.heap.size u u') : RAw w g A c u' := by
  obtain ⟨h1, h2, h3, h4, h5, h6, h7, h8⟩ := h
  exact ⟨hbt h1 hb, h2.below hb, h3.below hb, h4.below hb, h5.below hb, h6.below hb, h7.below hb, h8.below hb⟩
theorem raw_new {w w1 : World} {A : Option Addr} {c : Nat} (hb : Below w.heap.size w w1) (hK : Kinds w1) (hA : Spl w1 A acqL) :
    RAw w w1.heap.size A c (((((w1.alloc (.cells #[.int .i64 11, .int .i64 41] 3)).alloc (.cells #[.int .i64 0, .string rw96, .int .i64 2, .string rw30] 61)).alloc (.cells #[.int .i64 1, .int .i64 0, .slice A 28 c, .slice none 0 0, .slice none 0 0, .slice (some ⟨w1.heap.size, 0, none⟩) 2 2, .slice (some ⟨w1.heap.size + 1, 0, none⟩) 2 2] 32)).alloc (.cells #[.int .i64 3, .string rwZ, .int .i64 11, .string rwN] 63)).alloc (.cells #[.string rw0, .slice (some ⟨w1.heap.size + 1 + 1 + 1, 0, none⟩) 2 2] 45)) := by
  have b1 := below_al w1 (.cells #[.int .i64 11, .int .i64 41] 3)
  have h1 := heap_alloc_new w1 (.cells #[.int .i64 11, .int .i64 41] 3)
  have z1 : (w1.alloc (.cells #[.int .i64 11, .int .i64 41] 3)).heap.size = w1.heap.size + 1 := by simp
  generalize w1.alloc (.cells #[.int .i64 11, .int .i64 41] 3) = u1 at *
  have b2 := below_al u1 (.cells #[.int .i64 0, .string rw96, .int .i64 2, .string rw30] 61)
  have h2 := heap_alloc_new u1 (.cells #[.int .i64 0, .string rw96, .int .i64 2, .string rw30] 61)
  have z2 : (u1.alloc (.cells #[.int .i64 0, .string rw96, .int .i64 2, .string rw30] 61)).heap.size = w1.heap.size + 1 + 1 := by simp [z1]
  rw [z1] at h2
  generalize u1.alloc (.cells #[.int .i64 0, .string rw96, .int .i64 2, .string rw30] 61) = u2 at *
  have b3 := below_al u2 (.cells #[.int .i64 1, .int .i64 0, .slice A 28 c, .slice none 0 0, .slice none 0 0, .slice (some ⟨w1.heap.size, 0, none⟩) 2 2, .slice (some ⟨w1.heap.size + 1, 0, none⟩) 2 2] 32)
  have h3 := heap_alloc_new u2 (.cells #[.int .i64 1, .int .i64 0, .slice A 28 c, .slice none 0 0, .slice none 0 0, .slice (some ⟨w1.heap.size, 0, none⟩) 2 2, .slice (some ⟨w1.heap.size + 1, 0, none⟩) 2 2] 32)
  have z3 : (u2.alloc (.cells #[.int .i64 1, .int .i64 0, .slice A 28 c, .slice none 0 0, .slice none 0 0, .slice (some ⟨w1.heap.size, 0, none⟩) 2 2, .slice (some ⟨w1.heap.size + 1, 0, none⟩) 2 2] 32)).heap.size = w1.heap.size + 1 + 1 + 1 := by simp [z2]
  rw [z2] at h3
  generalize u2.alloc (.cells #[.int .i64 1, .int .i64 0, .slice A 28 c, .slice none 0 0, .slice none 0 0, .slice (some ⟨w1.heap.size, 0, none⟩) 2 2, .slice (some ⟨w1.heap.size + 1, 0, none⟩) 2 2] 32) = u3 at *
  have b4 := below_al u3 (.cells #[.int .i64 3, .string rwZ, .int .i64 11, .string rwN] 63)
  have h4 := heap_alloc_new u3 (.cells #[.int .i64 3, .string rwZ, .int .i64 11, .string rwN] 63)
  have z4 : (u3.alloc (.cells #[.int .i64 3, .string rwZ, .int .i64 11, .string rwN] 63)).heap.size = w1.heap.size + 1 + 1 + 1 + 1 := by simp [z3]
  rw [z3] at h4
  generalize u3.alloc (.cells #[.int .i64 3, .string rwZ, .int .i64 11, .string rwN] 63) = u4 at *
  have b5 := below_al u4 (.cells #[.string rw0, .slice (some ⟨w1.heap.size + 1 + 1 + 1, 0, none⟩) 2 2] 45)
  have h5 := heap_alloc_new u4 (.cells #[.string rw0, .slice (some ⟨w1.heap.size + 1 + 1 + 1, 0, none⟩) 2 2] 45)
  rw [z4] at h5
  generalize u4.alloc (.cells #[.string rw0, .slice (some ⟨w1.heap.size + 1 + 1 + 1, 0, none⟩) 2 2] 45) = u5 at *
  have t5 := hbt (hbt (hbt (hbt b1 b2) b3) b4) b5
  exact ⟨hbt hb t5, hK.below t5, obj_below (obj_below h3 b4) b5, h5, hA.below t5, (((ints_pair h1).below b2).below b3).below (hbt b4 b5), ((vals_row (l := rwC) h2 rfl).below b3).below (hbt b4 b5), (vals_row (l := rwL) h4 rfl).below b5⟩
section
variable {w : World} {g : Nat} {A : Option Addr} {c : Nat} {W : World}
theorem raw_build (h : RAw w g A c W) : Calls Tryd.prog 16 #[.agg #[.int .i64 1, .int .i64 0, .slice A 28 c, .slice none 0 0, .slice none 0 0, .slice (some ⟨g, 0, none⟩) 2 2, .slice (some ⟨g + 1, 0, none⟩) 2 2], .agg #[.string rw0, .slice (some ⟨g + 1 + 1 + 1, 0, none⟩) 2 2], .agg #[.int .i64 2, .int .i64 0]] W fun e w' => ∃ A' c', e = .returned (.tuple #[.agg #[.string rw1, .slice A' 2 c'], .bool true]) ∧ Tlvs w' A' rwX ∧ Below W.heap.size W w' := by
  have := rjbuild_yes 1 0 A 28 c none 0 0 none 0 0 (some ⟨g, 0, none⟩) 2 rwE (some ⟨g + 1, 0, none⟩) 2 rwC rw0 (some ⟨g + 1 + 1 + 1, 0, none⟩) 2 rwL 2 0 W (by decide +kernel) h.2.2.2.2.2.1 h.2.2.2.2.2.2.1 h.2.2.2.2.2.2.2 (by simp) (by unfold maxLen; simp) (by simp) (by decide +kernel) (by decide +kernel)
  rw [show ansL rwE rwC 2 rwL = rwX by decide +kernel, show respM rw0 = rw1 by decide +kernel] at this
  exact this
theorem raw_no (h : RAw w g A c W) : Calls Tryd.prog 16 #[.agg #[.int .i64 1, .int .i64 0, .slice A 28 c, .slice none 0 0, .slice none 0 0, .slice (some ⟨g, 0, none⟩) 2 2, .slice (some ⟨g + 1, 0, none⟩) 2 2], .agg #[.string rw1, .slice none 0 0], .agg #[.int .i64 2, .int .i64 0]] W fun e w' => e = .returned (.tuple #[.agg #[.string ⟨#[]⟩, .slice none 0 0], .bool false]) ∧ Below W.heap.size W w' :=
  have _ := h
  rjbuild_no 1 0 A 28 c none 0 0 none 0 0 (some ⟨g, 0, none⟩) 2 2 (some ⟨g + 1, 0, none⟩) 2 2 rw1 none 0 0 2 0 W (by decide +kernel)
theorem raw_check (h : RAw w g A c W) : Calls Tryd.prog 10 #[.agg #[.int .i64 1, .int .i64 0, .slice A 28 c, .slice none 0 0, .slice none 0 0, .slice (some ⟨g, 0, none⟩) 2 2, .slice (some ⟨g + 1, 0, none⟩) 2 2]] W fun e w' => e = .returned (.tuple #[.int .i64 0, .int .i64 0, .int .i64 0]) ∧ Below W.heap.size W w' := by
  have := rjcheck_any 1 0 A c acqL none 0 0 none 0 0 (some ⟨g, 0, none⟩) 2 rwE (some ⟨g + 1, 0, none⟩) 2 rwC W h.2.1 h.2.2.2.2.1 h.2.2.2.2.2.1 h.2.2.2.2.2.2.1 (by rw [rw_len]; omega) (by simp) (by simp) (by simp) (by simp) (rw_sizes (by decide +kernel))
  rw [show rejN 1 0 acqL rwE rwC = (0, 0, 0) by decide +kernel, rw_len] at this
  exact this
theorem raw_code (h : RAw w g A c W) : Calls Tryd.prog 13 #[.agg #[.int .i64 1, .int .i64 0, .slice A 28 c, .slice none 0 0, .slice none 0 0, .slice (some ⟨g, 0, none⟩) 2 2, .slice (some ⟨g + 1, 0, none⟩) 2 2], .int .i64 13] W fun e w' => e = .returned (.string rw96) ∧ Below W.heap.size W w' := by
  have := code_any 1 0 A 28 c none 0 0 none 0 0 (some ⟨g, 0, none⟩) 2 2 (some ⟨g + 1, 0, none⟩) 2 rwC 13 W h.2.2.2.2.2.2.1 (by unfold maxLen; simp)
  rw [show codeS rwC 13 = rw96 by decide +kernel] at this
  exact this
theorem raw_same {X : Option Addr} {k p : Nat} (h : Tlvs W X rwX) (hp : W.heap[p]? = some (.cells #[.int .i64 11, .string rwN, .int .i64 39, .string rw30] 63)) : Calls Tryd.prog 19 #[.agg #[.string rw1, .slice X 2 k], .agg #[.string rw1, .slice (some ⟨p, 0, none⟩) 2 2]] W fun e w' => e = .returned (.bool true) ∧ Below W.heap.size W w' := by
  have := mrsame_any rw1 X k rwX rw1 (some ⟨p, 0, none⟩) 2 rwX W h (vals_row hp rfl) (by simp)
  rw [sameM_refl] at this
  exact this
end

set_option maxRecDepth 100000 in
set_option maxHeartbeats 12800000 in
theorem rjawake_any (w : World) (hK : Kinds w) : Calls Tryd.prog 8 #[] w fun e w' => e = .returned (.bool true) ∧ Below w.heap.size w w' := by
  have HK := Lib.hid hK
  have HS0 := Lib.hid (fun W => refsch_0 W)
  rw [ref_acq, rw_len] at HS0
  clear hK
  go_enter Tryd.func8, Tryd.ntmps8
  go_wp2_with fail
  refine (HS0.out _).mono ?_
  rintro e w1 ⟨A, c, rfl, ht1, _, hb1⟩
  have HW := Lib.hid (raw_new (c := c) hb1 (HK.out.below hb1) ht1)
  clear hb1 ht1 HS0 HK
  go_upto_region 3 with fail
  generalize ((((w1.alloc (.cells #[.int .i64 11, .int .i64 41] 3)).alloc (.cells #[.int .i64 0, .string rw96, .int .i64 2, .string rw30] 61)).alloc (.cells #[.int .i64 1, .int .i64 0, .slice A 28 c, .slice none 0 0, .slice none 0 0, .slice (some ⟨w1.heap.size, 0, none⟩) 2 2, .slice (some ⟨w1.heap.size + 1, 0, none⟩) 2 2] 32)).alloc (.cells #[.int .i64 3, .string rwZ, .int .i64 11, .string rwN] 63)).alloc (.cells #[.string rw0, .slice (some ⟨w1.heap.size + 1 + 1 + 1, 0, none⟩) 2 2] 45) = U at *
  generalize w1.heap.size = g at *
  obtain ⟨c0, c1, c2, c3, c4, c5, c6⟩ := HW.out.2.2.1.cells
  obtain ⟨m0, m1, _, _⟩ := obj_cells HW.out.2.2.2.1
  go_wp2_with fail
  clear c0 c1 c2 c3 c4 c5 c6 m0 m1
  refine (raw_build HW.out).mono ?_
  rintro e w2 ⟨X, k, rfl, ht2, hb2⟩
  have hbn := below_al w2 (.cells #[.string rw1, .slice X 2 k] 45)
  have HW2 := Lib.hid (HW.out.below (hbt hb2 hbn))
  have HT2 := Lib.hid (ht2.below hbn)
  have HX2 : Hid (MBox (w2.alloc (.cells #[.string rw1, .slice X 2 k] 45)) w2.heap.size rw1 X 2 k) := mbox_new _ _ _ _ _
  clear hb2 hbn ht2 HW
  go_upto_region 4 with fail
  generalize w2.alloc (.cells #[.string rw1, .slice X 2 k] 45) = W2 at *
  generalize w2.heap.size = g2 at *
  obtain ⟨c0, c1, c2, c3, c4, c5, c6⟩ := HW2.out.2.2.1.cells
  go_wp2_with fail
  clear c0 c1 c2 c3 c4 c5 c6
  refine (raw_no HW2.out).mono ?_
  rintro e w3 ⟨rfl, hb3⟩
  have hbn := below_al w3 (.cells #[.string ⟨#[]⟩, .slice none 0 0] 45)
  have HW3 := Lib.hid (HW2.out.below (hbt hb3 hbn))
  have HT3 := Lib.hid (HT2.out.below (hbt hb3 hbn))
  have HX3 := Lib.hid (HX2.out.below (hbt hb3 hbn))
  clear hb3 hbn HW2 HT2 HX2
  go_upto_region 5 with fail
  generalize w3.alloc (.cells #[.string ⟨#[]⟩, .slice none 0 0] 45) = W3 at *
  obtain ⟨c0, c1, c2, c3, c4, c5, c6⟩ := HW3.out.2.2.1.cells
  go_wp2_with fail
  clear c0 c1 c2 c3 c4 c5 c6
  refine (raw_check HW3.out).mono ?_
  rintro e w4 ⟨rfl, hb4⟩
  have hbn := below_al w4 (.cells #[.int .i64 11, .string rwN, .int .i64 39, .string rw30] 63)
  have HW4 := Lib.hid (HW3.out.below (hbt hb4 hbn))
  have HT4 := Lib.hid (HT3.out.below (hbt hb4 hbn))
  have HX4 := Lib.hid (HX3.out.below hb4)
  have HR4 : Hid ((w4.alloc (.cells #[.int .i64 11, .string rwN, .int .i64 39, .string rw30] 63)).heap[w4.heap.size]? = some (.cells #[.int .i64 11, .string rwN, .int .i64 39, .string rw30] 63)) := heap_alloc_new _ _
  clear hb4 hbn HW3 HT3 HX3
  obtain ⟨x0, x1, _, _⟩ := obj_cells HX4.out
  go_wp2_with fail
  clear x0 x1
  refine (raw_same HT4.out HR4.out).mono ?_
  rintro e w5 ⟨rfl, hb5⟩
  have HW5 := Lib.hid (HW4.out.below hb5)
  obtain ⟨c0, c1, c2, c3, c4, c5, c6⟩ := HW5.out.2.2.1.cells
  clear hb5 HW4
  go_wp2_with fail
  clear c0 c1 c2 c3 c4 c5 c6
  refine (raw_code HW5.out).mono ?_
  rintro e w6 ⟨rfl, hb6⟩
  go_wp2
  go_ret
  exact ⟨rfl, hbt HW5.out.1 hb6⟩

end Go.Proofs.YtnbllngljgmebaaDoor
