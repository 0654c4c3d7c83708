/-
  FieldsOf: any numbers make the set of those that may be in one: for every input, in every world.
-/
import Derived.Test.YtlclmhninhdfnaaFldAwake
import Derived.Test.YtlclmhninhdfnaaFldList
import Derived.Test.YtlclmhninhdfnaaFldRefs
import Derived.Deep.DeepCutAuto
namespace Go.Proofs.Ytlclmhninhdfnaa
open Go.RowKit

set_option maxHeartbeats 1600000 in
theorem of_long (A : Option Addr) (cap : Nat) (n : Nat) (w : World) (hn : 500 < n) (hm : n ≤ maxLen) :
    Calls Try.prog 4 #[.slice A n cap] w fun e w' => e = .returned (.bool true) ∧ Below w.heap.size w w' := by
  unfold maxLen at hm
  go_enter Try.func4, Try.ntmps4
  go_wp2_with fail
  refine (awake_any _).mono ?_
  rintro e w1 ⟨rfl, hb1⟩
  go_wp2_with fail
  refine (awake_any _).mono ?_
  rintro e w2 ⟨rfl, hb2⟩
  go_wp2
  go_ret
  exact ⟨rfl, hbt hb1 hb2⟩

set_option maxHeartbeats 3200000 in
theorem of_short (A : Option Addr) (cap : Nat) (zs : List Int) (w : World) (hI : Ints w A zs) (hn : zs.length ≤ 500) :
    Calls Try.prog 4 #[.slice A zs.length cap] w fun e w' => e = .returned (.bool true) ∧ Below w.heap.size w w' := by
  obtain ⟨i0, hi, hz0, hz1, hz2⟩ := info_parts Try.infoX64
  have HI := Lib.hid hI
  have CO := Lib.hid (fun A c W h => of_any A c zs W h (by omega))
  have CH := Lib.hid (fun W => halves_any (ofH zs) (ofL zs) W)
  have CR := Lib.hid (fun W h => refHalves_any A cap zs W h (by omega))
  clear hI
  unfold setV at *
  generalize hlen : zs.length = len at *
  have HLEN := Lib.hid hlen
  clear hlen
  go_enter Try.func4, Try.ntmps4
  go_wp2_with fail
  refine (awake_any _).mono ?_
  rintro e w1 ⟨rfl, hb1⟩
  have HB1 := Lib.hid hb1
  have HI1 := Lib.hid (HI.out.below hb1)
  have HO : Hid ((w1.alloc (.cells #[] 3)).ownsRow w1.heap.size 3 1 (.slice (some ⟨w1.heap.size, 0, none⟩) 0 0) 0 []) := World.ownsRow_lit w1 #[] 0 (Nat.le_refl _) (by unfold maxLen; omega) rfl
  clear hb1
  go_upto_region 3 with fail
  go_cut [3] (fun s3 wx => ∃ p : Nat, s3 = .pointer (some ⟨p, 0, none⟩) ∧ wx.heap[p]? = some (setO (ofH zs) (ofL zs)) ∧ Below w.heap.size w wx)
  case first =>
    by_cases h0 : len = 0
    · subst h0
      have hnil : zs = [] := List.eq_nil_of_length_eq_zero HLEN.out
      subst hnil
      generalize ofH [] = x at *
      generalize ofL [] = y at *
      cases A
      all_goals
        go_wp2_with fail
        refine (CO.out (some ⟨w1.heap.size, 0, none⟩) 0 _ (ints_nil _ _)).mono ?_
        rintro e w2 ⟨rfl, hb2⟩
        go_wp2_with fail
        go_meet
        exact ⟨w2.heap.size, rfl, heap_alloc_new _ _, hbt (hbt (hbt HB1.out (below_al _ _)) hb2) (below_al _ _)⟩
    · obtain ⟨a, rfl, _⟩ := HI1.out 0 (by have := HLEN.out; omega)
      have HN := Lib.hid (ints_news (HI1.out.below (below_al w1 (.cells #[] 3))))
      have hlm : (zs.map fun z => Value.int .i64 z).length = len * 1 := by have := HLEN.out; simp; omega
      have HLM := Lib.hid hlm
      have hl0 : 0 < len := by omega
      clear hlm
      generalize ofH zs = x at *
      generalize ofL zs = y at *
      go_wp2_with (at_builtin; refine wpList_append_lies _ rfl _ _ _ rfl w1.heap.size 3 i0 _ 1 8 Try.underlying28 hi hz0 hz1 hz2 rfl (by omega) (.slice (some ⟨w1.heap.size, 0, none⟩) 0 0) 0 [] rfl HO.out a len cap (zs.map fun z => Value.int .i64 z) rfl HLM.out HN.out (by simp [Value.oneCell']) hl0 (by unfold maxLen; omega) (by omega) (by simp) (w1.heap.size + 1) (by simp) ?_; intro g' cap' w2 hown2 hgrow hat hlt2)
      have HI2 := Lib.hid (ints_copy (n := len) (by simpa using hown2) HLEN.out)
      have hb2 : Below w1.heap.size w1 w2 := (below_al w1 _).grown hgrow (by simp) (by intro q hq; simp [Value.ownBlock] at hq; omega)
      have HB2 := Lib.hid hb2
      clear hown2 hgrow hat hlt2 hb2
      refine (CO.out _ cap' _ HI2.out).mono ?_
      rintro e w3 ⟨rfl, hb3⟩
      have HB3 := Lib.hid hb3
      clear hb3
      go_wp2_with fail
      go_meet
      exact ⟨w3.heap.size, rfl, heap_alloc_new _ _, hbt (hbt (hbt HB1.out HB2.out) HB3.out) (below_al _ _)⟩
  case rest =>
    obtain ⟨p, rfl, ho, hb⟩ := hcut
    have HB := Lib.hid hb
    obtain ⟨c0, c1, _, _⟩ := obj_cells ho
    clear ho hb HO HI1 HB1
    generalize ofH zs = x at *
    generalize ofL zs = y at *
    go_wp2_with fail
    refine (CH.out _).mono ?_
    rintro e w3 ⟨rfl, hb3⟩
    have HB3 := Lib.hid (hbt HB.out hb3)
    clear hb3 c0 c1
    go_wp2_with fail
    refine (CR.out _ (HI.out.below HB3.out)).mono ?_
    rintro e w4 ⟨rfl, rfl⟩
    go_wp2
    go_ret
    exact ⟨rfl, HB3.out⟩

theorem fieldsOf_walk (A : Option Addr) (cap : Nat) (zs : List Int) (w : World) (hI : Ints w A zs) (hm : zs.length ≤ maxLen) (_hz : ∀ z ∈ zs, -9223372036854775808 ≤ z ∧ z ≤ 9223372036854775807) :
    Calls Try.prog 4 #[.slice A zs.length cap] w fun e w' => e = .returned (.bool true) ∧ Below w.heap.size w w' := by
  by_cases hn : zs.length ≤ 500
  · exact of_short A cap zs w hI hn
  · exact of_long A cap zs.length w (by omega) hm

end Go.Proofs.Ytlclmhninhdfnaa
