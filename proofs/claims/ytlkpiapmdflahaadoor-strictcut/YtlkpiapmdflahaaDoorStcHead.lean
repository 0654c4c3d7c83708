/-
  How many bytes the program's MTI takes, and which MTI it reads: in every world.
-/
import Derived.Test.YtlkpiapmdflahaaDoorStcOf
import Derived.Test.YtlkpiapmdflahaaDoorPackMti
import Derived.Test.YtlkpiapmdflahaaDoorPackBcd
import Derived.Test.YtlkpiapmdflahaaDoorWirCut
namespace Go.Proofs.YtlkpiapmdflahaaDoor
open Go.RowKit

theorem smtisize_1 (w : World) : Calls Tryd.prog 37 #[.int .i64 1] w fun e w' => e = .returned (.int .i64 4) ∧ w = w' := by
  go_enter Tryd.func37, Tryd.ntmps37
  go_wp2
  go_ret
  exact ⟨rfl, rfl⟩
theorem smtisize_2 (w : World) : Calls Tryd.prog 37 #[.int .i64 2] w fun e w' => e = .returned (.int .i64 2) ∧ w = w' := by
  have HS := Lib.hid (fun W => size_nat 4 W (by omega))
  go_enter Tryd.func37, Tryd.ntmps37
  go_wp2_with fail
  refine (HS.out _).mono ?_
  rintro e w1 ⟨rfl, rfl⟩
  go_wp2
  go_ret
  exact ⟨rfl, rfl⟩

set_option maxRecDepth 100000 in
set_option maxHeartbeats 1600000 in
theorem rmti_short1 (v : Int) (A : Option Addr) (len ca : Nat) (b : ByteArray) (w : World) (h : b.size < 4) :
    Calls Tryd.prog 18 #[.agg #[.int .i64 1, .int .i64 v, .slice A len ca], .string b] w fun e w' => e = .returned (.tuple #[.string ⟨#[]⟩, .int .i64 0, .int .i64 2]) ∧ Below w.heap.size w w' := by
  have tb : decide ((b.size : Int) < 4) = true := by simp; omega
  have HB := Lib.hid (below_al w (.cells #[.int .i64 1, .int .i64 v, .slice A len ca] 24))
  have HX := Lib.hid (box_new w 1 v A len ca)
  have HS := Lib.hid smtisize_1
  clear h
  go_enter Tryd.func18, Tryd.ntmps18
  go_wp2_with fail
  generalize w.alloc (.cells #[.int .i64 1, .int .i64 v, .slice A len ca] 24) = U at *
  refine (HS.out _).mono ?_
  rintro e w1 ⟨rfl, rfl⟩
  obtain ⟨b0, b1, b2⟩ := obj_cells3 HX.out
  go_wp2
  go_ret3
  exact ⟨rfl, HB.out⟩
set_option maxRecDepth 100000 in
set_option maxHeartbeats 1600000 in
theorem rmti_none1 (v : Int) (A : Option Addr) (len ca : Nat) (b : ByteArray) (w : World) (h : 4 ≤ b.size) (t : ByteArray) (hcut : ∀ W : World, (Instr.slice 9 (.string b) none (some (.int .i64 4)) none).run Tryd.prog W = .ok (.string t) W) (y : Int) (hV : ∀ W, Calls Tryd.prog 33 #[.string t] W fun e w' => e = .returned (.tuple #[.int .i64 y, .bool false]) ∧ Below W.heap.size W w') :
    Calls Tryd.prog 18 #[.agg #[.int .i64 1, .int .i64 v, .slice A len ca], .string b] w fun e w' => e = .returned (.tuple #[.string ⟨#[]⟩, .int .i64 0, .int .i64 7]) ∧ Below w.heap.size w w' := by
  have tb : decide ((b.size : Int) < 4) = false := by simp; omega
  have HB := Lib.hid (below_al w (.cells #[.int .i64 1, .int .i64 v, .slice A len ca] 24))
  have HX := Lib.hid (box_new w 1 v A len ca)
  have HS := Lib.hid smtisize_1
  have HV := Lib.hid hV
  clear h hV
  go_enter Tryd.func18, Tryd.ntmps18
  go_wp2_with fail
  generalize w.alloc (.cells #[.int .i64 1, .int .i64 v, .slice A len ca] 24) = U at *
  refine (HS.out _).mono ?_
  rintro e w1 ⟨rfl, rfl⟩
  obtain ⟨b0, b1, b2⟩ := obj_cells3 HX.out
  go_wp2_with fail
  refine (HV.out _).mono ?_
  rintro e w3 ⟨rfl, hb3⟩
  clear b0 b1 b2
  obtain ⟨b0, b1, b2⟩ := obj_cells3 (HX.out.below hb3)
  go_wp2
  go_ret3
  exact ⟨rfl, hbt HB.out hb3⟩
set_option maxRecDepth 100000 in
set_option maxHeartbeats 1600000 in
theorem rmti_other1 (v : Int) (A : Option Addr) (len ca : Nat) (b : ByteArray) (w : World) (h : 4 ≤ b.size) (t : ByteArray) (hcut : ∀ W : World, (Instr.slice 9 (.string b) none (some (.int .i64 4)) none).run Tryd.prog W = .ok (.string t) W) (y : Int) (hV : ∀ W, Calls Tryd.prog 33 #[.string t] W fun e w' => e = .returned (.tuple #[.int .i64 y, .bool true]) ∧ Below W.heap.size W w') (hv : y ≠ v) :
    Calls Tryd.prog 18 #[.agg #[.int .i64 1, .int .i64 v, .slice A len ca], .string b] w fun e w' => e = .returned (.tuple #[.string ⟨#[]⟩, .int .i64 0, .int .i64 7]) ∧ Below w.heap.size w w' := by
  have tb : decide ((b.size : Int) < 4) = false := by simp; omega
  have tv : (y != v) = true := by simpa using hv
  have HB := Lib.hid (below_al w (.cells #[.int .i64 1, .int .i64 v, .slice A len ca] 24))
  have HX := Lib.hid (box_new w 1 v A len ca)
  have HS := Lib.hid smtisize_1
  have HV := Lib.hid hV
  clear h hV hv
  go_enter Tryd.func18, Tryd.ntmps18
  go_wp2_with fail
  generalize w.alloc (.cells #[.int .i64 1, .int .i64 v, .slice A len ca] 24) = U at *
  refine (HS.out _).mono ?_
  rintro e w1 ⟨rfl, rfl⟩
  obtain ⟨b0, b1, b2⟩ := obj_cells3 HX.out
  go_wp2_with fail
  refine (HV.out _).mono ?_
  rintro e w3 ⟨rfl, hb3⟩
  clear b0 b1 b2
  obtain ⟨b0, b1, b2⟩ := obj_cells3 (HX.out.below hb3)
  go_wp2
  go_ret3
  exact ⟨rfl, hbt HB.out hb3⟩
set_option maxRecDepth 100000 in
set_option maxHeartbeats 1600000 in
theorem rmti_yes1 (v : Int) (A : Option Addr) (len ca : Nat) (b : ByteArray) (w : World) (h : 4 ≤ b.size) (t : ByteArray) (hcut : ∀ W : World, (Instr.slice 9 (.string b) none (some (.int .i64 4)) none).run Tryd.prog W = .ok (.string t) W) (y : Int) (hV : ∀ W, Calls Tryd.prog 33 #[.string t] W fun e w' => e = .returned (.tuple #[.int .i64 y, .bool true]) ∧ Below W.heap.size W w') (hv : y = v) :
    Calls Tryd.prog 18 #[.agg #[.int .i64 1, .int .i64 v, .slice A len ca], .string b] w fun e w' => e = .returned (.tuple #[.string t, .int .i64 4, .int .i64 0]) ∧ Below w.heap.size w w' := by
  have tb : decide ((b.size : Int) < 4) = false := by simp; omega
  have tv : (y != v) = false := by simpa using hv
  have HB := Lib.hid (below_al w (.cells #[.int .i64 1, .int .i64 v, .slice A len ca] 24))
  have HX := Lib.hid (box_new w 1 v A len ca)
  have HS := Lib.hid smtisize_1
  have HV := Lib.hid hV
  clear h hV hv
  go_enter Tryd.func18, Tryd.ntmps18
  go_wp2_with fail
  generalize w.alloc (.cells #[.int .i64 1, .int .i64 v, .slice A len ca] 24) = U at *
  refine (HS.out _).mono ?_
  rintro e w1 ⟨rfl, rfl⟩
  obtain ⟨b0, b1, b2⟩ := obj_cells3 HX.out
  go_wp2_with fail
  refine (HV.out _).mono ?_
  rintro e w3 ⟨rfl, hb3⟩
  clear b0 b1 b2
  obtain ⟨b0, b1, b2⟩ := obj_cells3 (HX.out.below hb3)
  go_wp2
  go_ret3
  exact ⟨rfl, hbt HB.out hb3⟩
set_option maxRecDepth 100000 in
set_option maxHeartbeats 1600000 in
theorem rmti_short2 (v : Int) (A : Option Addr) (len ca : Nat) (b : ByteArray) (w : World) (h : b.size < 2) :
    Calls Tryd.prog 18 #[.agg #[.int .i64 2, .int .i64 v, .slice A len ca], .string b] w fun e w' => e = .returned (.tuple #[.string ⟨#[]⟩, .int .i64 0, .int .i64 2]) ∧ Below w.heap.size w w' := by
  have tb : decide ((b.size : Int) < 2) = true := by simp; omega
  have HB := Lib.hid (below_al w (.cells #[.int .i64 2, .int .i64 v, .slice A len ca] 24))
  have HX := Lib.hid (box_new w 2 v A len ca)
  have HS := Lib.hid smtisize_2
  clear h
  go_enter Tryd.func18, Tryd.ntmps18
  go_wp2_with fail
  generalize w.alloc (.cells #[.int .i64 2, .int .i64 v, .slice A len ca] 24) = U at *
  refine (HS.out _).mono ?_
  rintro e w1 ⟨rfl, rfl⟩
  obtain ⟨b0, b1, b2⟩ := obj_cells3 HX.out
  go_wp2
  go_ret3
  exact ⟨rfl, HB.out⟩
set_option maxRecDepth 100000 in
set_option maxHeartbeats 1600000 in
theorem rmti_none2 (v : Int) (A : Option Addr) (len ca : Nat) (b : ByteArray) (w : World) (h : 2 ≤ b.size) (t t0 : ByteArray) (hcut : ∀ W : World, (Instr.slice 9 (.string b) none (some (.int .i64 2)) none).run Tryd.prog W = .ok (.string t0) W) (x z : Int) (hb : ∀ W, Calls Tryd.prog 38 #[.string t0, .int .i64 4] W fun e w' => e = .returned (.tuple #[.string t, .int .i64 x, .int .i64 z]) ∧ Below W.heap.size W w') (y : Int) (hV : ∀ W, Calls Tryd.prog 33 #[.string t] W fun e w' => e = .returned (.tuple #[.int .i64 y, .bool false]) ∧ Below W.heap.size W w') :
    Calls Tryd.prog 18 #[.agg #[.int .i64 2, .int .i64 v, .slice A len ca], .string b] w fun e w' => e = .returned (.tuple #[.string ⟨#[]⟩, .int .i64 0, .int .i64 7]) ∧ Below w.heap.size w w' := by
  have tb : decide ((b.size : Int) < 2) = false := by simp; omega
  have HB := Lib.hid (below_al w (.cells #[.int .i64 2, .int .i64 v, .slice A len ca] 24))
  have HX := Lib.hid (box_new w 2 v A len ca)
  have HS := Lib.hid smtisize_2
  have HV := Lib.hid hV
  have HG := Lib.hid hb
  clear h hV hb
  go_enter Tryd.func18, Tryd.ntmps18
  go_wp2_with fail
  generalize w.alloc (.cells #[.int .i64 2, .int .i64 v, .slice A len ca] 24) = U at *
  refine (HS.out _).mono ?_
  rintro e w1 ⟨rfl, rfl⟩
  obtain ⟨b0, b1, b2⟩ := obj_cells3 HX.out
  go_wp2_with fail
  refine (HG.out _).mono ?_
  rintro e w2 ⟨rfl, hb2⟩
  have HB2 := Lib.hid (hbt HB.out hb2)
  have HX2 := Lib.hid (HX.out.below hb2)
  clear hb2 b0 b1 b2
  go_wp2_with fail
  refine (HV.out _).mono ?_
  rintro e w3 ⟨rfl, hb3⟩
  obtain ⟨b0, b1, b2⟩ := obj_cells3 (HX2.out.below hb3)
  go_wp2
  go_ret3
  exact ⟨rfl, hbt HB2.out hb3⟩
set_option maxRecDepth 100000 in
set_option maxHeartbeats 1600000 in
theorem rmti_other2 (v : Int) (A : Option Addr) (len ca : Nat) (b : ByteArray) (w : World) (h : 2 ≤ b.size) (t t0 : ByteArray) (hcut : ∀ W : World, (Instr.slice 9 (.string b) none (some (.int .i64 2)) none).run Tryd.prog W = .ok (.string t0) W) (x z : Int) (hb : ∀ W, Calls Tryd.prog 38 #[.string t0, .int .i64 4] W fun e w' => e = .returned (.tuple #[.string t, .int .i64 x, .int .i64 z]) ∧ Below W.heap.size W w') (y : Int) (hV : ∀ W, Calls Tryd.prog 33 #[.string t] W fun e w' => e = .returned (.tuple #[.int .i64 y, .bool true]) ∧ Below W.heap.size W w') (hv : y ≠ v) :
    Calls Tryd.prog 18 #[.agg #[.int .i64 2, .int .i64 v, .slice A len ca], .string b] w fun e w' => e = .returned (.tuple #[.string ⟨#[]⟩, .int .i64 0, .int .i64 7]) ∧ Below w.heap.size w w' := by
  have tb : decide ((b.size : Int) < 2) = false := by simp; omega
  have tv : (y != v) = true := by simpa using hv
  have HB := Lib.hid (below_al w (.cells #[.int .i64 2, .int .i64 v, .slice A len ca] 24))
  have HX := Lib.hid (box_new w 2 v A len ca)
  have HS := Lib.hid smtisize_2
  have HV := Lib.hid hV
  have HG := Lib.hid hb
  clear h hV hb hv
  go_enter Tryd.func18, Tryd.ntmps18
  go_wp2_with fail
  generalize w.alloc (.cells #[.int .i64 2, .int .i64 v, .slice A len ca] 24) = U at *
  refine (HS.out _).mono ?_
  rintro e w1 ⟨rfl, rfl⟩
  obtain ⟨b0, b1, b2⟩ := obj_cells3 HX.out
  go_wp2_with fail
  refine (HG.out _).mono ?_
  rintro e w2 ⟨rfl, hb2⟩
  have HB2 := Lib.hid (hbt HB.out hb2)
  have HX2 := Lib.hid (HX.out.below hb2)
  clear hb2 b0 b1 b2
  go_wp2_with fail
  refine (HV.out _).mono ?_
  rintro e w3 ⟨rfl, hb3⟩
  obtain ⟨b0, b1, b2⟩ := obj_cells3 (HX2.out.below hb3)
  go_wp2
  go_ret3
  exact ⟨rfl, hbt HB2.out hb3⟩
set_option maxRecDepth 100000 in
set_option maxHeartbeats 1600000 in
theorem rmti_yes2 (v : Int) (A : Option Addr) (len ca : Nat) (b : ByteArray) (w : World) (h : 2 ≤ b.size) (t t0 : ByteArray) (hcut : ∀ W : World, (Instr.slice 9 (.string b) none (some (.int .i64 2)) none).run Tryd.prog W = .ok (.string t0) W) (x z : Int) (hb : ∀ W, Calls Tryd.prog 38 #[.string t0, .int .i64 4] W fun e w' => e = .returned (.tuple #[.string t, .int .i64 x, .int .i64 z]) ∧ Below W.heap.size W w') (y : Int) (hV : ∀ W, Calls Tryd.prog 33 #[.string t] W fun e w' => e = .returned (.tuple #[.int .i64 y, .bool true]) ∧ Below W.heap.size W w') (hv : y = v) :
    Calls Tryd.prog 18 #[.agg #[.int .i64 2, .int .i64 v, .slice A len ca], .string b] w fun e w' => e = .returned (.tuple #[.string t, .int .i64 2, .int .i64 0]) ∧ Below w.heap.size w w' := by
  have tb : decide ((b.size : Int) < 2) = false := by simp; omega
  have tv : (y != v) = false := by simpa using hv
  have HB := Lib.hid (below_al w (.cells #[.int .i64 2, .int .i64 v, .slice A len ca] 24))
  have HX := Lib.hid (box_new w 2 v A len ca)
  have HS := Lib.hid smtisize_2
  have HV := Lib.hid hV
  have HG := Lib.hid hb
  clear h hV hb hv
  go_enter Tryd.func18, Tryd.ntmps18
  go_wp2_with fail
  generalize w.alloc (.cells #[.int .i64 2, .int .i64 v, .slice A len ca] 24) = U at *
  refine (HS.out _).mono ?_
  rintro e w1 ⟨rfl, rfl⟩
  obtain ⟨b0, b1, b2⟩ := obj_cells3 HX.out
  go_wp2_with fail
  refine (HG.out _).mono ?_
  rintro e w2 ⟨rfl, hb2⟩
  have HB2 := Lib.hid (hbt HB.out hb2)
  have HX2 := Lib.hid (HX.out.below hb2)
  clear hb2 b0 b1 b2
  go_wp2_with fail
  refine (HV.out _).mono ?_
  rintro e w3 ⟨rfl, hb3⟩
  obtain ⟨b0, b1, b2⟩ := obj_cells3 (HX2.out.below hb3)
  go_wp2
  go_ret3
  exact ⟨rfl, hbt HB2.out hb3⟩

/-- What readMti answers. -/
def mtiR (k : Nat) (v : Int) (b : ByteArray) : ByteArray × Nat × Int := if b.size < tsz k then (⟨#[]⟩, 0, 2) else if mtiV (tgt k b) v = false then (⟨#[]⟩, 0, 7) else (tgt k b, tsz k, 0)
theorem cut_take' (s : ByteArray) (k : Nat) : s.extract 0 k = ⟨(s.data.toList.take k).toArray⟩ := by
  apply ext_eq
  rw [mk_list]
  simp
set_option maxRecDepth 100000 in
set_option maxHeartbeats 1600000 in
theorem rmti_any (k : Nat) (v : Int) (A : Option Addr) (len ca : Nat) (b : ByteArray) (w : World) (hk : k = 1 ∨ k = 2) :
    Calls Tryd.prog 18 #[.agg #[.int .i64 (k : Int), .int .i64 v, .slice A len ca], .string b] w fun e w' => e = .returned (.tuple #[.string (mtiR k v b).1, .int .i64 ((mtiR k v b).2.1 : Int), .int .i64 (mtiR k v b).2.2]) ∧ Below w.heap.size w w' := by
  unfold mtiR
  rcases hk with rfl | rfl
  · by_cases h : b.size < 4
    · rw [if_pos (show b.size < tsz 1 from h)]
      exact rmti_short1 v A len ca b w h
    · rw [if_neg (show ¬ b.size < tsz 1 from h)]
      have h' : 4 ≤ b.size := by omega
      have hcut : ∀ W : World, (Instr.slice 9 (.string b) none (some (.int .i64 4)) none).run Tryd.prog W = .ok (.string (tgt 1 b)) W := fun W => by
        have := cut_str b 4 h' W
        rw [cut_take'] at this
        exact this
      cases hm : mtiB (tgt 1 b).data.toList
      · rw [if_pos (mtiV_none hm)]
        exact rmti_none1 v A len ca b w h' _ hcut 0 (fun W => mver_no _ W hm)
      · obtain ⟨c0, c1, c2, c3, ht, ha, hb, hc, hd⟩ := mti_of hm
        have hV : ∀ W, Calls Tryd.prog 33 #[.string (tgt 1 b)] W fun e w' => e = .returned (.tuple #[.int .i64 ((c0.toNat - 48 : Nat) : Int), .bool true]) ∧ Below W.heap.size W w' := fun W => by
          rw [ht]
          exact mver_yes c0 c1 c2 c3 W ha hb hc hd
        have h48 : 48 ≤ c0.toNat := ((isD_iff c0).1 ha).1
        have hmv : mtiV (tgt 1 b) v = decide ((c0.toNat : Int) - 48 = v) := by rw [ht] at hm ⊢; exact mtiV_T4 hm
        by_cases hv : (c0.toNat : Int) - 48 = v
        · rw [if_neg (by rw [hmv, decide_eq_true hv]; decide)]
          exact rmti_yes1 v A len ca b w h' _ hcut _ hV (by omega)
        · rw [if_pos (by rw [hmv, decide_eq_false hv])]
          exact rmti_other1 v A len ca b w h' _ hcut _ hV (by omega)
  · by_cases h : b.size < 2
    · rw [if_pos (show b.size < tsz 2 from h)]
      exact rmti_short2 v A len ca b w h
    · rw [if_neg (show ¬ b.size < tsz 2 from h)]
      have h' : 2 ≤ b.size := by omega
      have hcut : ∀ W : World, (Instr.slice 9 (.string b) none (some (.int .i64 2)) none).run Tryd.prog W = .ok (.string (b.extract 0 2)) W := fun W => cut_str b 2 h' W
      have hbcd : ∀ W, Calls Tryd.prog 38 #[.string (b.extract 0 2), .int .i64 4] W fun e w' => e = .returned (.tuple #[.string (tgt 2 b), .int .i64 ((bget (b.data.toList.take 2) 4).2.1 : Int), .int .i64 ((bget (b.data.toList.take 2) 4).2.2 : Int)]) ∧ Below W.heap.size W w' := fun W => by
        have := bget_any (b.extract 0 2) 4 W
        rw [cut_take', mk_list] at this
        rw [cut_take']
        exact this
      cases hm : mtiB (tgt 2 b).data.toList
      · rw [if_pos (mtiV_none hm)]
        exact rmti_none2 v A len ca b w h' _ _ hcut _ _ hbcd 0 (fun W => mver_no _ W hm)
      · obtain ⟨c0, c1, c2, c3, ht, ha, hb, hc, hd⟩ := mti_of hm
        have hV : ∀ W, Calls Tryd.prog 33 #[.string (tgt 2 b)] W fun e w' => e = .returned (.tuple #[.int .i64 ((c0.toNat - 48 : Nat) : Int), .bool true]) ∧ Below W.heap.size W w' := fun W => by
          rw [ht]
          exact mver_yes c0 c1 c2 c3 W ha hb hc hd
        have h48 : 48 ≤ c0.toNat := ((isD_iff c0).1 ha).1
        have hmv : mtiV (tgt 2 b) v = decide ((c0.toNat : Int) - 48 = v) := by rw [ht] at hm ⊢; exact mtiV_T4 hm
        by_cases hv : (c0.toNat : Int) - 48 = v
        · rw [if_neg (by rw [hmv, decide_eq_true hv]; decide)]
          exact rmti_yes2 v A len ca b w h' _ _ hcut _ _ hbcd _ hV (by omega)
        · rw [if_pos (by rw [hmv, decide_eq_false hv])]
          exact rmti_other2 v A len ca b w h' _ _ hcut _ _ hbcd _ hV (by omega)

end Go.Proofs.YtlkpiapmdflahaaDoor
