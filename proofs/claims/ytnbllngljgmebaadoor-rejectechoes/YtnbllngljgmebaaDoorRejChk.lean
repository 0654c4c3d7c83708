/-
  What the program's Check of a side answers: in every world where the table of kinds reads as it is laid.
-/
import Derived.Test.YtnbllngljgmebaaDoorRejText
import Derived.Test.YtnbllngljgmebaaDoorRejLst
import Derived.Test.YtnbllngljgmebaaDoorPackSch
import Derived.Test.YtnbllngljgmebaaDoorPackSpc
import Derived.Test.YtnbllngljgmebaaDoorPackBase
import Derived.Deep.DeepCutAuto
namespace Go.Proofs.YtnbllngljgmebaaDoor
open Go.RowKit

set_option maxRecDepth 100000 in
set_option maxHeartbeats 1600000 in
theorem index_hit (B : Option Addr) (cB : Nat) (E : List Int) (i : Nat) (t : Int) (w : World) (hI : Ints w B E) (hn : E.length ≤ 1000) (hi : i < E.length) (hno : ∀ j, j < i → E.getD j 0 ≠ t) (ht : E.getD i 0 = t) :
    Calls Tryd.prog 70 #[.slice B E.length cB, .int .i64 t] w fun e w' => e = .returned (.int .i64 (i : Int)) ∧ w = w' := by
  have HI := Lib.hid hI
  have HNO := Lib.hid hno
  have HT := Lib.hid ht
  clear hI hno ht
  generalize hlen : E.length = len at *
  have HLEN := Lib.hid hlen
  clear hlen
  go_enter Tryd.func70, Tryd.ntmps70
  go_wp2
  go_loop [8] (fun x => ∃ k : Nat, k ≤ i ∧ x = .int .i64 (k : Int)) (fun x => len - (intOf x).toNat)
  case atStart => exact ⟨0, Nat.zero_le _, rfl⟩
  case round =>
    obtain ⟨k, hk, rfl⟩ := hrel
    have hlt : k < len := by omega
    obtain ⟨a, rfl, hc⟩ := HI.out k (by have := HLEN.out; omega)
    by_cases hki : k = i
    · have hz := HT.out
      rw [← hki] at hz
      rw [hz] at hc
      have HKI : Hid ((k : Int) = (i : Int)) := by show _ = _; omega
      clear hki
      go_wp2
      go_ret
      exact ⟨by rw [HKI.out]; rfl, rfl⟩
    · have hz := HNO.out k (by omega)
      generalize E.getD k 0 = z at *
      have hzt' : (t == z) = false := by simpa using fun e : t = z => hz e.symm
      clear hz
      go_wp2
      go_round
      case rel => exact ⟨k + 1, by omega, by go_num⟩
      case measure => simp [intOf]; omega
set_option maxRecDepth 100000 in
set_option maxHeartbeats 1600000 in
theorem index_miss (B : Option Addr) (cB : Nat) (E : List Int) (t : Int) (w : World) (hI : Ints w B E) (hn : E.length ≤ 1000) (hno : ∀ j, j < E.length → E.getD j 0 ≠ t) :
    Calls Tryd.prog 70 #[.slice B E.length cB, .int .i64 t] w fun e w' => e = .returned (.int .i64 (-1)) ∧ w = w' := by
  have HI := Lib.hid hI
  have HNO := Lib.hid hno
  clear hI hno
  generalize hlen : E.length = len at *
  have HLEN := Lib.hid hlen
  clear hlen
  go_enter Tryd.func70, Tryd.ntmps70
  go_wp2
  go_loop [8] (fun x => ∃ k : Nat, k ≤ len ∧ x = .int .i64 (k : Int)) (fun x => len - (intOf x).toNat)
  case atStart => exact ⟨0, Nat.zero_le _, rfl⟩
  case round =>
    obtain ⟨k, hk, rfl⟩ := hrel
    by_cases hlt : k < len
    · obtain ⟨a, rfl, hc⟩ := HI.out k (by have := HLEN.out; omega)
      have hz := HNO.out k hlt
      generalize E.getD k 0 = z at *
      have hzt' : (t == z) = false := by simpa using fun e : t = z => hz e.symm
      clear hz
      go_wp2
      go_round
      case rel => exact ⟨k + 1, by omega, by go_num⟩
      case measure => simp [intOf]; omega
    · go_wp2
      go_ret
      exact ⟨rfl, rfl⟩
set_option maxRecDepth 100000 in
set_option maxHeartbeats 1600000 in
theorem has_num (B : Option Addr) (cB : Nat) (E : List Int) (t : Int) (w : World) (hI : Ints w B E) (hn : E.length ≤ 1000) :
    Calls Tryd.prog 51 #[.slice B E.length cB, .int .i64 t] w fun e w' => e = .returned (.bool (decide (t ∈ E))) ∧ w = w' := by
  by_cases h : ∃ i, i < E.length ∧ E.getD i 0 = t
  · have hex : ∃ i, i < E.length ∧ E.getD i 0 = t ∧ ∀ j, j < i → E.getD j 0 ≠ t := by
      obtain ⟨i0, h0, h1⟩ := h
      clear hI hn
      induction i0 using Nat.strongRecOn with
      | _ i0 ih =>
        by_cases hj : ∃ j, j < i0 ∧ E.getD j 0 = t
        · obtain ⟨j, hj1, hj2⟩ := hj
          exact ih j hj1 (by omega) hj2
        · exact ⟨i0, h0, h1, fun j hj1 hj2 => hj ⟨j, hj1, hj2⟩⟩
    obtain ⟨i, h2, h3, h4⟩ := hex
    have HX := Lib.hid (index_hit B cB E i t w hI hn h2 h4 h3)
    have hm : t ∈ E := by rw [← h3, show E.getD i 0 = E[i] by simp [h2]]; exact List.getElem_mem h2
    rw [decide_eq_true hm]
    have hge : decide ((i : Int) ≥ 0) = true := by simp
    clear h h2 h3 h4 hm hI
    generalize E.length = len at *
    go_enter Tryd.func51, Tryd.ntmps51
    go_wp2_with fail
    refine HX.out.mono ?_
    rintro e w1 ⟨rfl, rfl⟩
    go_wp2
    go_ret
    exact ⟨rfl, rfl⟩
  · have hno : ∀ j, j < E.length → E.getD j 0 ≠ t := fun j hj e => h ⟨j, hj, e⟩
    have HX := Lib.hid (index_miss B cB E t w hI hn hno)
    have hm : t ∉ E := by
      intro hm
      obtain ⟨j, hj, e⟩ := List.getElem_of_mem hm
      exact hno j hj (by simp [hj, e])
    rw [decide_eq_false hm]
    clear h hno hm hI
    generalize E.length = len at *
    go_enter Tryd.func51, Tryd.ntmps51
    go_wp2_with fail
    refine HX.out.mono ?_
    rintro e w1 ⟨rfl, rfl⟩
    go_wp2
    go_ret
    exact ⟨rfl, rfl⟩

set_option maxRecDepth 100000 in
set_option maxHeartbeats 6400000 in
theorem chkecho_any (st v : Int) (A : Option Addr) (ca : Nat) (sl : List Sp) (B : Option Addr) (cB : Nat) (E : List Int) (w : World) (hA : Spl w A sl) (hI : Ints w B E) (hl : sl.length ≤ 1000) (hn : E.length ≤ 1000) (hcap : E.length ≤ cB) :
    Calls Tryd.prog 29 #[.agg #[.int .i64 st, .int .i64 v, .slice A sl.length ca], .slice B E.length cB] w fun e w' => e = .returned (.tuple #[.int .i64 (echoN sl E).1, .int .i64 (echoN sl E).2]) ∧ Below w.heap.size w w' := by
  have HF := Lib.hid (fun z W h => sfind_any st v A ca sl z W h hl)
  have HC : Hid (∀ (k : Nat) (z : Int) W, k ≤ E.length → Ints W B E → Calls Tryd.prog 51 #[.slice B k cB, .int .i64 z] W fun e w' => e = .returned (.bool (decide (z ∈ E.take k))) ∧ W = w') := fun k z W hk hW => by
    have := has_num B cB (E.take k) z W (ints_take hW hk) (by simp; omega)
    rw [show (E.take k).length = k by simp; omega] at this
    exact this
  have HCUT := Lib.hid (fun (k : Nat) (hk : k ≤ cB) W => cut_ints B E.length cB k hk W)
  have HH := Lib.hid (fun i h1 h2 h3 => @echoN_hit sl E i h1 h2 h3)
  have HOK := Lib.hid (@echoN_ok sl E)
  have hb0 := below_al w (.cells #[.int .i64 st, .int .i64 v, .slice A sl.length ca] 24)
  have HB0 := Lib.hid hb0
  have HX0 : Hid (Box (w.alloc (.cells #[.int .i64 st, .int .i64 v, .slice A sl.length ca] 24)) w.heap.size st v A sl.length ca) := box_new _ _ _ _ _ _
  have HA := Lib.hid (hA.below hb0)
  have HI := Lib.hid (hI.below hb0)
  clear hA hI hb0
  generalize sl.length = la at *
  generalize hlen : E.length = len at *
  have HLEN := Lib.hid hlen
  clear hlen
  go_enter Tryd.func29, Tryd.ntmps29
  go_wp2
  generalize w.alloc (.cells #[.int .i64 st, .int .i64 v, .slice A la ca] 24) = U at *
  go_loopw [12] (fun i wr => ∃ k : Nat, k ≤ len ∧ i = .int .i64 (k : Int) ∧ (∀ j, j < k → rjE sl E j = 0) ∧ Below U.heap.size U wr) (fun i _ => len - (intOf i).toNat)
  case atStart => exact ⟨0, Nat.zero_le _, rfl, fun j hj => by omega, Below.refl _ _⟩
  case round =>
    obtain ⟨k, hk, rfl, hno, hb⟩ := hrel
    have HNO := Lib.hid hno
    have HB := Lib.hid hb
    obtain ⟨s0, s1, s2⟩ := obj_cells3 (HX0.out.below hb)
    clear hno hb
    by_cases hlt : k < len
    · obtain ⟨a, rfl, hc⟩ := HI.out.below HB.out k (by have := HLEN.out; omega)
      generalize hz : E.getD k 0 = z at *
      have HZ := Lib.hid hz
      have hf := HF.out z
      have HR1 := Lib.hid (fun h => @rjE_none sl E k z hz h)
      have HR2 := Lib.hid (fun h h' => @rjE_39 sl E k z hz h h')
      have HR3 := Lib.hid (fun h h' h'' => @rjE_twice sl E k z hz h h' h'')
      have HR4 := Lib.hid (fun h h' h'' => @rjE_ok sl E k z hz h h' h'')
      have HHK := Lib.hid (fun h => HH.out k (by have := HLEN.out; omega) HNO.out h)
      clear hz
      generalize hX : (fndP z sl).1 = X at *
      generalize (fndP z sl).2 = ok at *
      obtain ⟨a1, a2, a3, a4, a5⟩ := X
      dsimp only [spV] at hf
      have HQ := Lib.hid hf
      clear hf hX
      go_wp2_with fail
      clear s0 s1 s2 hc
      refine (HQ.out _ (HA.out.below HB.out)).mono ?_
      rintro e w1 ⟨rfl, hb1⟩
      have HB1 := Lib.hid (hbt HB.out (hbt hb1 (below_al w1 (.cells #[.int .i64 a1, .int .i64 a2, .int .i64 a3, .int .i64 a4, .int .i64 a5] 67))))
      clear hb1
      cases ok
      · have HE := Lib.hid (HHK.out (by rw [HR1.out rfl]; decide))
        rw [HR1.out rfl] at HE
        go_wp2
        go_ret2
        exact ⟨by rw [HE.out]; rfl, hbt HB0.out HB1.out⟩
      · by_cases h39 : z = 39
        · have HE := Lib.hid (HHK.out (by rw [HR2.out rfl h39]; decide))
          rw [HR2.out rfl h39] at HE
          subst h39
          go_wp2
          go_ret2
          exact ⟨by rw [HE.out]; rfl, hbt HB0.out HB1.out⟩
        · have h39' : (z == 39) = false := by simpa using h39
          have HS3 := Lib.hid (HR3.out rfl h39)
          have HS4 := Lib.hid (HR4.out rfl h39)
          have hcut := HCUT.out k (by omega)
          have HCK := Lib.hid (fun W => HC.out k z W (by omega))
          clear h39 HR1 HR2 HR3 HR4
          generalize decide (z ∈ E.take k) = tw at *
          go_wp2_with fail
          clear hcut
          refine (HCK.out _ (HI.out.below HB1.out)).mono ?_
          rintro e w2 ⟨rfl, rfl⟩
          cases tw
          · have HE := Lib.hid (HS4.out rfl)
            go_wp2
            go_roundw
            case rel =>
              refine ⟨k + 1, by omega, by go_num, fun j hj => ?_, HB1.out⟩
              rcases Nat.lt_or_ge j k with h | h
              · exact HNO.out j h
              · obtain rfl : j = k := by omega
                exact HE.out
            case measure => simp [intOf]; omega
          · have HE := Lib.hid (HHK.out (by rw [HS3.out rfl]; decide))
            rw [HS3.out rfl] at HE
            go_wp2
            go_ret2
            exact ⟨by rw [HE.out]; rfl, hbt HB0.out HB1.out⟩
    · have HE := Lib.hid (HOK.out fun j hj => HNO.out j (by omega))
      clear s0 s1 s2
      go_wp2
      go_ret2
      exact ⟨by rw [HE.out]; rfl, hbt HB0.out HB.out⟩

set_option maxRecDepth 100000 in
set_option maxHeartbeats 6400000 in
theorem chkcodes_any (n c f lo hi : Int) (D : Option Addr) (cD : Nat) (C : List Item) (sl : List Sp) (w : World) (hK : Kinds w) (hI : Tlvs w D C) (hn : C.length ≤ 1000) (hcap : C.length ≤ cD) (hs : ∀ x ∈ C, x.2.size ≤ maxLen) (hsp : (fndP 39 sl).1 = (n, c, f, lo, hi)) :
    Calls Tryd.prog 30 #[.agg #[.int .i64 n, .int .i64 c, .int .i64 f, .int .i64 lo, .int .i64 hi], .slice D C.length cD] w fun e w' => e = .returned (.tuple #[.int .i64 (codesN sl C).1, .int .i64 (codesN sl C).2]) ∧ Below w.heap.size w w' := by
  have HV := Lib.hid (fun s W k0 h => spvalue_any n c f lo hi s W k0 h)
  have HT : Hid (∀ (k : Nat) (z : Int) W, k ≤ C.length → Tlvs W D C → Calls Tryd.prog 36 #[.slice D k cD, .int .i64 z] W fun e w' => e = .returned (.tuple #[.string (findS (C.take k) z), .bool (findB (C.take k) z)]) ∧ Below W.heap.size W w') := fun k z W hk hW => by
    have := text_any D cD (C.take k) z W (tlvs_take hW hk) (by simp only [List.length_take]; unfold maxLen; omega)
    rw [show (C.take k).length = k by simp; omega] at this
    exact this
  have HT0 := Lib.hid (fun W h => text_any D cD C 0 W h (by unfold maxLen; omega))
  have HCUT := Lib.hid (fun (k : Nat) (hk : k ≤ cD) W => cut_codes D C.length cD k hk W)
  have HH := Lib.hid (fun i h1 h2 h3 => @codesN_hit sl C i h1 h2 h3)
  have HTB := Lib.hid (@codesN_table sl C)
  have HOK := Lib.hid (@codesN_ok sl C)
  have HS := Lib.hid hs
  have HSP : Hid (∀ s, spvS (fndP 39 sl).1 s = spv n c f lo hi s) := fun s => by rw [hsp]; rfl
  have hb0 := below_al w (.cells #[.int .i64 n, .int .i64 c, .int .i64 f, .int .i64 lo, .int .i64 hi] 67)
  have HB0 := Lib.hid hb0
  have HX0 : Hid ((w.alloc (.cells #[.int .i64 n, .int .i64 c, .int .i64 f, .int .i64 lo, .int .i64 hi] 67)).heap[w.heap.size]? = some (.cells #[.int .i64 n, .int .i64 c, .int .i64 f, .int .i64 lo, .int .i64 hi] 67)) := heap_alloc_new _ _
  have HI := Lib.hid (hI.below hb0)
  have HK := Lib.hid (hK.below hb0)
  clear hI hb0 hK hs hsp
  generalize hlen : C.length = len at *
  have HLEN := Lib.hid hlen
  clear hlen
  go_enter Tryd.func30, Tryd.ntmps30
  go_wp2
  generalize w.alloc (.cells #[.int .i64 n, .int .i64 c, .int .i64 f, .int .i64 lo, .int .i64 hi] 67) = U at *
  go_loopw [15] (fun i wr => ∃ k : Nat, k ≤ len ∧ i = .int .i64 (k : Int) ∧ (∀ j, j < k → rjC sl C j = 0) ∧ Below U.heap.size U wr) (fun i _ => len - (intOf i).toNat)
  case atStart => exact ⟨0, Nat.zero_le _, rfl, fun j hj => by omega, Below.refl _ _⟩
  case round =>
    obtain ⟨k, hk, rfl, hno, hb⟩ := hrel
    have HNO := Lib.hid hno
    have HB := Lib.hid hb
    clear hno hb
    by_cases hlt : k < len
    · have hkl : k < C.length := by have := HLEN.out; omega
      obtain ⟨a, z, s, rfl, hx, hc, hd⟩ := (HI.out.below HB.out).at_ hkl
      have hsz := HS.out (itemAt C k) (by rw [itemAt_get hkl]; exact List.getElem_mem hkl)
      rw [hx] at hsz
      have HSZ := Lib.hid hsz
      have HR1 := Lib.hid (fun h => @rjC_range sl C k z s hx h)
      have HR2 := Lib.hid (fun h h' => @rjC_twice sl C k z s hx h h')
      have HR3 := Lib.hid (fun h h' => (@rjC_value sl C k z s hx h h').trans (HSP.out s))
      have HHK := Lib.hid (fun h => HH.out k hlt HNO.out h)
      have HV1 := Lib.hid (fun W k0 => HV.out s W k0 HSZ.out)
      have HCK := Lib.hid (fun W => HT.out k z W (Nat.le_of_lt hlt))
      have hcut := HCUT.out k (by omega)
      have HB1 := Lib.hid (hbt HB.out (below_al wr (.cells #[.int .i64 z, .string s] 61)))
      have HO1 : Hid ((wr.alloc (.cells #[.int .i64 z, .string s] 61)).heap[wr.heap.size]? = some (.cells #[.int .i64 z, .string s] 61)) := heap_alloc_new _ _
      clear hx hsz hkl
      generalize spv n c f lo hi s = ve at *
      generalize findB (C.take k) z = tw at *
      generalize findS (C.take k) z = ts at *
      by_cases h1 : z < 0 ∨ 16 < z
      · have HE := Lib.hid (HHK.out (by rw [HR1.out h1]; decide))
        rw [HR1.out h1] at HE
        clear hcut
        by_cases h0 : z < 0
        · have t0 : decide (z < 0) = true := by simpa using h0
          clear h1 h0
          go_wp2
          go_ret2
          exact ⟨by rw [HE.out]; rfl, hbt HB0.out HB1.out⟩
        · have t0 : decide (z < 0) = false := by simpa using h0
          have t1 : decide (z > 16) = true := by simp; omega
          clear h1 h0
          go_wp2
          go_ret2
          exact ⟨by rw [HE.out]; rfl, hbt HB0.out HB1.out⟩
      · have t0 : decide (z < 0) = false := by simp; omega
        have t1 : decide (z > 16) = false := by simp; omega
        have HS2 := Lib.hid (HR2.out h1)
        have HS3 := Lib.hid (HR3.out h1)
        clear h1 HR1 HR2 HR3
        go_upto_region 4 with fail
        generalize wr.alloc (.cells #[.int .i64 z, .string s] 61) = W1 at *
        generalize wr.heap.size = g1 at *
        obtain ⟨o0, o1, _, _⟩ := obj_cells HO1.out
        clear hc hd
        go_wp2_with fail
        clear o0 o1
        refine wp_region_noPanic ?_
        refine wp_region_held_drew (S := (fun u => Below W1.heap.size W1 u)) (by kernel_rfl) ((Below.refl _ _).drew) (fun hS => ?_)
        refine gv 0 (v := ?_) (fun u hu => ?_) hS ?_
        rotate_left
        · ((obtain ⟨o0, o1, _, _⟩ := obj_cells (obj_below HO1.out hu)); go_simp; try (with_reducible rfl))
        try simp only [puts]
        refine gv 1 (v := ?_) (fun u hu => ?_) hS ?_
        rotate_left
        · ((obtain ⟨o0, o1, _, _⟩ := obj_cells (obj_below HO1.out hu)); go_simp; try (with_reducible rfl))
        try simp only [puts]
        refine gv 2 (v := ?_) (fun u hu => ?_) hS ?_
        rotate_left
        · ((obtain ⟨o0, o1, _, _⟩ := obj_cells (obj_below HO1.out hu)); go_simp; try (with_reducible rfl))
        try simp only [puts]
        refine gv 3 (v := ?_) (fun u hu => ?_) hS ?_
        rotate_left
        · ((obtain ⟨o0, o1, _, _⟩ := obj_cells (obj_below HO1.out hu)); go_simp; try (with_reducible rfl))
        try simp only [puts]
        refine gv 4 (v := ?_) (fun u hu => ?_) hS ?_
        rotate_left
        · ((obtain ⟨o0, o1, _, _⟩ := obj_cells (obj_below HO1.out hu)); go_simp; try (with_reducible rfl))
        try simp only [puts]
        refine only_call (i := 5) 36 #[.slice (some a) k cD, .int .i64 z] rfl (by kernel_rfl) (by rfl) ((HCK.out _ (HI.out.below (hbt HB1.out hS))).mono fun e w' he => ⟨he.1, hbt hS he.2⟩) ?_ ?_
        · (go_simp; try (with_reducible rfl))
        clear hS
        intro w5 hS
        try simp only [puts]
        refine gv 6 (v := ?_) (fun u hu => ?_) hS ?_
        rotate_left
        · ((obtain ⟨o0, o1, _, _⟩ := obj_cells (obj_below HO1.out hu)); go_simp; try (with_reducible rfl))
        try simp only [puts]
        refine gv 7 (v := ?_) (fun u hu => ?_) hS ?_
        rotate_left
        · ((obtain ⟨o0, o1, _, _⟩ := obj_cells (obj_below HO1.out hu)); go_simp; try (with_reducible rfl))
        try simp only [puts]
        refine gv 8 (v := ?_) (fun u hu => ?_) hS ?_
        rotate_left
        · ((obtain ⟨o0, o1, _, _⟩ := obj_cells (obj_below HO1.out hu)); go_simp; try (with_reducible rfl))
        try simp only [puts]
        refine gv 9 (v := ?_) (fun u hu => ?_) hS ?_
        rotate_left
        · ((obtain ⟨o0, o1, _, _⟩ := obj_cells (obj_below HO1.out hu)); go_simp; try (with_reducible rfl))
        try simp only [puts]
        refine gv 10 (v := ?_) (fun u hu => ?_) hS ?_
        rotate_left
        · ((obtain ⟨o0, o1, _, _⟩ := obj_cells (obj_below HO1.out hu)); go_simp; try (with_reducible rfl))
        try simp only [puts]
        refine wpAnyH_done (by kernel_rfl) (NoPanic.normal ?_) _
        rename World => W2
        have HB2 := Lib.hid (hbt HB1.out hS)
        have HO2 := Lib.hid (obj_below HO1.out hS)
        clear hS hcut
        cases tw
        · have HR3 := Lib.hid (HS3.out rfl)
          obtain ⟨o0, o1, _, _⟩ := obj_cells HO2.out
          obtain ⟨x0, x1, x2, x3, x4⟩ := obj_cells5 (obj_below HX0.out HB2.out)
          go_wp2_with fail
          clear o0 o1 x0 x1 x2 x3 x4
          refine (HV1.out _ (HK.out.below HB2.out)).mono ?_
          rintro e w3 ⟨rfl, hb3⟩
          have HB3 := Lib.hid (hbt HB2.out hb3)
          clear hb3
          by_cases hve : ve = 0
          · have HE := Lib.hid (HR3.out.trans hve)
            subst hve
            go_wp2
            go_roundw
            case rel =>
              refine ⟨k + 1, by omega, by go_num, fun j hj => ?_, HB3.out⟩
              rcases Nat.lt_or_ge j k with h | h
              · exact HNO.out j h
              · obtain rfl : j = k := by omega
                exact HE.out
            case measure => simp [intOf]; omega
          · have tv : (ve != 0) = true := by simpa using hve
            have HE := Lib.hid (HHK.out (by rw [HR3.out]; exact hve))
            rw [HR3.out] at HE
            clear hve
            go_wp2
            go_ret2
            exact ⟨by rw [HE.out]; rfl, hbt HB0.out HB3.out⟩
        · have HE := Lib.hid (HHK.out (by rw [HS2.out rfl]; decide))
          rw [HS2.out rfl] at HE
          go_wp2
          go_ret2
          exact ⟨by rw [HE.out]; rfl, hbt HB0.out HB2.out⟩
    · have HTB := Lib.hid (HTB.out fun j hj => HNO.out j (by have := HLEN.out; omega))
      have HOK := Lib.hid (HOK.out fun j hj => HNO.out j (by have := HLEN.out; omega))
      generalize findB C 0 = b0 at *
      generalize findS C 0 = s0 at *
      go_wp2_with fail
      refine (HT0.out _ (HI.out.below HB.out)).mono ?_
      rintro e w1 ⟨rfl, hb1⟩
      have HB1 := Lib.hid (hbt HB.out hb1)
      clear hb1
      cases b0
      · have HE := Lib.hid (HTB.out rfl)
        go_wp2
        go_ret2
        exact ⟨by rw [HE.out]; rfl, hbt HB0.out HB1.out⟩
      · have HE := Lib.hid (HOK.out rfl)
        go_wp2
        go_ret2
        exact ⟨by rw [HE.out]; rfl, hbt HB0.out HB1.out⟩

end Go.Proofs.YtnbllngljgmebaaDoor
