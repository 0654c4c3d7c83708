/-
  FieldsKeys: sets are the same just if they have the same numbers, however they were made; so they are keys: for every input, in every world.
-/
import Derived.Test.YtlclmhninhdfnaaFldOfs
import Derived.Test.YtlclmhninhdfnaaFldKey
import Derived.Test.YtlclmhninhdfnaaRegLate
namespace Go.Proofs.Ytlclmhninhdfnaa
open Go.RowKit

set_option maxHeartbeats 1600000 in
theorem keys_long (A B : Option Addr) (ca cb n m : Nat) (w : World) (hn : 200 < n ∨ 200 < m) (hm1 : n ≤ maxLen) (hm2 : m ≤ maxLen) :
    Calls Try.prog 7 #[.slice A n ca, .slice B m cb] w fun e w' => e = .returned (.bool true) ∧ Below w.heap.size w w' := by
  unfold maxLen at hm1 hm2
  by_cases h1 : 200 < n
  · go_enter Try.func7, Try.ntmps7
    go_wp2_with fail
    refine (awake_any _).mono ?_
    rintro e w1 ⟨rfl, hb1⟩
    go_wp2_with fail
    refine (awake_any _).mono ?_
    rintro e w2 ⟨rfl, hb2⟩
    go_wp2
    go_ret
    exact ⟨rfl, hbt hb1 hb2⟩
  · have h2 : 200 < m := by omega
    clear hn
    go_enter Try.func7, Try.ntmps7
    go_wp2_with fail
    refine (awake_any _).mono ?_
    rintro e w1 ⟨rfl, hb1⟩
    go_wp2_with fail
    refine (awake_any _).mono ?_
    rintro e w2 ⟨rfl, hb2⟩
    go_wp2
    go_ret
    exact ⟨rfl, hbt hb1 hb2⟩

theorem rev_step (zs : List Int) (j : Nat) (hj : j < zs.length) : ofH (zs.drop j).reverse = ofH (zs.drop (j + 1)).reverse ||| aH (zs.getD j 0) ∧ ofL (zs.drop j).reverse = ofL (zs.drop (j + 1)).reverse ||| aL (zs.getD j 0) := by
  rw [List.drop_eq_getElem_cons hj, List.reverse_cons, getD_get zs j hj]
  exact of_snoc _ _
theorem rev_all (zs : List Int) : ofH (zs.drop 0).reverse = ofH zs ∧ ofL (zs.drop 0).reverse = ofL zs := of_rev _ _ (by simp)
def KeyPair (w : World) (x y x' y' p q : Nat) (u : World) : Prop := (Below w.heap.size w u ∧ w.heap.size ≤ p ∧ w.heap.size ≤ q ∧ p ≠ q) ∧ u.heap[p]? = some (setO x y) ∧ u.heap[q]? = some (setO x' y')

theorem KeyPair.below {w u u' : World} {x y x' y' p q : Nat} (t : KeyPair w x y x' y' p q u) (hb : Below u.heap.size u u') : KeyPair w x y x' y' p q u' := ⟨⟨hbt t.1.1 hb, t.1.2⟩, obj_below t.2.1 hb, obj_below t.2.2 hb⟩
theorem KeyPair.drew {w u : World} {x y x' y' p q : Nat} (t : KeyPair w x y x' y' p q u) : KeyPair w x y x' y' p q u.drew := ⟨⟨t.1.1.drew, t.1.2⟩, t.2⟩
theorem KeyPair.store {w u : World} {x y x' y' p q : Nat} (t : KeyPair w x y x' y' p q u) (a b : Nat) : KeyPair w x y a b p q ((u.setCell ⟨q, 0, none⟩ (.int .u64 (a : Int))).setCell ⟨q, 1, none⟩ (.int .u64 (b : Int))) :=
  ⟨⟨below_set2 t.1.1 t.1.2.2.1 _ _, t.1.2⟩, obj_set_other t.2.1 t.1.2.2.2 _ _, obj_set2 t.2.2 _ _⟩
def KeyRel (zs : List Int) (w : World) (p q : Nat) (i : Value) (wr : World) : Prop :=
  ∃ (k : Nat) (z : Int), (z = (k : Int) - 1 ∧ k ≤ zs.length) ∧ i = .int .i64 z ∧ KeyPair w (ofH zs) (ofL zs) (ofH (zs.drop k).reverse) (ofL (zs.drop k).reverse) p q wr

set_option maxRecDepth 100000 in
set_option maxHeartbeats 6400000 in
theorem keys_short (A B : Option Addr) (ca cb : Nat) (zs ys : List Int) (w : World) (hA : Ints w A zs) (hB : Ints w B ys) (hn : zs.length ≤ 200) (hm : ys.length ≤ 200) :
    Calls Try.prog 7 #[.slice A zs.length ca, .slice B ys.length cb] w fun e w' => e = .returned (.bool true) ∧ Below w.heap.size w w' := by
  obtain ⟨i0, hi, hz0, hz1, hz2⟩ := info_parts Try.infoX64
  have hmm := @run_makeMap Try.prog
  have HIA := Lib.hid hA
  have HIB := Lib.hid hB
  have CO := Lib.hid (fun A c W h => of_any A c zs W h (by omega))
  have CO' := Lib.hid (fun A c W h => of_any A c ys W h (by omega))
  have CN := Lib.hid (fun W => of_any none 0 [] W (ints_nil _ _) (by simp))
  have CW := Lib.hid (fun (k : Nat) (n : Int) W => with_any (ofH (zs.drop k).reverse) (ofL (zs.drop k).reverse) n W (of_lt _).1 (of_lt _).2)
  have CR := Lib.hid (fun W h => refHalves_any A ca zs W h (by omega))
  have CR' := Lib.hid (fun W h => refHalves_any B cb ys W h (by omega))
  have HM := Lib.hid (fun W => map_one W (of_lt zs).1 (of_lt zs).2)
  have HU := Lib.hid (of_lt ys)
  have HZ := Lib.hid (of_lt zs)
  have HRA := Lib.hid (rev_all zs)
  clear hA hB
  unfold setV at *
  generalize hlen : zs.length = len at *
  have HLEN := Lib.hid hlen
  generalize hlen' : ys.length = len' at *
  have HLEN' := Lib.hid hlen'
  clear hlen hlen'
  go_enter Try.func7, Try.ntmps7
  go_wp2_with fail
  refine (awake_any _).mono ?_
  rintro e w1 ⟨rfl, hb1⟩
  have HB1 := Lib.hid hb1
  have HI1 := Lib.hid (HIA.out.below hb1)
  have HO : Hid ((w1.alloc (.cells #[] 3)).ownsRow w1.heap.size 3 1 (.slice (some ⟨w1.heap.size, 0, none⟩) 0 0) 0 []) := World.ownsRow_lit w1 #[] 0 (Nat.le_refl _) (by unfold maxLen; omega) rfl
  clear hb1
  go_upto_region 3 with fail
  go_cut [5, 6] (fun s5 s6 wx => ∃ p q : Nat, s5 = .pointer (some ⟨p, 0, none⟩) ∧ s6 = .pointer (some ⟨q, 0, none⟩) ∧ KeyPair w (ofH zs) (ofL zs) (ofH []) (ofL []) p q wx)
  case first =>
    by_cases h0 : len = 0
    · subst h0
      have hnil : zs = [] := List.eq_nil_of_length_eq_zero HLEN.out
      subst hnil
      cases A
      all_goals
        go_wp2_with fail
        refine (CO.out (some ⟨w1.heap.size, 0, none⟩) 0 _ (ints_nil _ _)).mono ?_
        rintro e w2 ⟨rfl, hb2⟩
        have HB2 := Lib.hid (hbt (hbt HB1.out (below_al _ _)) hb2)
        clear hb2
        go_wp2_with fail
        refine (CN.out _).mono ?_
        rintro e w4 ⟨rfl, hb4⟩
        have HB4 := Lib.hid (hbt HB2.out hb4)
        clear hb4
        go_wp2_with fail
        go_meet
        exact ⟨w4.heap.size, w4.heap.size + 1, rfl, rfl, ⟨hbt (hbt HB4.out (below_al _ _)) (below_al _ _), HB4.out.size, by have := HB4.out.size; omega, by omega⟩, heap_alloc2_old _ _ _, heap_alloc2_new _ _ _⟩
    · obtain ⟨a, rfl, _⟩ := HI1.out 0 (by have := HLEN.out; omega)
      have HN := Lib.hid (ints_news (HI1.out.below (below_al w1 (.cells #[] 3))))
      have hlm : (zs.map fun z => Value.int .i64 z).length = len * 1 := by have := HLEN.out; simp; omega
      have HLM := Lib.hid hlm
      have hl0 : 0 < len := by omega
      clear hlm
      go_wp2_with (at_builtin; refine wpList_append_lies _ rfl _ _ _ rfl w1.heap.size 3 i0 _ 1 8 Try.underlying28 hi hz0 hz1 hz2 rfl (by omega) (.slice (some ⟨w1.heap.size, 0, none⟩) 0 0) 0 [] rfl HO.out a len ca (zs.map fun z => Value.int .i64 z) rfl HLM.out HN.out (by simp [Value.oneCell']) hl0 (by unfold maxLen; omega) (by omega) (by simp) (w1.heap.size + 1) (by simp) ?_; intro g' cap' w2 hown2 hgrow hat hlt2)
      have HI2 := Lib.hid (ints_copy (n := len) (by simpa using hown2) HLEN.out)
      have hb2 : Below w1.heap.size w1 w2 := (below_al w1 _).grown hgrow (by simp) (by intro q hq; simp [Value.ownBlock] at hq; omega)
      have HB0 := Lib.hid (hbt HB1.out hb2)
      clear hown2 hgrow hat hlt2 hb2
      refine (CO.out _ cap' _ HI2.out).mono ?_
      rintro e w3 ⟨rfl, hb3⟩
      have HB2 := Lib.hid (hbt HB0.out hb3)
      clear hb3
      go_wp2_with fail
      refine (CN.out _).mono ?_
      rintro e w4 ⟨rfl, hb4⟩
      have HB4 := Lib.hid (hbt HB2.out hb4)
      clear hb4
      go_wp2_with fail
      go_meet
      exact ⟨w4.heap.size, w4.heap.size + 1, rfl, rfl, ⟨hbt (hbt HB4.out (below_al _ _)) (below_al _ _), HB4.out.size, by have := HB4.out.size; omega, by omega⟩, heap_alloc2_old _ _ _, heap_alloc2_new _ _ _⟩
  case rest =>
    obtain ⟨p, q, rfl, rfl, hT⟩ := hcut
    have HT := Lib.hid hT
    clear hT HO HI1 HB1
    go_wp2
    go_loopw [7] (KeyRel zs w p q) (fun i _ => (intOf i + 1).toNat)
    case atStart =>
      refine ⟨len, (len : Int) - 1, ⟨rfl, by rw [HLEN.out]; exact Nat.le_refl _⟩, rfl, ?_⟩
      have : zs.drop len = [] := by rw [← HLEN.out]; simp
      rw [this]
      exact HT.out
    case round =>
      obtain ⟨k, z, hz, rfl, hP⟩ := hrel
      have HP := Lib.hid hP
      clear hP HT
      cases k with
      | zero =>
        obtain rfl : z = -1 := by omega
        have hP := HP.out
        rw [HRA.out.1, HRA.out.2] at hP
        have HK := Lib.hid hP
        clear hz hP HP HRA CW CO CN
        generalize ofH zs = x at *
        generalize ofL zs = y at *
        generalize hu : ofH ys = u at *
        generalize hv : ofL ys = v at *
        have HI1 := Lib.hid (HIB.out.below HK.out.1.1)
        have HB1 := Lib.hid (Below.refl wr.heap.size wr)
        have HO : Hid ((wr.alloc (.cells #[] 3)).ownsRow wr.heap.size 3 1 (.slice (some ⟨wr.heap.size, 0, none⟩) 0 0) 0 []) := World.ownsRow_lit wr #[] 0 (Nat.le_refl _) (by unfold maxLen; omega) rfl
        clear hu hv
        go_upto_region 8 with fail
        go_cut [8] (fun s8 wx => ∃ r : Nat, s8 = .pointer (some ⟨r, 0, none⟩) ∧ wx.heap[r]? = some (setO u v) ∧ KeyPair w x y x y p q wx)
        case first =>
          by_cases h0 : len' = 0
          · subst h0
            have hnil : ys = [] := List.eq_nil_of_length_eq_zero HLEN'.out
            subst hnil
            cases B
            all_goals
              go_wp2_with fail
              refine (CO'.out (some ⟨wr.heap.size, 0, none⟩) 0 _ (ints_nil _ _)).mono ?_
              rintro e w2 ⟨rfl, hb2⟩
              have HB2 := Lib.hid (hbt (hbt HB1.out (below_al _ _)) hb2)
              clear hb2
              go_wp2_with fail
              go_meet
              exact ⟨w2.heap.size, rfl, heap_alloc_new _ _, HK.out.below (hbt HB2.out (below_al _ _))⟩
          · obtain ⟨a, rfl, _⟩ := HI1.out 0 (by have := HLEN'.out; omega)
            have HN := Lib.hid (ints_news (HI1.out.below (below_al wr (.cells #[] 3))))
            have hlm : (ys.map fun z => Value.int .i64 z).length = len' * 1 := by have := HLEN'.out; simp; omega
            have HLM := Lib.hid hlm
            have hl0 : 0 < len' := by omega
            clear hlm
            go_wp2_with (at_builtin; refine wpList_append_lies _ rfl _ _ _ rfl wr.heap.size 3 i0 _ 1 8 Try.underlying28 hi hz0 hz1 hz2 rfl (by omega) (.slice (some ⟨wr.heap.size, 0, none⟩) 0 0) 0 [] rfl HO.out a len' cb (ys.map fun z => Value.int .i64 z) rfl HLM.out HN.out (by simp [Value.oneCell']) hl0 (by unfold maxLen; omega) (by omega) (by simp) (wr.heap.size + 1) (by simp) ?_; intro g' cap' w2 hown2 hgrow hat hlt2)
            have HI2 := Lib.hid (ints_copy (n := len') (by simpa using hown2) HLEN'.out)
            have hb2 : Below wr.heap.size wr w2 := (below_al wr _).grown hgrow (by simp) (by intro q hq; simp [Value.ownBlock] at hq; omega)
            have HB0 := Lib.hid (hbt HB1.out hb2)
            clear hown2 hgrow hat hlt2 hb2
            refine (CO'.out _ cap' _ HI2.out).mono ?_
            rintro e w3 ⟨rfl, hb3⟩
            have HB2 := Lib.hid (hbt HB0.out hb3)
            clear hb3
            go_wp2_with fail
            go_meet
            exact ⟨w3.heap.size, rfl, heap_alloc_new _ _, HK.out.below (hbt HB2.out (below_al _ _))⟩
        case rest =>
          obtain ⟨r, rfl, hr, hK⟩ := hcut
          have HKB := Lib.hid hK.1.1
          obtain ⟨wm, hrun, hbm, hlk⟩ := HM.out wc
          have HBM := Lib.hid hbm
          have e1 := hlk x y HZ.out.1 HZ.out.2
          have e2 := hlk u v HU.out.1 HU.out.2
          rw [if_pos ⟨rfl, rfl⟩] at e1
          obtain ⟨c0, c1, _, _⟩ := obj_cells hK.2.1
          obtain ⟨d0, d1, _, _⟩ := obj_cells (obj_below hK.2.1 hbm)
          obtain ⟨d2, d3, _, _⟩ := obj_cells (obj_below hK.2.2 hbm)
          obtain ⟨d4, d5, _, _⟩ := obj_cells (obj_below hr hbm)
          have k1 := obj_lt hK.2.1
          clear hlk hbm hK hr HK HI1 HB1 HO HM HZ HU
          go_wp2_with fail
          refine (CR.out _ (HIA.out.below HKB.out)).mono ?_
          rintro e w2 ⟨rfl, rfl⟩
          go_wp2_with fail
          refine (CR'.out _ (HIB.out.below HKB.out)).mono ?_
          rintro e w2 ⟨rfl, rfl⟩
          by_cases hxu : x = u
          · subst hxu
            by_cases hyv : y = v
            · subst hyv
              rw [if_pos ⟨rfl, rfl⟩] at e2
              go_wp2
              go_ret
              exact ⟨rfl, hbt HKB.out HBM.out⟩
            · rw [if_neg (fun h => hyv h.2)] at e2
              have hyv' : ((y : Int) == (v : Int)) = false := by simp; omega
              go_wp2
              go_ret
              exact ⟨rfl, hbt HKB.out HBM.out⟩
          · rw [if_neg (fun h => hxu h.1)] at e2
            have hxu' : ((x : Int) == (u : Int)) = false := by simp; omega
            go_wp2
            go_ret
            exact ⟨rfl, hbt HKB.out HBM.out⟩
      | succ j =>
        obtain rfl : z = (j : Int) := by omega
        have hj : j < zs.length := by omega
        have hj2 : j < len := by have := HLEN.out; omega
        obtain ⟨a, rfl, _⟩ := HIA.out j hj
        have HC : Hid (∀ u, Below w.heap.size w u → u.cell? (a.add j) = some (.int .i64 (zs.getD j 0))) := fun u hu => by
          obtain ⟨a', ha, hc⟩ := (HIA.out.below hu) j hj
          injection ha with ha
          subst ha
          exact hc
        have HS := Lib.hid (rev_step zs j hj)
        have hw := CW.out (j + 1) (zs.getD j 0)
        generalize zs.getD j 0 = v at *
        generalize ofH (zs.drop (j + 1)).reverse = x' at *
        generalize ofL (zs.drop (j + 1)).reverse = y' at *
        generalize hxx : x' ||| aH v = x2 at *
        generalize hyy : y' ||| aL v = y2 at *
        have HW := Lib.hid hw
        clear hz hj hxx hyy hw
        generalize hX : ofH zs = x at *
        generalize hY : ofL zs = y at *
        have HX := Lib.hid hX
        have HY := Lib.hid hY
        clear hX hY
        go_wp2_with fail
        refine wp_region_noPanic ?_
        refine wp_region_late (KeyPair w x y x' y' p q) 6 (by kernel_rfl) (HP.out.drew) (fun hT => ?_)
        refine late_val (i := 0) (v := ?_) rfl (by kernel_rfl) (by kernel_rfl) (by kernel_rfl) (by kernel_rfl) (fun _ _ _ h => h) (by rfl) (fun u hu => ?_) hT ?_
        rotate_left
        · ((have hcv := HC.out u hu.1.1; obtain ⟨c0, c1, _, _⟩ := obj_cells hu.2.2; clear hu); go_simp; try (with_reducible rfl))
        try simp only [Act.put, List.setIfInBounds_toArray, List.set_cons_zero, List.set_cons_succ]
        refine late_val (i := 1) (v := ?_) rfl (by kernel_rfl) (by kernel_rfl) (by kernel_rfl) (by kernel_rfl) (fun _ _ _ h => h) (by rfl) (fun u hu => ?_) hT ?_
        rotate_left
        · ((have hcv := HC.out u hu.1.1; obtain ⟨c0, c1, _, _⟩ := obj_cells hu.2.2; clear hu); go_simp; try (with_reducible rfl))
        try simp only [Act.put, List.setIfInBounds_toArray, List.set_cons_zero, List.set_cons_succ]
        refine late_val (i := 2) (v := ?_) rfl (by kernel_rfl) (by kernel_rfl) (by kernel_rfl) (by kernel_rfl) (fun _ _ _ h => h) (by rfl) (fun u hu => ?_) hT ?_
        rotate_left
        · ((have hcv := HC.out u hu.1.1; obtain ⟨c0, c1, _, _⟩ := obj_cells hu.2.2; clear hu); go_simp; try (with_reducible rfl))
        try simp only [Act.put, List.setIfInBounds_toArray, List.set_cons_zero, List.set_cons_succ]
        refine late_val (i := 3) (v := ?_) rfl (by kernel_rfl) (by kernel_rfl) (by kernel_rfl) (by kernel_rfl) (fun _ _ _ h => h) (by rfl) (fun u hu => ?_) hT ?_
        rotate_left
        · ((have hcv := HC.out u hu.1.1; obtain ⟨c0, c1, _, _⟩ := obj_cells hu.2.2; clear hu); go_simp; try (with_reducible rfl))
        try simp only [Act.put, List.setIfInBounds_toArray, List.set_cons_zero, List.set_cons_succ]
        refine late_val (i := 4) (v := ?_) rfl (by kernel_rfl) (by kernel_rfl) (by kernel_rfl) (by kernel_rfl) (fun _ _ _ h => h) (by rfl) (fun u hu => ?_) hT ?_
        rotate_left
        · ((have hcv := HC.out u hu.1.1; obtain ⟨c0, c1, _, _⟩ := obj_cells hu.2.2; clear hu); go_simp; try (with_reducible rfl))
        try simp only [Act.put, List.setIfInBounds_toArray, List.set_cons_zero, List.set_cons_succ]
        refine late_call_only (i := 5) 21 #[.agg #[.int .u64 (x' : Int), .int .u64 (y' : Int)], .int .i64 v] rfl (by kernel_rfl) (by rfl) ((HW.out _).mono fun e w' he => ⟨he.1, hT.below he.2⟩) ?_ ?_
        · (go_simp; try (with_reducible rfl))
        clear hT
        intro w5 hT
        try simp only [Act.put, List.setIfInBounds_toArray, List.set_cons_zero, List.set_cons_succ]
        obtain ⟨c0, c1, f0, f1⟩ := obj_cells hT.2.2
        have HT5 := Lib.hid (hT.store x2 y2)
        clear hT
        refine late_only rfl (by kernel_rfl) (by rfl) (fun K hK => ?_)
        go_simp
        refine hK.out _ _ ?_
        clear hK
        try simp only [Act.put, List.setIfInBounds_toArray, List.set_cons_zero, List.set_cons_succ]
        refine late_done (by kernel_rfl) (NoPanic.normal ?_) _
        clear c0 c1 f0 f1
        go_wp2
        go_roundw
        case rel =>
          refine ⟨j, (j : Int) - 1, ⟨rfl, by have := HLEN.out; omega⟩, by go_num, ?_⟩
          rw [HX.out, HY.out, HS.out.1, HS.out.2]
          exact HT5.out
        case measure => simp [intOf]

theorem fieldsKeys_walk (A : Option Addr) (ca : Nat) (zs : List Int) (B : Option Addr) (cb : Nat) (ys : List Int) (w : World) (hA : Ints w A zs) (hm1 : zs.length ≤ maxLen) (_hz : ∀ z ∈ zs, -9223372036854775808 ≤ z ∧ z ≤ 9223372036854775807)
    (hB : Ints w B ys) (hm2 : ys.length ≤ maxLen) (_hy : ∀ z ∈ ys, -9223372036854775808 ≤ z ∧ z ≤ 9223372036854775807) :
    Calls Try.prog 7 #[.slice A zs.length ca, .slice B ys.length cb] w fun e w' => e = .returned (.bool true) ∧ Below w.heap.size w w' := by
  by_cases h : 200 < zs.length ∨ 200 < ys.length
  · exact keys_long A B ca cb zs.length ys.length w h hm1 hm2
  · exact keys_short A B ca cb zs ys w hA hB (by omega) (by omega)

end Go.Proofs.Ytlclmhninhdfnaa
