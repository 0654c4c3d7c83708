/-
  What the program's Check of a map answers: for every map whose rules have up to 5,000,000 pairs and schemas of up to 1000 specs, in every world where the table of kinds reads as it is laid.
-/
import Derived.Test.YtbhlennolghjmaaDoorXltRef
import Derived.Test.YtbhlennolghjmaaDoorXltSet
import Derived.Test.YtbhlennolghjmaaDoorPackRul
import Derived.Test.YtbhlennolghjmaaDoorPackMsg
import Derived.Test.YtbhlennolghjmaaDoorPackSch
import Derived.Test.YtbhlennolghjmaaDoorPackFld
namespace Go.Proofs.YtbhlennolghjmaaDoor
open Go.RowKit

/-- What is wrong with the pairs; with the rules. -/
def xpsN (va vb : Int) (M : List PairT) : Int × Int := if 256 < M.length then (5, 256) else match xfst M.length (mpE va vb M) with | some i => (mpE va vb M i, (i : Int)) | none => (0, 0)
def xrsN (a b : List Sp) (R : List Ru) : Int × Int := if 256 < R.length then (5, 256) else match xfst R.length (ruE a b R) with | some i => (ruE a b R i, (i : Int)) | none => (0, 0)
theorem xps_big {va vb : Int} {M : List PairT} (h : 256 < M.length) : xpsN va vb M = (5, 256) := by unfold xpsN; rw [if_pos h]
theorem xps_hit {va vb : Int} {M : List PairT} {i : Nat} (h : M.length ≤ 256) (hi : i < M.length) (hno : ∀ j, j < i → mpE va vb M j = 0) (he : mpE va vb M i ≠ 0) : xpsN va vb M = (mpE va vb M i, (i : Int)) := by unfold xpsN; rw [if_neg (by omega), xfst_hit hi hno he]
theorem xps_none {va vb : Int} {M : List PairT} (h : M.length ≤ 256) (h2 : ∀ j, j < M.length → mpE va vb M j = 0) : xpsN va vb M = (0, 0) := by unfold xpsN; rw [if_neg (by omega), xfst_none h2]
theorem xrs_big {a b : List Sp} {R : List Ru} (h : 256 < R.length) : xrsN a b R = (5, 256) := by unfold xrsN; rw [if_pos h]
theorem xrs_hit {a b : List Sp} {R : List Ru} {i : Nat} (h : R.length ≤ 256) (hi : i < R.length) (hno : ∀ j, j < i → ruE a b R j = 0) (he : ruE a b R i ≠ 0) : xrsN a b R = (ruE a b R i, (i : Int)) := by unfold xrsN; rw [if_neg (by omega), xfst_hit hi hno he]
theorem xrs_none {a b : List Sp} {R : List Ru} (h : R.length ≤ 256) (h2 : ∀ j, j < R.length → ruE a b R j = 0) : xrsN a b R = (0, 0) := by unfold xrsN; rw [if_neg (by omega), xfst_none h2]
theorem xlt_ps {st v : Int} {a : List Sp} {st' v' : Int} {b : List Sp} {M : List PairT} {R : List Ru} (h : (schN st v a).1 = 0) (h2 : (schN st' v' b).1 = 0) (h3 : (xpsN v v' M).1 ≠ 0) : xltN st v a st' v' b M R = ((xpsN v v' M).1, 2, (xpsN v v' M).2) := by
  by_cases hM : 256 < M.length
  · rw [xlt_pairs h h2 hM, xps_big hM]
  · cases hx : xfst M.length (mpE v v' M)
    · rw [xps_none (by omega) (xfst_zero hx)] at h3; exact absurd rfl h3
    · unfold xltN xpsN; rw [if_neg (by simp [h]), if_neg (by simp [h2]), if_neg hM, if_neg hM, hx]
theorem xlt_rs {st v : Int} {a : List Sp} {st' v' : Int} {b : List Sp} {M : List PairT} {R : List Ru} (h : (schN st v a).1 = 0) (h2 : (schN st' v' b).1 = 0) (h3 : (xpsN v v' M).1 = 0) : xltN st v a st' v' b M R = if (xrsN a b R).1 ≠ 0 then ((xrsN a b R).1, 3, (xrsN a b R).2) else (0, 0, 0) := by
  by_cases hM : 256 < M.length
  · rw [xps_big hM] at h3; cases h3
  · cases hx : xfst M.length (mpE v v' M)
    · have hz := xfst_zero hx
      by_cases hR : 256 < R.length
      · rw [xlt_rules h h2 (by omega) hz hR, xrs_big hR]; rfl
      · cases hy : xfst R.length (ruE a b R)
        · rw [xlt_ok h h2 (by omega) hz (by omega) (xfst_zero hy), xrs_none (by omega) (xfst_zero hy)]; rfl
        · rename_i i
          have hy2 := xfst_some hy
          unfold xltN xrsN
          rw [if_neg (by simp [h]), if_neg (by simp [h2]), if_neg hM, if_neg hR, hx, hy]
          simp only
          rw [if_neg hR, if_pos hy2.2]
    · rename_i i
      have hx2 := xfst_some hx
      unfold xpsN at h3
      rw [if_neg hM, hx] at h3
      exact absurd h3 hx2.2
/-- What the sizes of rules' texts may be, where the program reads them. -/
def Fit4 (l : List Ru) : Prop := ∀ r ∈ l, r.2.2.2.1.size ≤ maxLen ∧ r.2.2.2.2.length ≤ 5000000 ∧ Fit2 r.2.2.2.2
theorem Fit4.at_ {l : List Ru} (h : Fit4 l) {k : Nat} (hk : k < l.length) : (ruAt l k).2.2.2.1.size ≤ maxLen ∧ (ruAt l k).2.2.2.2.length ≤ 5000000 ∧ Fit2 (ruAt l k).2.2.2.2 := by rw [ruAt_get hk]; exact h _ (List.getElem_mem hk)

set_option maxRecDepth 100000 in
set_option maxHeartbeats 1600000 in
theorem xlook_any (A : Option Addr) (cap : Nat) (l : List PairT) (t : ByteArray) (w : World) (hI : Prs w A l) (hn : l.length ≤ 5000000) :
    Calls Tryd.prog 44 #[.slice A l.length cap, .string t] w fun e w' => e = .returned (.tuple #[.string (appS l t), .bool (appB l t)]) ∧ Below w.heap.size w w' := by
  have HI := Lib.hid hI
  clear hI
  generalize hlen : l.length = len at *
  have HLEN := Lib.hid hlen
  clear hlen
  go_enter Tryd.func44, Tryd.ntmps44
  go_wp2
  go_loopw [10] (fun i wr => ∃ k : Nat, k ≤ len ∧ i = .int .i64 (k : Int) ∧ (∀ j, j < k → (duoAt l j).1 ≠ t) ∧ Below w.heap.size w wr) (fun i _ => len - (intOf i).toNat)
  case atStart => exact ⟨0, Nat.zero_le _, rfl, fun j hj => by omega, Below.refl _ _⟩
  case round =>
    obtain ⟨k, hk, rfl, hno, hb⟩ := hrel
    have HNO := Lib.hid hno
    have HB := Lib.hid hb
    clear hno hb
    by_cases hlt : k < len
    · obtain ⟨a, s, v, rfl, hx, hc, hd⟩ := (HI.out.below HB.out).at_ (i := k) (by have := HLEN.out; omega)
      have HX := Lib.hid hx
      clear hx
      by_cases hst : s = t
      · subst hst
        have HF := Lib.hid (app_hit (by have := HLEN.out; omega) HNO.out (by rw [HX.out]))
        rw [HX.out] at HF
        dsimp only at HF
        go_wp2
        go_ret2
        exact ⟨by rw [HF.out.1, HF.out.2]; rfl, hbt HB.out (below_al _ _)⟩
      · have hzt := duo_ne hst
        have HST := Lib.hid hst
        clear hst
        go_wp2
        go_roundw
        case rel =>
          refine ⟨k + 1, by omega, by go_num, fun j hj => ?_, hbt HB.out (below_al _ _)⟩
          rcases Nat.lt_or_ge j k with h | h
          · exact HNO.out j h
          · obtain rfl : j = k := by omega
            rw [HX.out]; exact HST.out
        case measure => simp [intOf]; omega
    · have HF := Lib.hid (app_miss (l := l) (t := t) (fun j hj => HNO.out j (by have := HLEN.out; omega)))
      go_wp2
      go_ret2
      exact ⟨by rw [HF.out.1, HF.out.2]; rfl, HB.out⟩
set_option maxRecDepth 100000 in
set_option maxHeartbeats 1600000 in
theorem xisof_any (s : ByteArray) (v : Int) (w : World) : Calls Tryd.prog 61 #[.string s, .int .i64 v] w fun e w' => e = .returned (.bool (mtiV s v)) ∧ Below w.heap.size w w' := by
  obtain ⟨z, ok, hc, ht⟩ := mver_told s v
  have HC := Lib.hid hc
  rw [ht]
  clear hc ht
  have HZ : Hid (decide (z = v) = (z == v)) := by show _ = _; by_cases e : z = v <;> simp [e]
  rw [HZ.out]
  clear HZ
  cases ok
  · go_enter Tryd.func61, Tryd.ntmps61
    go_wp2_with fail
    refine (HC.out _).mono ?_
    rintro e w1 ⟨rfl, hb1⟩
    have HB := Lib.hid hb1
    clear hb1
    go_wp2
    go_ret
    exact ⟨rfl, HB.out⟩
  · rw [Bool.true_and]
    generalize hq : (z == v) = q
    go_enter Tryd.func61, Tryd.ntmps61
    go_wp2_with fail
    refine (HC.out _).mono ?_
    rintro e w1 ⟨rfl, hb1⟩
    have HB := Lib.hid hb1
    clear hb1
    go_wp2
    go_ret
    exact ⟨rfl, HB.out⟩

set_option maxRecDepth 100000 in
set_option maxHeartbeats 12800000 in
theorem xpairs_any (X : Option Addr) (cM : Nat) (M : List PairT) (v v' : Int) (w : World) (hM : Prs w X M) (hlM : M.length ≤ maxLen) (hcM : M.length ≤ cM) :
    Calls Tryd.prog 41 #[.slice X M.length cM, .int .i64 v, .int .i64 v'] w fun e w' => e = .returned (.tuple #[.int .i64 (xpsN v v' M).1, .int .i64 (xpsN v v' M).2]) ∧ Below w.heap.size w w' := by
  have HM := Lib.hid hM
  have HCA := Lib.hid (fun q x (h : q ≤ 256) (h2 : q ≤ M.length) W (k : Prs W X M) => xlook_any X cM (M.take q) x W (k.head q) (by rw [List.length_take]; omega))
  have HX3 := Lib.hid (@xps_big v v' M)
  have HX4 := Lib.hid (fun i => @xps_hit v v' M i)
  have HX5 := Lib.hid (@xps_none v v' M)
  generalize xpsN v v' M = Z at *
  unfold maxLen at hlM
  generalize hn : M.length = n at *
  have HLM := Lib.hid hn
  clear hn hM
  go_enter Tryd.func41, Tryd.ntmps41
  by_cases hM3 : 256 < n
  · have HE := Lib.hid (HX3.out hM3)
    have t3 : decide ((256 : Int) < (n : Int)) = true := by simp; omega
    clear hM3
    go_wp2
    go_ret2
    exact ⟨by rw [HE.out] <;> rfl, Below.refl _ _⟩
  · have hM4 : n ≤ 256 := by omega
    have t3 : decide ((256 : Int) < (n : Int)) = false := by simp; omega
    have HM4 := Lib.hid hM4
    have hn1 : (n : Int) < 1000 := by omega
    clear hM3 HX3
    go_wp2
    clear t3
    go_loopw [17] (fun i wr => ∃ q : Nat, q ≤ n ∧ i = .int .i64 (q : Int) ∧ Below w.heap.size w wr ∧ ∀ j, j < q → mpE v v' M j = 0) (fun i _ => n - (intOf i).toNat)
    case atStart => exact ⟨0, Nat.zero_le _, rfl, Below.refl _ _, fun j hj => by omega⟩
    case round =>
      obtain ⟨q, hq, rfl, hQ, hno⟩ := hrel
      have HQ3 := Lib.hid hQ
      have HNO := Lib.hid hno
      clear hQ hno
      by_cases hlt : q < n
      · have hql : q < M.length := by have := HLM.out; omega
        obtain ⟨pa, x, y, rfl, hxp, hcp⟩ := prs_all HM.out hql
        obtain ⟨z0, z1⟩ := hcp _ HQ3.out
        have HMP := Lib.hid (mpE_told (va := v) (vb := v') hxp)
        have HVX := Lib.hid (fun W => xisof_any x v W)
        have HVY := Lib.hid (fun W => xisof_any y v' W)
        have HAX := Lib.hid (fun W => mreq_any x W)
        have HAY := Lib.hid (fun W => mreq_any y W)
        have HAP := Lib.hid (fun W k => HCA.out q x (by have := HM4.out; omega) (by omega) W k)
        rw [app_ahead] at HAP
        have hcut := fun W => xcut_head pa n cM q (by omega) W
        have hll : (M.take q).length = q := by rw [List.length_take]; have := HLM.out; omega
        rw [hll] at HAP
        have HE4 := Lib.hid (fun h => HX4.out q HM4.out hlt HNO.out h)
        generalize mtiV x v = p1 at *
        generalize mtiV y v' = p2 at *
        generalize askB x.data.toList = q1 at *
        generalize askB y.data.toList = q2 at *
        generalize memB x (froms (M.take q)) = mb at *
        generalize appS (M.take q) x = ap at *
        generalize hee : mpE v v' M q = ee at *
        have HEE := Lib.hid hee
        clear hee
        have HQ4 := Lib.hid (hbt HQ3.out (below_al wr (.cells #[.string x, .string y] 62)))
        have HG4 : Hid ((wr.alloc (.cells #[.string x, .string y] 62)).heap[wr.heap.size]? = some (.cells #[.string x, .string y] 62)) := heap_alloc_new _ _
        clear hxp hcp hql hll
        go_wp2_with fail
        clear z0 z1
        generalize wr.alloc (.cells #[.string x, .string y] 62) = W4 at *
        generalize wr.heap.size = gp at *
        cases p1
        · skip
          refine wp_region_noPanic ?_
          refine wp_region_held_drew (S := (fun u => Below W4.heap.size W4 u)) (by kernel_rfl) ((Below.refl _ _).drew) (fun hS => ?_)
          refine gv 0 (v := ?_) (fun u hu => ?_) hS ?_
          rotate_left
          · ((obtain ⟨z0, z1, _, _⟩ := obj_cells (obj_below HG4.out hu)); go_simp; try (with_reducible rfl))
          try simp only [puts]
          refine gv 1 (v := ?_) (fun u hu => ?_) hS ?_
          rotate_left
          · ((obtain ⟨z0, z1, _, _⟩ := obj_cells (obj_below HG4.out hu)); go_simp; try (with_reducible rfl))
          try simp only [puts]
          refine gv 2 (v := ?_) (fun u hu => ?_) hS ?_
          rotate_left
          · ((obtain ⟨z0, z1, _, _⟩ := obj_cells (obj_below HG4.out hu)); go_simp; try (with_reducible rfl))
          try simp only [puts]
          refine only_call (i := 3) 61 #[.string x, .int .i64 v] rfl (by kernel_rfl) (by rfl) ((HVX.out _).mono fun e w' he => ⟨he.1, hbt hS he.2⟩) ?_ ?_
          · (go_simp; try (with_reducible rfl))
          clear hS
          intro w3 hS
          try simp only [puts]
          refine gv 4 (v := ?_) (fun u hu => ?_) hS ?_
          rotate_left
          · ((obtain ⟨z0, z1, _, _⟩ := obj_cells (obj_below HG4.out hu)); go_simp; try (with_reducible rfl))
          try simp only [puts]
          refine gv 5 (v := ?_) (fun u hu => ?_) hS ?_
          rotate_left
          · ((obtain ⟨z0, z1, _, _⟩ := obj_cells (obj_below HG4.out hu)); go_simp; try (with_reducible rfl))
          try simp only [puts]
          refine gs 6 hS ?_
          try simp only [puts]
          refine gs 7 hS ?_
          try simp only [puts]
          refine gs 8 hS ?_
          try simp only [puts]
          refine gs 9 hS ?_
          try simp only [puts]
          refine gs 10 hS ?_
          try simp only [puts]
          refine gv 11 (v := ?_) (fun u hu => ?_) hS ?_
          rotate_left
          · ((obtain ⟨z0, z1, _, _⟩ := obj_cells (obj_below HG4.out hu)); go_simp; try (with_reducible rfl))
          try simp only [puts]
          refine gv 12 (v := ?_) (fun u hu => ?_) hS ?_
          rotate_left
          · ((obtain ⟨z0, z1, _, _⟩ := obj_cells (obj_below HG4.out hu)); go_simp; try (with_reducible rfl))
          try simp only [puts]
          refine gs 13 hS ?_
          try simp only [puts]
          refine gs 14 hS ?_
          try simp only [puts]
          refine gs 15 hS ?_
          try simp only [puts]
          refine gs 16 hS ?_
          try simp only [puts]
          refine gs 17 hS ?_
          try simp only [puts]
          refine gs 18 hS ?_
          try simp only [puts]
          refine gs 19 hS ?_
          try simp only [puts]
          refine gv 20 (v := ?_) (fun u hu => ?_) hS ?_
          rotate_left
          · ((obtain ⟨z0, z1, _, _⟩ := obj_cells (obj_below HG4.out hu)); go_simp; try (with_reducible rfl))
          try simp only [puts]
          refine wpAnyH_done (by kernel_rfl) (NoPanic.normal ?_) _
          have HQ5 := Lib.hid (hbt HQ4.out hS)
          clear hS
          have HE7 : Hid (ee = 7) := by show _ = _; rw [HMP.out]; rfl
          have HE := Lib.hid (HE4.out (by rw [HE7.out]; decide))
          rw [HE7.out] at HE
          go_wp2
          go_ret2
          exact ⟨by rw [HE.out] <;> rfl, HQ5.out⟩
        · cases p2
          · skip
            refine wp_region_noPanic ?_
            refine wp_region_held_drew (S := (fun u => Below W4.heap.size W4 u)) (by kernel_rfl) ((Below.refl _ _).drew) (fun hS => ?_)
            refine gv 0 (v := ?_) (fun u hu => ?_) hS ?_
            rotate_left
            · ((obtain ⟨z0, z1, _, _⟩ := obj_cells (obj_below HG4.out hu)); go_simp; try (with_reducible rfl))
            try simp only [puts]
            refine gv 1 (v := ?_) (fun u hu => ?_) hS ?_
            rotate_left
            · ((obtain ⟨z0, z1, _, _⟩ := obj_cells (obj_below HG4.out hu)); go_simp; try (with_reducible rfl))
            try simp only [puts]
            refine gv 2 (v := ?_) (fun u hu => ?_) hS ?_
            rotate_left
            · ((obtain ⟨z0, z1, _, _⟩ := obj_cells (obj_below HG4.out hu)); go_simp; try (with_reducible rfl))
            try simp only [puts]
            refine only_call (i := 3) 61 #[.string x, .int .i64 v] rfl (by kernel_rfl) (by rfl) ((HVX.out _).mono fun e w' he => ⟨he.1, hbt hS he.2⟩) ?_ ?_
            · (go_simp; try (with_reducible rfl))
            clear hS
            intro w3 hS
            try simp only [puts]
            refine gv 4 (v := ?_) (fun u hu => ?_) hS ?_
            rotate_left
            · ((obtain ⟨z0, z1, _, _⟩ := obj_cells (obj_below HG4.out hu)); go_simp; try (with_reducible rfl))
            try simp only [puts]
            refine gv 5 (v := ?_) (fun u hu => ?_) hS ?_
            rotate_left
            · ((obtain ⟨z0, z1, _, _⟩ := obj_cells (obj_below HG4.out hu)); go_simp; try (with_reducible rfl))
            try simp only [puts]
            refine gv 6 (v := ?_) (fun u hu => ?_) hS ?_
            rotate_left
            · ((obtain ⟨z0, z1, _, _⟩ := obj_cells (obj_below HG4.out hu)); go_simp; try (with_reducible rfl))
            try simp only [puts]
            refine gv 7 (v := ?_) (fun u hu => ?_) hS ?_
            rotate_left
            · ((obtain ⟨z0, z1, _, _⟩ := obj_cells (obj_below HG4.out hu)); go_simp; try (with_reducible rfl))
            try simp only [puts]
            refine gv 8 (v := ?_) (fun u hu => ?_) hS ?_
            rotate_left
            · ((obtain ⟨z0, z1, _, _⟩ := obj_cells (obj_below HG4.out hu)); go_simp; try (with_reducible rfl))
            try simp only [puts]
            refine only_call (i := 9) 61 #[.string y, .int .i64 v'] rfl (by kernel_rfl) (by rfl) ((HVY.out _).mono fun e w' he => ⟨he.1, hbt hS he.2⟩) ?_ ?_
            · (go_simp; try (with_reducible rfl))
            clear hS
            intro w9 hS
            try simp only [puts]
            refine gv 10 (v := ?_) (fun u hu => ?_) hS ?_
            rotate_left
            · ((obtain ⟨z0, z1, _, _⟩ := obj_cells (obj_below HG4.out hu)); go_simp; try (with_reducible rfl))
            try simp only [puts]
            refine gv 11 (v := ?_) (fun u hu => ?_) hS ?_
            rotate_left
            · ((obtain ⟨z0, z1, _, _⟩ := obj_cells (obj_below HG4.out hu)); go_simp; try (with_reducible rfl))
            try simp only [puts]
            refine gv 12 (v := ?_) (fun u hu => ?_) hS ?_
            rotate_left
            · ((obtain ⟨z0, z1, _, _⟩ := obj_cells (obj_below HG4.out hu)); go_simp; try (with_reducible rfl))
            try simp only [puts]
            refine gs 13 hS ?_
            try simp only [puts]
            refine gs 14 hS ?_
            try simp only [puts]
            refine gs 15 hS ?_
            try simp only [puts]
            refine gs 16 hS ?_
            try simp only [puts]
            refine gs 17 hS ?_
            try simp only [puts]
            refine gs 18 hS ?_
            try simp only [puts]
            refine gs 19 hS ?_
            try simp only [puts]
            refine gv 20 (v := ?_) (fun u hu => ?_) hS ?_
            rotate_left
            · ((obtain ⟨z0, z1, _, _⟩ := obj_cells (obj_below HG4.out hu)); go_simp; try (with_reducible rfl))
            try simp only [puts]
            refine wpAnyH_done (by kernel_rfl) (NoPanic.normal ?_) _
            have HQ5 := Lib.hid (hbt HQ4.out hS)
            clear hS
            have HE7 : Hid (ee = 7) := by show _ = _; rw [HMP.out]; rfl
            have HE := Lib.hid (HE4.out (by rw [HE7.out]; decide))
            rw [HE7.out] at HE
            go_wp2
            go_ret2
            exact ⟨by rw [HE.out] <;> rfl, HQ5.out⟩
          · by_cases hqq : q1 = q2
            · subst hqq
              refine wp_region_noPanic ?_
              refine wp_region_held_drew (S := (fun u => Below W4.heap.size W4 u)) (by kernel_rfl) ((Below.refl _ _).drew) (fun hS => ?_)
              refine gv 0 (v := ?_) (fun u hu => ?_) hS ?_
              rotate_left
              · ((obtain ⟨z0, z1, _, _⟩ := obj_cells (obj_below HG4.out hu)); go_simp; try (with_reducible rfl))
              try simp only [puts]
              refine gv 1 (v := ?_) (fun u hu => ?_) hS ?_
              rotate_left
              · ((obtain ⟨z0, z1, _, _⟩ := obj_cells (obj_below HG4.out hu)); go_simp; try (with_reducible rfl))
              try simp only [puts]
              refine gv 2 (v := ?_) (fun u hu => ?_) hS ?_
              rotate_left
              · ((obtain ⟨z0, z1, _, _⟩ := obj_cells (obj_below HG4.out hu)); go_simp; try (with_reducible rfl))
              try simp only [puts]
              refine only_call (i := 3) 61 #[.string x, .int .i64 v] rfl (by kernel_rfl) (by rfl) ((HVX.out _).mono fun e w' he => ⟨he.1, hbt hS he.2⟩) ?_ ?_
              · (go_simp; try (with_reducible rfl))
              clear hS
              intro w3 hS
              try simp only [puts]
              refine gv 4 (v := ?_) (fun u hu => ?_) hS ?_
              rotate_left
              · ((obtain ⟨z0, z1, _, _⟩ := obj_cells (obj_below HG4.out hu)); go_simp; try (with_reducible rfl))
              try simp only [puts]
              refine gv 5 (v := ?_) (fun u hu => ?_) hS ?_
              rotate_left
              · ((obtain ⟨z0, z1, _, _⟩ := obj_cells (obj_below HG4.out hu)); go_simp; try (with_reducible rfl))
              try simp only [puts]
              refine gv 6 (v := ?_) (fun u hu => ?_) hS ?_
              rotate_left
              · ((obtain ⟨z0, z1, _, _⟩ := obj_cells (obj_below HG4.out hu)); go_simp; try (with_reducible rfl))
              try simp only [puts]
              refine gv 7 (v := ?_) (fun u hu => ?_) hS ?_
              rotate_left
              · ((obtain ⟨z0, z1, _, _⟩ := obj_cells (obj_below HG4.out hu)); go_simp; try (with_reducible rfl))
              try simp only [puts]
              refine gv 8 (v := ?_) (fun u hu => ?_) hS ?_
              rotate_left
              · ((obtain ⟨z0, z1, _, _⟩ := obj_cells (obj_below HG4.out hu)); go_simp; try (with_reducible rfl))
              try simp only [puts]
              refine only_call (i := 9) 61 #[.string y, .int .i64 v'] rfl (by kernel_rfl) (by rfl) ((HVY.out _).mono fun e w' he => ⟨he.1, hbt hS he.2⟩) ?_ ?_
              · (go_simp; try (with_reducible rfl))
              clear hS
              intro w9 hS
              try simp only [puts]
              refine gv 10 (v := ?_) (fun u hu => ?_) hS ?_
              rotate_left
              · ((obtain ⟨z0, z1, _, _⟩ := obj_cells (obj_below HG4.out hu)); go_simp; try (with_reducible rfl))
              try simp only [puts]
              refine gv 11 (v := ?_) (fun u hu => ?_) hS ?_
              rotate_left
              · ((obtain ⟨z0, z1, _, _⟩ := obj_cells (obj_below HG4.out hu)); go_simp; try (with_reducible rfl))
              try simp only [puts]
              refine gv 12 (v := ?_) (fun u hu => ?_) hS ?_
              rotate_left
              · ((obtain ⟨z0, z1, _, _⟩ := obj_cells (obj_below HG4.out hu)); go_simp; try (with_reducible rfl))
              try simp only [puts]
              refine gv 13 (v := ?_) (fun u hu => ?_) hS ?_
              rotate_left
              · ((obtain ⟨z0, z1, _, _⟩ := obj_cells (obj_below HG4.out hu)); go_simp; try (with_reducible rfl))
              try simp only [puts]
              refine gv 14 (v := ?_) (fun u hu => ?_) hS ?_
              rotate_left
              · ((obtain ⟨z0, z1, _, _⟩ := obj_cells (obj_below HG4.out hu)); go_simp; try (with_reducible rfl))
              try simp only [puts]
              refine gv 16 (v := ?_) (fun u hu => ?_) hS ?_
              rotate_left
              · ((obtain ⟨z0, z1, _, _⟩ := obj_cells (obj_below HG4.out hu)); go_simp; try (with_reducible rfl))
              try simp only [puts]
              refine gv 17 (v := ?_) (fun u hu => ?_) hS ?_
              rotate_left
              · ((obtain ⟨z0, z1, _, _⟩ := obj_cells (obj_below HG4.out hu)); go_simp; try (with_reducible rfl))
              try simp only [puts]
              refine only_call (i := 15) 62 #[.string x] rfl (by kernel_rfl) (by rfl) ((HAX.out _).mono fun e w' he => ⟨he.1, hbt hS he.2⟩) ?_ ?_
              · (go_simp; try (with_reducible rfl))
              clear hS
              intro w15 hS
              try simp only [puts]
              refine only_call (i := 18) 62 #[.string y] rfl (by kernel_rfl) (by rfl) ((HAY.out _).mono fun e w' he => ⟨he.1, hbt hS he.2⟩) ?_ ?_
              · (go_simp; try (with_reducible rfl))
              clear hS
              intro w18 hS
              try simp only [puts]
              refine gv 19 (v := (.bool false)) (fun u hu => ?_) hS ?_
              · ((obtain ⟨z0, z1, _, _⟩ := obj_cells (obj_below HG4.out hu)); go_simp; (all_goals (cases q1 <;> rfl)))
              try simp only [puts]
              refine gv 20 (v := ?_) (fun u hu => ?_) hS ?_
              rotate_left
              · ((obtain ⟨z0, z1, _, _⟩ := obj_cells (obj_below HG4.out hu)); go_simp; try (with_reducible rfl))
              try simp only [puts]
              refine wpAnyH_done (by kernel_rfl) (NoPanic.normal ?_) _
              have HQ5 := Lib.hid (hbt HQ4.out hS)
              have HG5 := Lib.hid (obj_below HG4.out hS)
              clear hS HQ4 HG4
              rename World => W5
              go_wp2_with fail
              refine wp_region_noPanic ?_
              refine wp_region_held_drew (S := (fun u => Below W5.heap.size W5 u)) (by kernel_rfl) ((Below.refl _ _).drew) (fun hS => ?_)
              refine gv 0 (v := ?_) (fun u hu => ?_) hS ?_
              rotate_left
              · ((obtain ⟨z0, z1, _, _⟩ := obj_cells (obj_below HG5.out hu)); go_simp; try (with_reducible rfl))
              try simp only [puts]
              refine gv 1 (v := ?_) (fun u hu => ?_) hS ?_
              rotate_left
              · ((obtain ⟨z0, z1, _, _⟩ := obj_cells (obj_below HG5.out hu)); go_simp; try (with_reducible rfl))
              try simp only [puts]
              refine gv 2 (v := ?_) (fun u hu => ?_) hS ?_
              rotate_left
              · ((obtain ⟨z0, z1, _, _⟩ := obj_cells (obj_below HG5.out hu)); go_simp; try (with_reducible rfl))
              try simp only [puts]
              refine gv 3 (v := ?_) (fun u hu => ?_) hS ?_
              rotate_left
              · ((obtain ⟨z0, z1, _, _⟩ := obj_cells (obj_below HG5.out hu)); go_simp; try (with_reducible rfl))
              try simp only [puts]
              refine gv 4 (v := ?_) (fun u hu => ?_) hS ?_
              rotate_left
              · ((obtain ⟨z0, z1, _, _⟩ := obj_cells (obj_below HG5.out hu)); go_simp; try (with_reducible rfl))
              try simp only [puts]
              refine only_call (i := 5) 44 #[.slice (some pa) q cM, .string x] rfl (by kernel_rfl) (by rfl) ((HAP.out _ (HM.out.below (hbt HQ5.out hS))).mono fun e w' he => ⟨he.1, hbt hS he.2⟩) ?_ ?_
              · (go_simp; try (with_reducible rfl))
              clear hS
              intro w5 hS
              try simp only [puts]
              refine gv 6 (v := ?_) (fun u hu => ?_) hS ?_
              rotate_left
              · ((obtain ⟨z0, z1, _, _⟩ := obj_cells (obj_below HG5.out hu)); go_simp; try (with_reducible rfl))
              try simp only [puts]
              refine gv 7 (v := ?_) (fun u hu => ?_) hS ?_
              rotate_left
              · ((obtain ⟨z0, z1, _, _⟩ := obj_cells (obj_below HG5.out hu)); go_simp; try (with_reducible rfl))
              try simp only [puts]
              refine gv 8 (v := ?_) (fun u hu => ?_) hS ?_
              rotate_left
              · ((obtain ⟨z0, z1, _, _⟩ := obj_cells (obj_below HG5.out hu)); go_simp; try (with_reducible rfl))
              try simp only [puts]
              refine gv 9 (v := ?_) (fun u hu => ?_) hS ?_
              rotate_left
              · ((obtain ⟨z0, z1, _, _⟩ := obj_cells (obj_below HG5.out hu)); go_simp; try (with_reducible rfl))
              try simp only [puts]
              refine gv 10 (v := ?_) (fun u hu => ?_) hS ?_
              rotate_left
              · ((obtain ⟨z0, z1, _, _⟩ := obj_cells (obj_below HG5.out hu)); go_simp; try (with_reducible rfl))
              try simp only [puts]
              refine wpAnyH_done (by kernel_rfl) (NoPanic.normal ?_) _
              have HQ6 := Lib.hid (hbt HQ5.out hS)
              clear hS HQ5 HG5
              cases mb
              · have HE0 : Hid (ee = 0) := by show _ = _; rw [HMP.out]; simp
                go_wp2
                go_roundw
                case rel =>
                  refine ⟨q + 1, by omega, by go_num, HQ6.out, fun j hj => ?_⟩
                  rcases Nat.lt_or_ge j q with h | h
                  · exact HNO.out j h
                  · obtain rfl : j = q := by omega
                    exact HEE.out.trans HE0.out
                case measure => simp [intOf]; omega
              · have HE7 : Hid (ee = 10) := by show _ = _; rw [HMP.out]; simp
                have HE := Lib.hid (HE4.out (by rw [HE7.out]; decide))
                rw [HE7.out] at HE
                go_wp2
                go_ret2
                exact ⟨by rw [HE.out] <;> rfl, HQ6.out⟩
            · have hne : (q1 != q2) = true := by cases q1 <;> cases q2 <;> simp_all
              have HQN : Hid ((q1 == q2) = false) := by show _ = _; cases q1 <;> cases q2 <;> simp_all
              refine wp_region_noPanic ?_
              refine wp_region_held_drew (S := (fun u => Below W4.heap.size W4 u)) (by kernel_rfl) ((Below.refl _ _).drew) (fun hS => ?_)
              refine gv 0 (v := ?_) (fun u hu => ?_) hS ?_
              rotate_left
              · ((obtain ⟨z0, z1, _, _⟩ := obj_cells (obj_below HG4.out hu)); go_simp; try (with_reducible rfl))
              try simp only [puts]
              refine gv 1 (v := ?_) (fun u hu => ?_) hS ?_
              rotate_left
              · ((obtain ⟨z0, z1, _, _⟩ := obj_cells (obj_below HG4.out hu)); go_simp; try (with_reducible rfl))
              try simp only [puts]
              refine gv 2 (v := ?_) (fun u hu => ?_) hS ?_
              rotate_left
              · ((obtain ⟨z0, z1, _, _⟩ := obj_cells (obj_below HG4.out hu)); go_simp; try (with_reducible rfl))
              try simp only [puts]
              refine only_call (i := 3) 61 #[.string x, .int .i64 v] rfl (by kernel_rfl) (by rfl) ((HVX.out _).mono fun e w' he => ⟨he.1, hbt hS he.2⟩) ?_ ?_
              · (go_simp; try (with_reducible rfl))
              clear hS
              intro w3 hS
              try simp only [puts]
              refine gv 4 (v := ?_) (fun u hu => ?_) hS ?_
              rotate_left
              · ((obtain ⟨z0, z1, _, _⟩ := obj_cells (obj_below HG4.out hu)); go_simp; try (with_reducible rfl))
              try simp only [puts]
              refine gv 5 (v := ?_) (fun u hu => ?_) hS ?_
              rotate_left
              · ((obtain ⟨z0, z1, _, _⟩ := obj_cells (obj_below HG4.out hu)); go_simp; try (with_reducible rfl))
              try simp only [puts]
              refine gv 6 (v := ?_) (fun u hu => ?_) hS ?_
              rotate_left
              · ((obtain ⟨z0, z1, _, _⟩ := obj_cells (obj_below HG4.out hu)); go_simp; try (with_reducible rfl))
              try simp only [puts]
              refine gv 7 (v := ?_) (fun u hu => ?_) hS ?_
              rotate_left
              · ((obtain ⟨z0, z1, _, _⟩ := obj_cells (obj_below HG4.out hu)); go_simp; try (with_reducible rfl))
              try simp only [puts]
              refine gv 8 (v := ?_) (fun u hu => ?_) hS ?_
              rotate_left
              · ((obtain ⟨z0, z1, _, _⟩ := obj_cells (obj_below HG4.out hu)); go_simp; try (with_reducible rfl))
              try simp only [puts]
              refine only_call (i := 9) 61 #[.string y, .int .i64 v'] rfl (by kernel_rfl) (by rfl) ((HVY.out _).mono fun e w' he => ⟨he.1, hbt hS he.2⟩) ?_ ?_
              · (go_simp; try (with_reducible rfl))
              clear hS
              intro w9 hS
              try simp only [puts]
              refine gv 10 (v := ?_) (fun u hu => ?_) hS ?_
              rotate_left
              · ((obtain ⟨z0, z1, _, _⟩ := obj_cells (obj_below HG4.out hu)); go_simp; try (with_reducible rfl))
              try simp only [puts]
              refine gv 11 (v := ?_) (fun u hu => ?_) hS ?_
              rotate_left
              · ((obtain ⟨z0, z1, _, _⟩ := obj_cells (obj_below HG4.out hu)); go_simp; try (with_reducible rfl))
              try simp only [puts]
              refine gv 12 (v := ?_) (fun u hu => ?_) hS ?_
              rotate_left
              · ((obtain ⟨z0, z1, _, _⟩ := obj_cells (obj_below HG4.out hu)); go_simp; try (with_reducible rfl))
              try simp only [puts]
              refine gv 13 (v := ?_) (fun u hu => ?_) hS ?_
              rotate_left
              · ((obtain ⟨z0, z1, _, _⟩ := obj_cells (obj_below HG4.out hu)); go_simp; try (with_reducible rfl))
              try simp only [puts]
              refine gv 14 (v := ?_) (fun u hu => ?_) hS ?_
              rotate_left
              · ((obtain ⟨z0, z1, _, _⟩ := obj_cells (obj_below HG4.out hu)); go_simp; try (with_reducible rfl))
              try simp only [puts]
              refine gv 16 (v := ?_) (fun u hu => ?_) hS ?_
              rotate_left
              · ((obtain ⟨z0, z1, _, _⟩ := obj_cells (obj_below HG4.out hu)); go_simp; try (with_reducible rfl))
              try simp only [puts]
              refine gv 17 (v := ?_) (fun u hu => ?_) hS ?_
              rotate_left
              · ((obtain ⟨z0, z1, _, _⟩ := obj_cells (obj_below HG4.out hu)); go_simp; try (with_reducible rfl))
              try simp only [puts]
              refine only_call (i := 15) 62 #[.string x] rfl (by kernel_rfl) (by rfl) ((HAX.out _).mono fun e w' he => ⟨he.1, hbt hS he.2⟩) ?_ ?_
              · (go_simp; try (with_reducible rfl))
              clear hS
              intro w15 hS
              try simp only [puts]
              refine only_call (i := 18) 62 #[.string y] rfl (by kernel_rfl) (by rfl) ((HAY.out _).mono fun e w' he => ⟨he.1, hbt hS he.2⟩) ?_ ?_
              · (go_simp; try (with_reducible rfl))
              clear hS
              intro w18 hS
              try simp only [puts]
              refine gv 19 (v := (.bool true)) (fun u hu => ?_) hS ?_
              · ((obtain ⟨z0, z1, _, _⟩ := obj_cells (obj_below HG4.out hu)); go_simp; (all_goals (exact hne)))
              try simp only [puts]
              refine gv 20 (v := ?_) (fun u hu => ?_) hS ?_
              rotate_left
              · ((obtain ⟨z0, z1, _, _⟩ := obj_cells (obj_below HG4.out hu)); go_simp; try (with_reducible rfl))
              try simp only [puts]
              refine wpAnyH_done (by kernel_rfl) (NoPanic.normal ?_) _
              have HQ5 := Lib.hid (hbt HQ4.out hS)
              clear hS
              have HE7 : Hid (ee = 7) := by show _ = _; rw [HMP.out, HQN.out]; rfl
              have HE := Lib.hid (HE4.out (by rw [HE7.out]; decide))
              rw [HE7.out] at HE
              go_wp2
              go_ret2
              exact ⟨by rw [HE.out] <;> rfl, HQ5.out⟩
      · have HE := Lib.hid (HX5.out HM4.out (fun j hj => HNO.out j (by omega)))
        go_wp2
        go_ret2
        exact ⟨by rw [HE.out] <;> rfl, HQ3.out⟩

end Go.Proofs.YtbhlennolghjmaaDoor
