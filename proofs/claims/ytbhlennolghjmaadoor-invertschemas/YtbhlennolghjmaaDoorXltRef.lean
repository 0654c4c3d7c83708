/-
  What the document's Check of a map answers: for every map of up to the model's greatest length and schemas of up to 1000 specs, in every world.
-/
import Derived.Test.YtbhlennolghjmaaDoorXltSmall
import Derived.Test.YtbhlennolghjmaaDoorPackRul
import Derived.Test.YtbhlennolghjmaaDoorPackSch
import Derived.Test.YtbhlennolghjmaaDoorPackCod
import Derived.Test.YtbhlennolghjmaaDoorPackBase
namespace Go.Proofs.YtbhlennolghjmaaDoor
open Go.RowKit

/-- 'l[:k]' of a slice of pairs. -/
theorem xcut_head (a : Addr) (n cap k : Nat) (hk : k ≤ cap) (W : World) : (Instr.slice 22 (.slice (some a) n cap) none (some (.int .i64 (k : Int))) none).run Tryd.prog W = .ok (.slice (some a) k cap) W := by
  obtain ⟨i0, hi, hz0, hz1, hz2⟩ := info_parts Tryd.infoPair
  rw [run_slice_h W 22 (some a) n cap (by kernel_rfl) .i64 (k : Int) (by omega) (by omega), show Tryd.prog.elem 22 = 62 by kernel_rfl, run_sizeOf W hi]
  simp [sliced, Result.andThen, Addr.add]
theorem ruE_told {a b : List Sp} {R : List Ru} {i : Nat} {r : Ru} (h : ruAt R i = r) : ruE a b R i = if ruN a b r ≠ 0 then ruN a b r else if (R.take i).any (fun x => twiceB x r) = true then 10 else 0 := by
  unfold ruE
  rw [h]
theorem any_twice {R : List Ru} {r : Ru} {p : Nat} (hp : p ≤ R.length) : ((R.take p).any (fun x => twiceB x r) = false) ↔ ∀ j, j < p → twiceB (ruAt R j) r = false := by
  constructor
  · intro h j hj
    rw [List.any_eq_false] at h
    have hm : ruAt R j ∈ R.take p := by
      rw [← ruAt_take hj, ruAt_get (by rw [List.length_take]; omega)]
      exact List.getElem_mem _
    simpa using h _ hm
  · intro h
    rw [List.any_eq_false]
    intro x hx
    obtain ⟨j, hj, rfl⟩ := List.getElem_of_mem hx
    rw [List.length_take] at hj
    have := h j (by omega)
    rw [← ruAt_take (k := p) (by omega), ruAt_get (by rw [List.length_take]; omega)] at this
    simpa using this
theorem mpE_told {va vb : Int} {M : List PairT} {i : Nat} {x y : ByteArray} (h : duoAt M i = (x, y)) : mpE va vb M i = if (mtiV x va && mtiV y vb && (askB x.data.toList == askB y.data.toList)) = false then 7 else if memB x (froms (M.take i)) = true then 10 else 0 := by
  unfold mpE mpB
  rw [h]
set_option maxRecDepth 100000 in
set_option maxHeartbeats 25600000 in
theorem xcref_any (X : Option Addr) (cM : Nat) (M : List PairT) (Y : Option Addr) (cR : Nat) (R : List Ru) (st v : Int) (A : Option Addr) (ca : Nat) (a : List Sp) (st' v' : Int) (A' : Option Addr) (cb : Nat) (b : List Sp) (w : World) (hM : Prs w X M) (hR : Rls w Y R) (hA : Spl w A a) (hB : Spl w A' b) (hla : a.length ≤ 1000) (hlb : b.length ≤ 1000) (hlM : M.length ≤ maxLen) (hlR : R.length ≤ maxLen) (hcM : M.length ≤ cM) (hf : Fit2 M) (hf3 : Fit3 R) : Calls Tryd.prog 56 #[.agg #[.slice X M.length cM, .slice Y R.length cR], .agg #[.int .i64 st, .int .i64 v, .slice A a.length ca], .agg #[.int .i64 st', .int .i64 v', .slice A' b.length cb]] w fun e w' => e = .returned (.tuple #[.int .i64 (xltN st v a st' v' b M R).1, .int .i64 (xltN st v a st' v' b M R).2.1, .int .i64 (xltN st v a st' v' b M R).2.2]) ∧ Below w.heap.size w w' := by
  have HRA := Lib.hid (fun W h => sright_any st v A ca a W h hla)
  have HRB := Lib.hid (fun W h => sright_any st' v' A' cb b W h hlb)
  have HQ0 := Lib.hid (mq_new w X M.length cM Y R.length cR st v A a.length ca st' v' A' b.length cb)
  have HM := Lib.hid hM
  have HR := Lib.hid hR
  have HA := Lib.hid hA
  have HB := Lib.hid hB
  have HF := Lib.hid hf
  have HF3 := Lib.hid hf3
  have HCA := Lib.hid (fun q x (h : q ≤ 256) (h2 : q ≤ M.length) W (k : Prs W X M) => crapply_any X cM (M.take q) x W (k.head q) (by rw [List.length_take]; omega))
  have HRL := Lib.hid (fun k f t s B c P W k1 k2 k3 k4 k5 k6 => rlref_any k f t s B c P st v A ca a st' v' A' cb b W k1 k2 k3 hla hlb k4 k5 k6)
  have HX1 := Lib.hid (@xlt_a st v a st' v' b M R)
  have HX2 := Lib.hid (@xlt_b st v a st' v' b M R)
  have HX3 := Lib.hid (@xlt_pairs st v a st' v' b M R)
  have HX4 := Lib.hid (fun i => @xlt_pair st v a st' v' b M R i)
  have HX5 := Lib.hid (@xlt_rules st v a st' v' b M R)
  have HX6 := Lib.hid (fun i => @xlt_rule st v a st' v' b M R i)
  have HX7 := Lib.hid (@xlt_ok st v a st' v' b M R)
  generalize xltN st v a st' v' b M R = Z at *
  unfold maxLen at hlM hlR
  generalize hn : M.length = n at *
  generalize hm : R.length = m at *
  generalize a.length = la at *
  generalize b.length = lb at *
  have HLM := Lib.hid hn
  have HLR := Lib.hid hm
  clear hn hm hM hR hA hB hf hf3 hla hlb
  go_enter Tryd.func56, Tryd.ntmps56
  go_wp2_with fail
  generalize ((w.alloc (.cells #[.slice X n cM, .slice Y m cR] 25)).alloc (.cells #[.int .i64 st, .int .i64 v, .slice A la ca] 28)).alloc (.cells #[.int .i64 st', .int .i64 v', .slice A' lb cb] 28) = U at *
  refine (HRA.out _ (HA.out.below HQ0.out.1)).mono ?_
  rintro e w1 ⟨rfl, hb1⟩
  have HQ1 := Lib.hid (HQ0.out.below hb1)
  clear hb1 HQ0 HRA
  obtain ⟨⟨m0, m1⟩, ⟨a0, a1, a2⟩, b0, b1, b2⟩ := HQ1.out.cells
  rcases Bool.eq_false_or_eq_true (decide ((schN st v a).1 = 0)) with hra | hra
  · have ha : (schN st v a).1 = 0 := by simpa using hra
    generalize decide ((schN st v a).1 = 0) = da at *
    subst hra
    go_wp2_with fail
    clear m0 m1 a0 a1 a2 b0 b1 b2
    refine (HRB.out _ (HB.out.below HQ1.out.1)).mono ?_
    rintro e w2 ⟨rfl, hb2⟩
    have HQ2 := Lib.hid (HQ1.out.below hb2)
    clear hb2 HQ1 HRB
    obtain ⟨⟨m0, m1⟩, ⟨a0, a1, a2⟩, b0, b1, b2⟩ := HQ2.out.cells
    rcases Bool.eq_false_or_eq_true (decide ((schN st' v' b).1 = 0)) with hrb | hrb
    · have hb : (schN st' v' b).1 = 0 := by simpa using hrb
      generalize decide ((schN st' v' b).1 = 0) = db at *
      subst hrb
      have HX3 := Lib.hid (HX3.out ha hb)
      have HX5 := Lib.hid (HX5.out ha hb)
      have HX7 := Lib.hid (HX7.out ha hb)
      have HSA := Lib.hid ha
      have HSB := Lib.hid hb
      clear ha hb HX1 HX2
      by_cases hM3 : 256 < n
      · have HE := Lib.hid (HX3.out hM3)
        have t3 : decide ((256 : Int) < (n : Int)) = true := by simp; omega
        clear hM3
        go_wp2
        go_ret3
        exact ⟨by rw [HE.out] <;> rfl, HQ2.out.1⟩
      · have hM4 : n ≤ 256 := by omega
        have t3 : decide ((256 : Int) < (n : Int)) = false := by simp; omega
        have HM4 := Lib.hid hM4
        have hn1 : (n : Int) < 1000 := by omega
        clear hM3 HX3
        go_wp2
        clear t3
        clear m0 m1 a0 a1 a2 b0 b1 b2
        go_loopw [9] (fun i wr => ∃ q : Nat, q ≤ n ∧ i = .int .i64 (q : Int) ∧ MQ w X n cM Y m cR st v A la ca st' v' A' lb cb wr ∧ ∀ j, j < q → mpE v v' M j = 0) (fun i _ => n - (intOf i).toNat)
        case atStart => exact ⟨0, Nat.zero_le _, rfl, HQ2.out, fun j hj => by omega⟩
        case round =>
          obtain ⟨q, hq, rfl, hQ, hno⟩ := hrel
          have HQ3 := Lib.hid hQ
          have HNO := Lib.hid hno
          clear hQ hno
          obtain ⟨⟨m0, m1⟩, ⟨a0, a1, a2⟩, b0, b1, b2⟩ := HQ3.out.cells
          by_cases hlt : q < n
          · have hql : q < M.length := by have := HLM.out; omega
            obtain ⟨pa, x, y, rfl, hxp, hcp⟩ := prs_all HM.out hql
            obtain ⟨z0, z1⟩ := hcp _ HQ3.out.1
            have hfz := HF.out.at_ hql
            rw [hxp] at hfz
            have HZ := Lib.hid hfz
            have HMP := Lib.hid (mpE_told (va := v) (vb := v') hxp)
            have HVX := Lib.hid (fun W => xversion_any x v W HZ.out.1)
            have HVY := Lib.hid (fun W => xversion_any y v' W HZ.out.2)
            have HAX := Lib.hid (fun W => mrefReq_any x W HZ.out.1)
            have HAY := Lib.hid (fun W => mrefReq_any y W HZ.out.2)
            have HAP := Lib.hid (fun W k => HCA.out q x (by have := HM4.out; omega) (by omega) W k)
            rw [app_ahead] at HAP
            have hcut := fun W => xcut_head pa n cM q (by omega) W
            have hll : (M.take q).length = q := by rw [List.length_take]; have := HLM.out; omega
            rw [hll] at HAP
            have HE4 := Lib.hid (fun h => HX4.out q HSA.out HSB.out HM4.out hlt HNO.out h)
            generalize mtiV x v = p1 at *
            generalize mtiV y v' = p2 at *
            generalize askB x.data.toList = q1 at *
            generalize askB y.data.toList = q2 at *
            generalize memB x (froms (M.take q)) = mb at *
            generalize appS (M.take q) x = ap at *
            generalize hee : mpE v v' M q = ee at *
            have HEE := Lib.hid hee
            clear hee
            have HQ4 := Lib.hid (HQ3.out.below (below_al wr (.cells #[.string x, .string y] 62)))
            have HG4 : Hid ((wr.alloc (.cells #[.string x, .string y] 62)).heap[wr.heap.size]? = some (.cells #[.string x, .string y] 62)) := heap_alloc_new _ _
            clear hxp hcp hfz hql hll HQ2
            go_wp2_with fail
            clear m0 m1 a0 a1 a2 b0 b1 b2 z0 z1
            generalize wr.alloc (.cells #[.string x, .string y] 62) = W4 at *
            generalize wr.heap.size = gp at *
            cases p1
            · skip
              refine wp_region_noPanic ?_
              refine wp_region_held_drew (S := (fun u => Below W4.heap.size W4 u)) (by kernel_rfl) ((Below.refl _ _).drew) (fun hS => ?_)
              refine gv 0 (v := ?_) (fun u hu => ?_) hS ?_
              rotate_left
              · ((obtain ⟨⟨m0, m1⟩, ⟨a0, a1, a2⟩, b0, b1, b2⟩ := (HQ4.out.below hu).cells; obtain ⟨z0, z1, _, _⟩ := obj_cells (obj_below HG4.out hu)); go_simp; try (with_reducible rfl))
              try simp only [puts]
              refine gv 1 (v := ?_) (fun u hu => ?_) hS ?_
              rotate_left
              · ((obtain ⟨⟨m0, m1⟩, ⟨a0, a1, a2⟩, b0, b1, b2⟩ := (HQ4.out.below hu).cells; obtain ⟨z0, z1, _, _⟩ := obj_cells (obj_below HG4.out hu)); go_simp; try (with_reducible rfl))
              try simp only [puts]
              refine gv 2 (v := ?_) (fun u hu => ?_) hS ?_
              rotate_left
              · ((obtain ⟨⟨m0, m1⟩, ⟨a0, a1, a2⟩, b0, b1, b2⟩ := (HQ4.out.below hu).cells; obtain ⟨z0, z1, _, _⟩ := obj_cells (obj_below HG4.out hu)); go_simp; try (with_reducible rfl))
              try simp only [puts]
              refine gv 3 (v := ?_) (fun u hu => ?_) hS ?_
              rotate_left
              · ((obtain ⟨⟨m0, m1⟩, ⟨a0, a1, a2⟩, b0, b1, b2⟩ := (HQ4.out.below hu).cells; obtain ⟨z0, z1, _, _⟩ := obj_cells (obj_below HG4.out hu)); go_simp; try (with_reducible rfl))
              try simp only [puts]
              refine only_call (i := 4) 74 #[.string x, .int .i64 v] rfl (by kernel_rfl) (by rfl) ((HVX.out _).mono fun e w' he => ⟨he.1, he.2 ▸ hS⟩) ?_ ?_
              · (go_simp; try (with_reducible rfl))
              clear hS
              intro w4 hS
              try simp only [puts]
              refine gv 5 (v := ?_) (fun u hu => ?_) hS ?_
              rotate_left
              · ((obtain ⟨⟨m0, m1⟩, ⟨a0, a1, a2⟩, b0, b1, b2⟩ := (HQ4.out.below hu).cells; obtain ⟨z0, z1, _, _⟩ := obj_cells (obj_below HG4.out hu)); go_simp; try (with_reducible rfl))
              try simp only [puts]
              refine gv 6 (v := ?_) (fun u hu => ?_) hS ?_
              rotate_left
              · ((obtain ⟨⟨m0, m1⟩, ⟨a0, a1, a2⟩, b0, b1, b2⟩ := (HQ4.out.below hu).cells; obtain ⟨z0, z1, _, _⟩ := obj_cells (obj_below HG4.out hu)); go_simp; try (with_reducible rfl))
              try simp only [puts]
              refine gs 7 hS ?_
              try simp only [puts]
              refine gs 8 hS ?_
              try simp only [puts]
              refine gs 9 hS ?_
              try simp only [puts]
              refine gs 10 hS ?_
              try simp only [puts]
              refine gs 11 hS ?_
              try simp only [puts]
              refine gs 12 hS ?_
              try simp only [puts]
              refine gv 13 (v := ?_) (fun u hu => ?_) hS ?_
              rotate_left
              · ((obtain ⟨⟨m0, m1⟩, ⟨a0, a1, a2⟩, b0, b1, b2⟩ := (HQ4.out.below hu).cells; obtain ⟨z0, z1, _, _⟩ := obj_cells (obj_below HG4.out hu)); go_simp; try (with_reducible rfl))
              try simp only [puts]
              refine gv 14 (v := ?_) (fun u hu => ?_) hS ?_
              rotate_left
              · ((obtain ⟨⟨m0, m1⟩, ⟨a0, a1, a2⟩, b0, b1, b2⟩ := (HQ4.out.below hu).cells; obtain ⟨z0, z1, _, _⟩ := obj_cells (obj_below HG4.out hu)); go_simp; try (with_reducible rfl))
              try simp only [puts]
              refine gs 15 hS ?_
              try simp only [puts]
              refine gs 16 hS ?_
              try simp only [puts]
              refine gs 17 hS ?_
              try simp only [puts]
              refine gs 18 hS ?_
              try simp only [puts]
              refine gs 19 hS ?_
              try simp only [puts]
              refine gs 20 hS ?_
              try simp only [puts]
              refine gs 21 hS ?_
              try simp only [puts]
              refine gv 22 (v := ?_) (fun u hu => ?_) hS ?_
              rotate_left
              · ((obtain ⟨⟨m0, m1⟩, ⟨a0, a1, a2⟩, b0, b1, b2⟩ := (HQ4.out.below hu).cells; obtain ⟨z0, z1, _, _⟩ := obj_cells (obj_below HG4.out hu)); go_simp; try (with_reducible rfl))
              try simp only [puts]
              refine wpAnyH_done (by kernel_rfl) (NoPanic.normal ?_) _
              have HQ5 := Lib.hid (HQ4.out.below hS)
              clear hS
              have HE7 : Hid (ee = 7) := by show _ = _; rw [HMP.out]; rfl
              have HE := Lib.hid (HE4.out (by rw [HE7.out]; decide))
              rw [HE7.out] at HE
              go_wp2
              go_ret3
              exact ⟨by rw [HE.out] <;> rfl, HQ5.out.1⟩
            · cases p2
              · skip
                refine wp_region_noPanic ?_
                refine wp_region_held_drew (S := (fun u => Below W4.heap.size W4 u)) (by kernel_rfl) ((Below.refl _ _).drew) (fun hS => ?_)
                refine gv 0 (v := ?_) (fun u hu => ?_) hS ?_
                rotate_left
                · ((obtain ⟨⟨m0, m1⟩, ⟨a0, a1, a2⟩, b0, b1, b2⟩ := (HQ4.out.below hu).cells; obtain ⟨z0, z1, _, _⟩ := obj_cells (obj_below HG4.out hu)); go_simp; try (with_reducible rfl))
                try simp only [puts]
                refine gv 1 (v := ?_) (fun u hu => ?_) hS ?_
                rotate_left
                · ((obtain ⟨⟨m0, m1⟩, ⟨a0, a1, a2⟩, b0, b1, b2⟩ := (HQ4.out.below hu).cells; obtain ⟨z0, z1, _, _⟩ := obj_cells (obj_below HG4.out hu)); go_simp; try (with_reducible rfl))
                try simp only [puts]
                refine gv 2 (v := ?_) (fun u hu => ?_) hS ?_
                rotate_left
                · ((obtain ⟨⟨m0, m1⟩, ⟨a0, a1, a2⟩, b0, b1, b2⟩ := (HQ4.out.below hu).cells; obtain ⟨z0, z1, _, _⟩ := obj_cells (obj_below HG4.out hu)); go_simp; try (with_reducible rfl))
                try simp only [puts]
                refine gv 3 (v := ?_) (fun u hu => ?_) hS ?_
                rotate_left
                · ((obtain ⟨⟨m0, m1⟩, ⟨a0, a1, a2⟩, b0, b1, b2⟩ := (HQ4.out.below hu).cells; obtain ⟨z0, z1, _, _⟩ := obj_cells (obj_below HG4.out hu)); go_simp; try (with_reducible rfl))
                try simp only [puts]
                refine only_call (i := 4) 74 #[.string x, .int .i64 v] rfl (by kernel_rfl) (by rfl) ((HVX.out _).mono fun e w' he => ⟨he.1, he.2 ▸ hS⟩) ?_ ?_
                · (go_simp; try (with_reducible rfl))
                clear hS
                intro w4 hS
                try simp only [puts]
                refine gv 5 (v := ?_) (fun u hu => ?_) hS ?_
                rotate_left
                · ((obtain ⟨⟨m0, m1⟩, ⟨a0, a1, a2⟩, b0, b1, b2⟩ := (HQ4.out.below hu).cells; obtain ⟨z0, z1, _, _⟩ := obj_cells (obj_below HG4.out hu)); go_simp; try (with_reducible rfl))
                try simp only [puts]
                refine gv 6 (v := ?_) (fun u hu => ?_) hS ?_
                rotate_left
                · ((obtain ⟨⟨m0, m1⟩, ⟨a0, a1, a2⟩, b0, b1, b2⟩ := (HQ4.out.below hu).cells; obtain ⟨z0, z1, _, _⟩ := obj_cells (obj_below HG4.out hu)); go_simp; try (with_reducible rfl))
                try simp only [puts]
                refine gv 7 (v := ?_) (fun u hu => ?_) hS ?_
                rotate_left
                · ((obtain ⟨⟨m0, m1⟩, ⟨a0, a1, a2⟩, b0, b1, b2⟩ := (HQ4.out.below hu).cells; obtain ⟨z0, z1, _, _⟩ := obj_cells (obj_below HG4.out hu)); go_simp; try (with_reducible rfl))
                try simp only [puts]
                refine gv 8 (v := ?_) (fun u hu => ?_) hS ?_
                rotate_left
                · ((obtain ⟨⟨m0, m1⟩, ⟨a0, a1, a2⟩, b0, b1, b2⟩ := (HQ4.out.below hu).cells; obtain ⟨z0, z1, _, _⟩ := obj_cells (obj_below HG4.out hu)); go_simp; try (with_reducible rfl))
                try simp only [puts]
                refine gv 9 (v := ?_) (fun u hu => ?_) hS ?_
                rotate_left
                · ((obtain ⟨⟨m0, m1⟩, ⟨a0, a1, a2⟩, b0, b1, b2⟩ := (HQ4.out.below hu).cells; obtain ⟨z0, z1, _, _⟩ := obj_cells (obj_below HG4.out hu)); go_simp; try (with_reducible rfl))
                try simp only [puts]
                refine gv 10 (v := ?_) (fun u hu => ?_) hS ?_
                rotate_left
                · ((obtain ⟨⟨m0, m1⟩, ⟨a0, a1, a2⟩, b0, b1, b2⟩ := (HQ4.out.below hu).cells; obtain ⟨z0, z1, _, _⟩ := obj_cells (obj_below HG4.out hu)); go_simp; try (with_reducible rfl))
                try simp only [puts]
                refine only_call (i := 11) 74 #[.string y, .int .i64 v'] rfl (by kernel_rfl) (by rfl) ((HVY.out _).mono fun e w' he => ⟨he.1, he.2 ▸ hS⟩) ?_ ?_
                · (go_simp; try (with_reducible rfl))
                clear hS
                intro w11 hS
                try simp only [puts]
                refine gv 12 (v := ?_) (fun u hu => ?_) hS ?_
                rotate_left
                · ((obtain ⟨⟨m0, m1⟩, ⟨a0, a1, a2⟩, b0, b1, b2⟩ := (HQ4.out.below hu).cells; obtain ⟨z0, z1, _, _⟩ := obj_cells (obj_below HG4.out hu)); go_simp; try (with_reducible rfl))
                try simp only [puts]
                refine gv 13 (v := ?_) (fun u hu => ?_) hS ?_
                rotate_left
                · ((obtain ⟨⟨m0, m1⟩, ⟨a0, a1, a2⟩, b0, b1, b2⟩ := (HQ4.out.below hu).cells; obtain ⟨z0, z1, _, _⟩ := obj_cells (obj_below HG4.out hu)); go_simp; try (with_reducible rfl))
                try simp only [puts]
                refine gv 14 (v := ?_) (fun u hu => ?_) hS ?_
                rotate_left
                · ((obtain ⟨⟨m0, m1⟩, ⟨a0, a1, a2⟩, b0, b1, b2⟩ := (HQ4.out.below hu).cells; obtain ⟨z0, z1, _, _⟩ := obj_cells (obj_below HG4.out hu)); go_simp; try (with_reducible rfl))
                try simp only [puts]
                refine gs 15 hS ?_
                try simp only [puts]
                refine gs 16 hS ?_
                try simp only [puts]
                refine gs 17 hS ?_
                try simp only [puts]
                refine gs 18 hS ?_
                try simp only [puts]
                refine gs 19 hS ?_
                try simp only [puts]
                refine gs 20 hS ?_
                try simp only [puts]
                refine gs 21 hS ?_
                try simp only [puts]
                refine gv 22 (v := ?_) (fun u hu => ?_) hS ?_
                rotate_left
                · ((obtain ⟨⟨m0, m1⟩, ⟨a0, a1, a2⟩, b0, b1, b2⟩ := (HQ4.out.below hu).cells; obtain ⟨z0, z1, _, _⟩ := obj_cells (obj_below HG4.out hu)); go_simp; try (with_reducible rfl))
                try simp only [puts]
                refine wpAnyH_done (by kernel_rfl) (NoPanic.normal ?_) _
                have HQ5 := Lib.hid (HQ4.out.below hS)
                clear hS
                have HE7 : Hid (ee = 7) := by show _ = _; rw [HMP.out]; rfl
                have HE := Lib.hid (HE4.out (by rw [HE7.out]; decide))
                rw [HE7.out] at HE
                go_wp2
                go_ret3
                exact ⟨by rw [HE.out] <;> rfl, HQ5.out.1⟩
              · by_cases hqq : q1 = q2
                · subst hqq
                  refine wp_region_noPanic ?_
                  refine wp_region_held_drew (S := (fun u => Below W4.heap.size W4 u)) (by kernel_rfl) ((Below.refl _ _).drew) (fun hS => ?_)
                  refine gv 0 (v := ?_) (fun u hu => ?_) hS ?_
                  rotate_left
                  · ((obtain ⟨⟨m0, m1⟩, ⟨a0, a1, a2⟩, b0, b1, b2⟩ := (HQ4.out.below hu).cells; obtain ⟨z0, z1, _, _⟩ := obj_cells (obj_below HG4.out hu)); go_simp; try (with_reducible rfl))
                  try simp only [puts]
                  refine gv 1 (v := ?_) (fun u hu => ?_) hS ?_
                  rotate_left
                  · ((obtain ⟨⟨m0, m1⟩, ⟨a0, a1, a2⟩, b0, b1, b2⟩ := (HQ4.out.below hu).cells; obtain ⟨z0, z1, _, _⟩ := obj_cells (obj_below HG4.out hu)); go_simp; try (with_reducible rfl))
                  try simp only [puts]
                  refine gv 2 (v := ?_) (fun u hu => ?_) hS ?_
                  rotate_left
                  · ((obtain ⟨⟨m0, m1⟩, ⟨a0, a1, a2⟩, b0, b1, b2⟩ := (HQ4.out.below hu).cells; obtain ⟨z0, z1, _, _⟩ := obj_cells (obj_below HG4.out hu)); go_simp; try (with_reducible rfl))
                  try simp only [puts]
                  refine gv 3 (v := ?_) (fun u hu => ?_) hS ?_
                  rotate_left
                  · ((obtain ⟨⟨m0, m1⟩, ⟨a0, a1, a2⟩, b0, b1, b2⟩ := (HQ4.out.below hu).cells; obtain ⟨z0, z1, _, _⟩ := obj_cells (obj_below HG4.out hu)); go_simp; try (with_reducible rfl))
                  try simp only [puts]
                  refine only_call (i := 4) 74 #[.string x, .int .i64 v] rfl (by kernel_rfl) (by rfl) ((HVX.out _).mono fun e w' he => ⟨he.1, he.2 ▸ hS⟩) ?_ ?_
                  · (go_simp; try (with_reducible rfl))
                  clear hS
                  intro w4 hS
                  try simp only [puts]
                  refine gv 5 (v := ?_) (fun u hu => ?_) hS ?_
                  rotate_left
                  · ((obtain ⟨⟨m0, m1⟩, ⟨a0, a1, a2⟩, b0, b1, b2⟩ := (HQ4.out.below hu).cells; obtain ⟨z0, z1, _, _⟩ := obj_cells (obj_below HG4.out hu)); go_simp; try (with_reducible rfl))
                  try simp only [puts]
                  refine gv 6 (v := ?_) (fun u hu => ?_) hS ?_
                  rotate_left
                  · ((obtain ⟨⟨m0, m1⟩, ⟨a0, a1, a2⟩, b0, b1, b2⟩ := (HQ4.out.below hu).cells; obtain ⟨z0, z1, _, _⟩ := obj_cells (obj_below HG4.out hu)); go_simp; try (with_reducible rfl))
                  try simp only [puts]
                  refine gv 7 (v := ?_) (fun u hu => ?_) hS ?_
                  rotate_left
                  · ((obtain ⟨⟨m0, m1⟩, ⟨a0, a1, a2⟩, b0, b1, b2⟩ := (HQ4.out.below hu).cells; obtain ⟨z0, z1, _, _⟩ := obj_cells (obj_below HG4.out hu)); go_simp; try (with_reducible rfl))
                  try simp only [puts]
                  refine gv 8 (v := ?_) (fun u hu => ?_) hS ?_
                  rotate_left
                  · ((obtain ⟨⟨m0, m1⟩, ⟨a0, a1, a2⟩, b0, b1, b2⟩ := (HQ4.out.below hu).cells; obtain ⟨z0, z1, _, _⟩ := obj_cells (obj_below HG4.out hu)); go_simp; try (with_reducible rfl))
                  try simp only [puts]
                  refine gv 9 (v := ?_) (fun u hu => ?_) hS ?_
                  rotate_left
                  · ((obtain ⟨⟨m0, m1⟩, ⟨a0, a1, a2⟩, b0, b1, b2⟩ := (HQ4.out.below hu).cells; obtain ⟨z0, z1, _, _⟩ := obj_cells (obj_below HG4.out hu)); go_simp; try (with_reducible rfl))
                  try simp only [puts]
                  refine gv 10 (v := ?_) (fun u hu => ?_) hS ?_
                  rotate_left
                  · ((obtain ⟨⟨m0, m1⟩, ⟨a0, a1, a2⟩, b0, b1, b2⟩ := (HQ4.out.below hu).cells; obtain ⟨z0, z1, _, _⟩ := obj_cells (obj_below HG4.out hu)); go_simp; try (with_reducible rfl))
                  try simp only [puts]
                  refine only_call (i := 11) 74 #[.string y, .int .i64 v'] rfl (by kernel_rfl) (by rfl) ((HVY.out _).mono fun e w' he => ⟨he.1, he.2 ▸ hS⟩) ?_ ?_
                  · (go_simp; try (with_reducible rfl))
                  clear hS
                  intro w11 hS
                  try simp only [puts]
                  refine gv 12 (v := ?_) (fun u hu => ?_) hS ?_
                  rotate_left
                  · ((obtain ⟨⟨m0, m1⟩, ⟨a0, a1, a2⟩, b0, b1, b2⟩ := (HQ4.out.below hu).cells; obtain ⟨z0, z1, _, _⟩ := obj_cells (obj_below HG4.out hu)); go_simp; try (with_reducible rfl))
                  try simp only [puts]
                  refine gv 13 (v := ?_) (fun u hu => ?_) hS ?_
                  rotate_left
                  · ((obtain ⟨⟨m0, m1⟩, ⟨a0, a1, a2⟩, b0, b1, b2⟩ := (HQ4.out.below hu).cells; obtain ⟨z0, z1, _, _⟩ := obj_cells (obj_below HG4.out hu)); go_simp; try (with_reducible rfl))
                  try simp only [puts]
                  refine gv 14 (v := ?_) (fun u hu => ?_) hS ?_
                  rotate_left
                  · ((obtain ⟨⟨m0, m1⟩, ⟨a0, a1, a2⟩, b0, b1, b2⟩ := (HQ4.out.below hu).cells; obtain ⟨z0, z1, _, _⟩ := obj_cells (obj_below HG4.out hu)); go_simp; try (with_reducible rfl))
                  try simp only [puts]
                  refine gv 15 (v := ?_) (fun u hu => ?_) hS ?_
                  rotate_left
                  · ((obtain ⟨⟨m0, m1⟩, ⟨a0, a1, a2⟩, b0, b1, b2⟩ := (HQ4.out.below hu).cells; obtain ⟨z0, z1, _, _⟩ := obj_cells (obj_below HG4.out hu)); go_simp; try (with_reducible rfl))
                  try simp only [puts]
                  refine gv 16 (v := ?_) (fun u hu => ?_) hS ?_
                  rotate_left
                  · ((obtain ⟨⟨m0, m1⟩, ⟨a0, a1, a2⟩, b0, b1, b2⟩ := (HQ4.out.below hu).cells; obtain ⟨z0, z1, _, _⟩ := obj_cells (obj_below HG4.out hu)); go_simp; try (with_reducible rfl))
                  try simp only [puts]
                  refine gv 18 (v := ?_) (fun u hu => ?_) hS ?_
                  rotate_left
                  · ((obtain ⟨⟨m0, m1⟩, ⟨a0, a1, a2⟩, b0, b1, b2⟩ := (HQ4.out.below hu).cells; obtain ⟨z0, z1, _, _⟩ := obj_cells (obj_below HG4.out hu)); go_simp; try (with_reducible rfl))
                  try simp only [puts]
                  refine gv 19 (v := ?_) (fun u hu => ?_) hS ?_
                  rotate_left
                  · ((obtain ⟨⟨m0, m1⟩, ⟨a0, a1, a2⟩, b0, b1, b2⟩ := (HQ4.out.below hu).cells; obtain ⟨z0, z1, _, _⟩ := obj_cells (obj_below HG4.out hu)); go_simp; try (with_reducible rfl))
                  try simp only [puts]
                  refine only_call (i := 17) 75 #[.string x] rfl (by kernel_rfl) (by rfl) ((HAX.out _).mono fun e w' he => ⟨he.1, he.2 ▸ hS⟩) ?_ ?_
                  · (go_simp; try (with_reducible rfl))
                  clear hS
                  intro w17 hS
                  try simp only [puts]
                  refine only_call (i := 20) 75 #[.string y] rfl (by kernel_rfl) (by rfl) ((HAY.out _).mono fun e w' he => ⟨he.1, he.2 ▸ hS⟩) ?_ ?_
                  · (go_simp; try (with_reducible rfl))
                  clear hS
                  intro w20 hS
                  try simp only [puts]
                  refine gv 21 (v := (.bool false)) (fun u hu => ?_) hS ?_
                  · ((obtain ⟨⟨m0, m1⟩, ⟨a0, a1, a2⟩, b0, b1, b2⟩ := (HQ4.out.below hu).cells; obtain ⟨z0, z1, _, _⟩ := obj_cells (obj_below HG4.out hu)); go_simp; (all_goals (cases q1 <;> rfl)))
                  try simp only [puts]
                  refine gv 22 (v := ?_) (fun u hu => ?_) hS ?_
                  rotate_left
                  · ((obtain ⟨⟨m0, m1⟩, ⟨a0, a1, a2⟩, b0, b1, b2⟩ := (HQ4.out.below hu).cells; obtain ⟨z0, z1, _, _⟩ := obj_cells (obj_below HG4.out hu)); go_simp; try (with_reducible rfl))
                  try simp only [puts]
                  refine wpAnyH_done (by kernel_rfl) (NoPanic.normal ?_) _
                  have HQ5 := Lib.hid (HQ4.out.below hS)
                  have HG5 := Lib.hid (obj_below HG4.out hS)
                  clear hS HQ4 HG4
                  rename World => W5
                  go_wp2_with fail
                  refine wp_region_noPanic ?_
                  refine wp_region_held_drew (S := (fun u => Below W5.heap.size W5 u)) (by kernel_rfl) ((Below.refl _ _).drew) (fun hS => ?_)
                  refine gv 0 (v := ?_) (fun u hu => ?_) hS ?_
                  rotate_left
                  · ((obtain ⟨⟨m0, m1⟩, ⟨a0, a1, a2⟩, b0, b1, b2⟩ := (HQ5.out.below hu).cells; obtain ⟨z0, z1, _, _⟩ := obj_cells (obj_below HG5.out hu)); go_simp; try (with_reducible rfl))
                  try simp only [puts]
                  refine gv 1 (v := ?_) (fun u hu => ?_) hS ?_
                  rotate_left
                  · ((obtain ⟨⟨m0, m1⟩, ⟨a0, a1, a2⟩, b0, b1, b2⟩ := (HQ5.out.below hu).cells; obtain ⟨z0, z1, _, _⟩ := obj_cells (obj_below HG5.out hu)); go_simp; try (with_reducible rfl))
                  try simp only [puts]
                  refine gv 2 (v := ?_) (fun u hu => ?_) hS ?_
                  rotate_left
                  · ((obtain ⟨⟨m0, m1⟩, ⟨a0, a1, a2⟩, b0, b1, b2⟩ := (HQ5.out.below hu).cells; obtain ⟨z0, z1, _, _⟩ := obj_cells (obj_below HG5.out hu)); go_simp; try (with_reducible rfl))
                  try simp only [puts]
                  refine gv 3 (v := ?_) (fun u hu => ?_) hS ?_
                  rotate_left
                  · ((obtain ⟨⟨m0, m1⟩, ⟨a0, a1, a2⟩, b0, b1, b2⟩ := (HQ5.out.below hu).cells; obtain ⟨z0, z1, _, _⟩ := obj_cells (obj_below HG5.out hu)); go_simp; try (with_reducible rfl))
                  try simp only [puts]
                  refine gv 4 (v := ?_) (fun u hu => ?_) hS ?_
                  rotate_left
                  · ((obtain ⟨⟨m0, m1⟩, ⟨a0, a1, a2⟩, b0, b1, b2⟩ := (HQ5.out.below hu).cells; obtain ⟨z0, z1, _, _⟩ := obj_cells (obj_below HG5.out hu)); go_simp; try (with_reducible rfl))
                  try simp only [puts]
                  refine gv 5 (v := ?_) (fun u hu => ?_) hS ?_
                  rotate_left
                  · ((obtain ⟨⟨m0, m1⟩, ⟨a0, a1, a2⟩, b0, b1, b2⟩ := (HQ5.out.below hu).cells; obtain ⟨z0, z1, _, _⟩ := obj_cells (obj_below HG5.out hu)); go_simp; try (with_reducible rfl))
                  try simp only [puts]
                  refine only_call (i := 6) 76 #[.slice (some pa) q cM, .string x] rfl (by kernel_rfl) (by rfl) ((HAP.out _ (HM.out.below (HQ5.out.below hS).1)).mono fun e w' he => ⟨he.1, he.2 ▸ hS⟩) ?_ ?_
                  · (go_simp; try (with_reducible rfl))
                  clear hS
                  intro w6 hS
                  try simp only [puts]
                  refine gv 7 (v := ?_) (fun u hu => ?_) hS ?_
                  rotate_left
                  · ((obtain ⟨⟨m0, m1⟩, ⟨a0, a1, a2⟩, b0, b1, b2⟩ := (HQ5.out.below hu).cells; obtain ⟨z0, z1, _, _⟩ := obj_cells (obj_below HG5.out hu)); go_simp; try (with_reducible rfl))
                  try simp only [puts]
                  refine gv 8 (v := ?_) (fun u hu => ?_) hS ?_
                  rotate_left
                  · ((obtain ⟨⟨m0, m1⟩, ⟨a0, a1, a2⟩, b0, b1, b2⟩ := (HQ5.out.below hu).cells; obtain ⟨z0, z1, _, _⟩ := obj_cells (obj_below HG5.out hu)); go_simp; try (with_reducible rfl))
                  try simp only [puts]
                  refine gv 9 (v := ?_) (fun u hu => ?_) hS ?_
                  rotate_left
                  · ((obtain ⟨⟨m0, m1⟩, ⟨a0, a1, a2⟩, b0, b1, b2⟩ := (HQ5.out.below hu).cells; obtain ⟨z0, z1, _, _⟩ := obj_cells (obj_below HG5.out hu)); go_simp; try (with_reducible rfl))
                  try simp only [puts]
                  refine gv 10 (v := ?_) (fun u hu => ?_) hS ?_
                  rotate_left
                  · ((obtain ⟨⟨m0, m1⟩, ⟨a0, a1, a2⟩, b0, b1, b2⟩ := (HQ5.out.below hu).cells; obtain ⟨z0, z1, _, _⟩ := obj_cells (obj_below HG5.out hu)); go_simp; try (with_reducible rfl))
                  try simp only [puts]
                  refine gv 11 (v := ?_) (fun u hu => ?_) hS ?_
                  rotate_left
                  · ((obtain ⟨⟨m0, m1⟩, ⟨a0, a1, a2⟩, b0, b1, b2⟩ := (HQ5.out.below hu).cells; obtain ⟨z0, z1, _, _⟩ := obj_cells (obj_below HG5.out hu)); go_simp; try (with_reducible rfl))
                  try simp only [puts]
                  refine wpAnyH_done (by kernel_rfl) (NoPanic.normal ?_) _
                  have HQ6 := Lib.hid (HQ5.out.below hS)
                  clear hS HQ5 HG5
                  cases mb
                  · have HE0 : Hid (ee = 0) := by show _ = _; rw [HMP.out]; simp
                    go_wp2
                    go_roundw
                    case rel =>
                      refine ⟨q + 1, by omega, by go_num, HQ6.out, fun j hj => ?_⟩
                      rcases Nat.lt_or_ge j q with h | h
                      · exact HNO.out j h
                      · obtain rfl : j = q := by omega
                        exact HEE.out.trans HE0.out
                    case measure => simp [intOf]; omega
                  · have HE7 : Hid (ee = 10) := by show _ = _; rw [HMP.out]; simp
                    have HE := Lib.hid (HE4.out (by rw [HE7.out]; decide))
                    rw [HE7.out] at HE
                    go_wp2
                    go_ret3
                    exact ⟨by rw [HE.out] <;> rfl, HQ6.out.1⟩
                · have hne : (q1 != q2) = true := by cases q1 <;> cases q2 <;> simp_all
                  have HQN : Hid ((q1 == q2) = false) := by show _ = _; cases q1 <;> cases q2 <;> simp_all
                  refine wp_region_noPanic ?_
                  refine wp_region_held_drew (S := (fun u => Below W4.heap.size W4 u)) (by kernel_rfl) ((Below.refl _ _).drew) (fun hS => ?_)
                  refine gv 0 (v := ?_) (fun u hu => ?_) hS ?_
                  rotate_left
                  · ((obtain ⟨⟨m0, m1⟩, ⟨a0, a1, a2⟩, b0, b1, b2⟩ := (HQ4.out.below hu).cells; obtain ⟨z0, z1, _, _⟩ := obj_cells (obj_below HG4.out hu)); go_simp; try (with_reducible rfl))
                  try simp only [puts]
                  refine gv 1 (v := ?_) (fun u hu => ?_) hS ?_
                  rotate_left
                  · ((obtain ⟨⟨m0, m1⟩, ⟨a0, a1, a2⟩, b0, b1, b2⟩ := (HQ4.out.below hu).cells; obtain ⟨z0, z1, _, _⟩ := obj_cells (obj_below HG4.out hu)); go_simp; try (with_reducible rfl))
                  try simp only [puts]
                  refine gv 2 (v := ?_) (fun u hu => ?_) hS ?_
                  rotate_left
                  · ((obtain ⟨⟨m0, m1⟩, ⟨a0, a1, a2⟩, b0, b1, b2⟩ := (HQ4.out.below hu).cells; obtain ⟨z0, z1, _, _⟩ := obj_cells (obj_below HG4.out hu)); go_simp; try (with_reducible rfl))
                  try simp only [puts]
                  refine gv 3 (v := ?_) (fun u hu => ?_) hS ?_
                  rotate_left
                  · ((obtain ⟨⟨m0, m1⟩, ⟨a0, a1, a2⟩, b0, b1, b2⟩ := (HQ4.out.below hu).cells; obtain ⟨z0, z1, _, _⟩ := obj_cells (obj_below HG4.out hu)); go_simp; try (with_reducible rfl))
                  try simp only [puts]
                  refine only_call (i := 4) 74 #[.string x, .int .i64 v] rfl (by kernel_rfl) (by rfl) ((HVX.out _).mono fun e w' he => ⟨he.1, he.2 ▸ hS⟩) ?_ ?_
                  · (go_simp; try (with_reducible rfl))
                  clear hS
                  intro w4 hS
                  try simp only [puts]
                  refine gv 5 (v := ?_) (fun u hu => ?_) hS ?_
                  rotate_left
                  · ((obtain ⟨⟨m0, m1⟩, ⟨a0, a1, a2⟩, b0, b1, b2⟩ := (HQ4.out.below hu).cells; obtain ⟨z0, z1, _, _⟩ := obj_cells (obj_below HG4.out hu)); go_simp; try (with_reducible rfl))
                  try simp only [puts]
                  refine gv 6 (v := ?_) (fun u hu => ?_) hS ?_
                  rotate_left
                  · ((obtain ⟨⟨m0, m1⟩, ⟨a0, a1, a2⟩, b0, b1, b2⟩ := (HQ4.out.below hu).cells; obtain ⟨z0, z1, _, _⟩ := obj_cells (obj_below HG4.out hu)); go_simp; try (with_reducible rfl))
                  try simp only [puts]
                  refine gv 7 (v := ?_) (fun u hu => ?_) hS ?_
                  rotate_left
                  · ((obtain ⟨⟨m0, m1⟩, ⟨a0, a1, a2⟩, b0, b1, b2⟩ := (HQ4.out.below hu).cells; obtain ⟨z0, z1, _, _⟩ := obj_cells (obj_below HG4.out hu)); go_simp; try (with_reducible rfl))
                  try simp only [puts]
                  refine gv 8 (v := ?_) (fun u hu => ?_) hS ?_
                  rotate_left
                  · ((obtain ⟨⟨m0, m1⟩, ⟨a0, a1, a2⟩, b0, b1, b2⟩ := (HQ4.out.below hu).cells; obtain ⟨z0, z1, _, _⟩ := obj_cells (obj_below HG4.out hu)); go_simp; try (with_reducible rfl))
                  try simp only [puts]
                  refine gv 9 (v := ?_) (fun u hu => ?_) hS ?_
                  rotate_left
                  · ((obtain ⟨⟨m0, m1⟩, ⟨a0, a1, a2⟩, b0, b1, b2⟩ := (HQ4.out.below hu).cells; obtain ⟨z0, z1, _, _⟩ := obj_cells (obj_below HG4.out hu)); go_simp; try (with_reducible rfl))
                  try simp only [puts]
                  refine gv 10 (v := ?_) (fun u hu => ?_) hS ?_
                  rotate_left
                  · ((obtain ⟨⟨m0, m1⟩, ⟨a0, a1, a2⟩, b0, b1, b2⟩ := (HQ4.out.below hu).cells; obtain ⟨z0, z1, _, _⟩ := obj_cells (obj_below HG4.out hu)); go_simp; try (with_reducible rfl))
                  try simp only [puts]
                  refine only_call (i := 11) 74 #[.string y, .int .i64 v'] rfl (by kernel_rfl) (by rfl) ((HVY.out _).mono fun e w' he => ⟨he.1, he.2 ▸ hS⟩) ?_ ?_
                  · (go_simp; try (with_reducible rfl))
                  clear hS
                  intro w11 hS
                  try simp only [puts]
                  refine gv 12 (v := ?_) (fun u hu => ?_) hS ?_
                  rotate_left
                  · ((obtain ⟨⟨m0, m1⟩, ⟨a0, a1, a2⟩, b0, b1, b2⟩ := (HQ4.out.below hu).cells; obtain ⟨z0, z1, _, _⟩ := obj_cells (obj_below HG4.out hu)); go_simp; try (with_reducible rfl))
                  try simp only [puts]
                  refine gv 13 (v := ?_) (fun u hu => ?_) hS ?_
                  rotate_left
                  · ((obtain ⟨⟨m0, m1⟩, ⟨a0, a1, a2⟩, b0, b1, b2⟩ := (HQ4.out.below hu).cells; obtain ⟨z0, z1, _, _⟩ := obj_cells (obj_below HG4.out hu)); go_simp; try (with_reducible rfl))
                  try simp only [puts]
                  refine gv 14 (v := ?_) (fun u hu => ?_) hS ?_
                  rotate_left
                  · ((obtain ⟨⟨m0, m1⟩, ⟨a0, a1, a2⟩, b0, b1, b2⟩ := (HQ4.out.below hu).cells; obtain ⟨z0, z1, _, _⟩ := obj_cells (obj_below HG4.out hu)); go_simp; try (with_reducible rfl))
                  try simp only [puts]
                  refine gv 15 (v := ?_) (fun u hu => ?_) hS ?_
                  rotate_left
                  · ((obtain ⟨⟨m0, m1⟩, ⟨a0, a1, a2⟩, b0, b1, b2⟩ := (HQ4.out.below hu).cells; obtain ⟨z0, z1, _, _⟩ := obj_cells (obj_below HG4.out hu)); go_simp; try (with_reducible rfl))
                  try simp only [puts]
                  refine gv 16 (v := ?_) (fun u hu => ?_) hS ?_
                  rotate_left
                  · ((obtain ⟨⟨m0, m1⟩, ⟨a0, a1, a2⟩, b0, b1, b2⟩ := (HQ4.out.below hu).cells; obtain ⟨z0, z1, _, _⟩ := obj_cells (obj_below HG4.out hu)); go_simp; try (with_reducible rfl))
                  try simp only [puts]
                  refine gv 18 (v := ?_) (fun u hu => ?_) hS ?_
                  rotate_left
                  · ((obtain ⟨⟨m0, m1⟩, ⟨a0, a1, a2⟩, b0, b1, b2⟩ := (HQ4.out.below hu).cells; obtain ⟨z0, z1, _, _⟩ := obj_cells (obj_below HG4.out hu)); go_simp; try (with_reducible rfl))
                  try simp only [puts]
                  refine gv 19 (v := ?_) (fun u hu => ?_) hS ?_
                  rotate_left
                  · ((obtain ⟨⟨m0, m1⟩, ⟨a0, a1, a2⟩, b0, b1, b2⟩ := (HQ4.out.below hu).cells; obtain ⟨z0, z1, _, _⟩ := obj_cells (obj_below HG4.out hu)); go_simp; try (with_reducible rfl))
                  try simp only [puts]
                  refine only_call (i := 17) 75 #[.string x] rfl (by kernel_rfl) (by rfl) ((HAX.out _).mono fun e w' he => ⟨he.1, he.2 ▸ hS⟩) ?_ ?_
                  · (go_simp; try (with_reducible rfl))
                  clear hS
                  intro w17 hS
                  try simp only [puts]
                  refine only_call (i := 20) 75 #[.string y] rfl (by kernel_rfl) (by rfl) ((HAY.out _).mono fun e w' he => ⟨he.1, he.2 ▸ hS⟩) ?_ ?_
                  · (go_simp; try (with_reducible rfl))
                  clear hS
                  intro w20 hS
                  try simp only [puts]
                  refine gv 21 (v := (.bool true)) (fun u hu => ?_) hS ?_
                  · ((obtain ⟨⟨m0, m1⟩, ⟨a0, a1, a2⟩, b0, b1, b2⟩ := (HQ4.out.below hu).cells; obtain ⟨z0, z1, _, _⟩ := obj_cells (obj_below HG4.out hu)); go_simp; (all_goals (exact hne)))
                  try simp only [puts]
                  refine gv 22 (v := ?_) (fun u hu => ?_) hS ?_
                  rotate_left
                  · ((obtain ⟨⟨m0, m1⟩, ⟨a0, a1, a2⟩, b0, b1, b2⟩ := (HQ4.out.below hu).cells; obtain ⟨z0, z1, _, _⟩ := obj_cells (obj_below HG4.out hu)); go_simp; try (with_reducible rfl))
                  try simp only [puts]
                  refine wpAnyH_done (by kernel_rfl) (NoPanic.normal ?_) _
                  have HQ5 := Lib.hid (HQ4.out.below hS)
                  clear hS
                  have HE7 : Hid (ee = 7) := by show _ = _; rw [HMP.out, HQN.out]; rfl
                  have HE := Lib.hid (HE4.out (by rw [HE7.out]; decide))
                  rw [HE7.out] at HE
                  go_wp2
                  go_ret3
                  exact ⟨by rw [HE.out] <;> rfl, HQ5.out.1⟩
          · have hqn : q = n := by omega
            subst hqn
            have HX5 := Lib.hid (HX5.out HM4.out HNO.out)
            have HX6 := Lib.hid (fun i => HX6.out i HSA.out HSB.out HM4.out HNO.out)
            have HX7 := Lib.hid (HX7.out HM4.out HNO.out)
            clear HX4 HQ2 HNO
            by_cases hR3 : 256 < m
            · have HE := Lib.hid (HX5.out hR3)
              have t4 : decide ((256 : Int) < (m : Int)) = true := by simp; omega
              clear hR3
              go_wp2
              go_ret3
              exact ⟨by rw [HE.out] <;> rfl, HQ3.out.1⟩
            · have hR4 : m ≤ 256 := by omega
              have t4 : decide ((256 : Int) < (m : Int)) = false := by simp; omega
              have HR4 := Lib.hid hR4
              have hm1 : (m : Int) < 1000 := by omega
              have HX7 := Lib.hid (HX7.out hR4)
              clear hR3 HX5
              go_wp2
              clear t4
              clear m0 m1 a0 a1 a2 b0 b1 b2
              go_loopw [13] (fun i wr => ∃ p : Nat, p ≤ m ∧ i = .int .i64 (p : Int) ∧ MQ w X q cM Y m cR st v A la ca st' v' A' lb cb wr ∧ ∀ j, j < p → ruE a b R j = 0) (fun i _ => m - (intOf i).toNat)
              case atStart => exact ⟨0, Nat.zero_le _, rfl, HQ3.out, fun j hj => by omega⟩
              case round =>
                rename World => wr2
                obtain ⟨p, hp, rfl, hQ, hno⟩ := hrel
                have HQ4 := Lib.hid hQ
                have HNO := Lib.hid hno
                clear hQ hno HQ3
                obtain ⟨⟨m0, m1⟩, ⟨a0, a1, a2⟩, b0, b1, b2⟩ := HQ4.out.cells
                by_cases hlt : p < m
                · have hpl : p < R.length := by have := HLR.out; omega
                  obtain ⟨ra, k, f, t, s, P, B, c, rfl, hx, hc⟩ := rls_all HR.out hpl
                  have hfz := HF3.out.at_ hpl
                  rw [hx] at hfz
                  have HZ := Lib.hid hfz
                  have HCE := Lib.hid hc
                  have HRE := Lib.hid (ruE_told (a := a) (b := b) hx)
                  have HC := Lib.hid (fun W k1 k2 k3 => HRL.out k f t s B c P W k1 k2 k3 HZ.out.2.1 HZ.out.2.2 HZ.out.1)
                  have HE6 := Lib.hid (fun h => HX6.out p HR4.out hlt HNO.out h)
                  have hru : ruN a b (k, f, t, s, P) = rulN k f t s P a b := rfl
                  rw [hru] at HRE
                  generalize rulN k f t s P a b = z at *
                  generalize hee : ruE a b R p = ee at *
                  have HEE := Lib.hid hee
                  have HPL := Lib.hid hpl
                  have HLT := Lib.hid hlt
                  have tlt : decide ((p : Int) < (m : Int)) = true := by simpa using hlt
                  clear hee hx hc hfz hru hpl
                  go_wp2_with fail
                  clear m0 m1 a0 a1 a2 b0 b1 b2
                  refine wp_region_noPanic ?_
                  refine wp_region_held_drew (S := (fun u => Below wr2.heap.size wr2 u)) (by kernel_rfl) ((Below.refl _ _).drew) (fun hS => ?_)
                  refine gv 0 (v := ?_) (fun u hu => ?_) hS ?_
                  rotate_left
                  · ((obtain ⟨⟨m0, m1⟩, ⟨a0, a1, a2⟩, b0, b1, b2⟩ := (HQ4.out.below hu).cells; obtain ⟨⟨x0, x1, x2, x3, x4⟩, _⟩ := HCE.out _ (hbt HQ4.out.1 hu)); go_simp; try (with_reducible rfl))
                  try simp only [puts]
                  refine gv 1 (v := ?_) (fun u hu => ?_) hS ?_
                  rotate_left
                  · ((obtain ⟨⟨m0, m1⟩, ⟨a0, a1, a2⟩, b0, b1, b2⟩ := (HQ4.out.below hu).cells; obtain ⟨⟨x0, x1, x2, x3, x4⟩, _⟩ := HCE.out _ (hbt HQ4.out.1 hu)); go_simp; try (with_reducible rfl))
                  try simp only [puts]
                  refine gv 2 (v := ?_) (fun u hu => ?_) hS ?_
                  rotate_left
                  · ((obtain ⟨⟨m0, m1⟩, ⟨a0, a1, a2⟩, b0, b1, b2⟩ := (HQ4.out.below hu).cells; obtain ⟨⟨x0, x1, x2, x3, x4⟩, _⟩ := HCE.out _ (hbt HQ4.out.1 hu)); go_simp; try (with_reducible rfl))
                  try simp only [puts]
                  refine gv 3 (v := ?_) (fun u hu => ?_) hS ?_
                  rotate_left
                  · ((obtain ⟨⟨m0, m1⟩, ⟨a0, a1, a2⟩, b0, b1, b2⟩ := (HQ4.out.below hu).cells; obtain ⟨⟨x0, x1, x2, x3, x4⟩, _⟩ := HCE.out _ (hbt HQ4.out.1 hu)); go_simp; try (with_reducible rfl))
                  try simp only [puts]
                  refine gv 4 (v := ?_) (fun u hu => ?_) hS ?_
                  rotate_left
                  · ((obtain ⟨⟨m0, m1⟩, ⟨a0, a1, a2⟩, b0, b1, b2⟩ := (HQ4.out.below hu).cells; obtain ⟨⟨x0, x1, x2, x3, x4⟩, _⟩ := HCE.out _ (hbt HQ4.out.1 hu)); go_simp; try (with_reducible rfl))
                  try simp only [puts]
                  refine gv 5 (v := ?_) (fun u hu => ?_) hS ?_
                  rotate_left
                  · ((obtain ⟨⟨m0, m1⟩, ⟨a0, a1, a2⟩, b0, b1, b2⟩ := (HQ4.out.below hu).cells; obtain ⟨⟨x0, x1, x2, x3, x4⟩, _⟩ := HCE.out _ (hbt HQ4.out.1 hu)); go_simp; try (with_reducible rfl))
                  try simp only [puts]
                  refine gv 6 (v := ?_) (fun u hu => ?_) hS ?_
                  rotate_left
                  · ((obtain ⟨⟨m0, m1⟩, ⟨a0, a1, a2⟩, b0, b1, b2⟩ := (HQ4.out.below hu).cells; obtain ⟨⟨x0, x1, x2, x3, x4⟩, _⟩ := HCE.out _ (hbt HQ4.out.1 hu)); go_simp; try (with_reducible rfl))
                  try simp only [puts]
                  refine only_call (i := 7) 77 #[.agg #[.int .i64 k, .int .i64 f, .int .i64 t, .string s, .slice B P.length c], .agg #[.int .i64 st, .int .i64 v, .slice A la ca], .agg #[.int .i64 st', .int .i64 v', .slice A' lb cb]] rfl (by kernel_rfl) (by rfl) ((HC.out _ (HCE.out _ (hbt HQ4.out.1 hS)).2 (HA.out.below (hbt HQ4.out.1 hS)) (HB.out.below (hbt HQ4.out.1 hS))).mono fun e w' he => ⟨he.1, hbt hS he.2⟩) ?_ ?_
                  · (go_simp; try (with_reducible rfl))
                  clear hS
                  intro w7 hS
                  try simp only [puts]
                  refine gv 8 (v := ?_) (fun u hu => ?_) hS ?_
                  rotate_left
                  · ((obtain ⟨⟨m0, m1⟩, ⟨a0, a1, a2⟩, b0, b1, b2⟩ := (HQ4.out.below hu).cells; obtain ⟨⟨x0, x1, x2, x3, x4⟩, _⟩ := HCE.out _ (hbt HQ4.out.1 hu)); go_simp; try (with_reducible rfl))
                  try simp only [puts]
                  refine wpAnyH_done (by kernel_rfl) (NoPanic.normal ?_) _
                  have HQ5 := Lib.hid (HQ4.out.below hS)
                  clear hS HQ4
                  rename World => wr3
                  by_cases hz : z = 0
                  · subst hz
                    rw [if_neg (by simp)] at HRE
                    clear hlt
                    go_wp2
                    go_loopw [15] (fun i2 wi => ∃ r : Nat, r ≤ p ∧ i2 = .int .i64 (r : Int) ∧ MQ w X q cM (some ra) m cR st v A la ca st' v' A' lb cb wi ∧ ∀ j, j < r → twiceB (ruAt R j) (k, f, t, s, P) = false) (fun i2 _ => p - (intOf i2).toNat)
                    case atStart => exact ⟨0, Nat.zero_le _, rfl, HQ5.out, fun j hj => by omega⟩
                    case round =>
                      rename World => wi
                      obtain ⟨r, hr, rfl, hQi, hnoi⟩ := hrel
                      have HQ6 := Lib.hid hQi
                      have HNOI := Lib.hid hnoi
                      clear hQi hnoi
                      by_cases hrp : r < p
                      · obtain ⟨rb, k2, f2, t2, s2, P2, B2, c2, hrb, hx2, hc2⟩ := rls_all HR.out (p := r) (by have := HPL.out; omega)
                        injection hrb with hrb
                        subst hrb
                        have HCI := Lib.hid hc2
                        have HX2 := Lib.hid hx2
                        have hrm : r < m := by have := HLT.out; omega
                        have hpm : p < m := HLT.out
                        have HTW := Lib.hid (fun W => xtwice_any k2 f2 t2 s2 B2 P2.length c2 k f t s B P.length c W)
                        have HTB : Hid (twiceB (ruAt R r) (k, f, t, s, P) = ((decide (f2 ≠ 0) && decide (f2 = f)) || (decide (t2 ≠ 0) && decide (t2 = t)))) := by show _ = _; rw [HX2.out]; rfl
                        generalize ((decide (f2 ≠ 0) && decide (f2 = f)) || (decide (t2 ≠ 0) && decide (t2 = t))) = tb at *
                        clear hx2 hc2
                        go_wp2_with fail
                        refine wp_region_noPanic ?_
                        refine wp_region_held_drew (S := (fun u => Below wi.heap.size wi u)) (by kernel_rfl) ((Below.refl _ _).drew) (fun hS => ?_)
                        refine gv 0 (v := ?_) (fun u hu => ?_) hS ?_
                        rotate_left
                        · ((obtain ⟨⟨m0, m1⟩, ⟨a0, a1, a2⟩, b0, b1, b2⟩ := (HQ6.out.below hu).cells; obtain ⟨⟨x0, x1, x2, x3, x4⟩, _⟩ := HCE.out _ (hbt HQ6.out.1 hu); obtain ⟨⟨y0, y1, y2, y3, y4⟩, _⟩ := HCI.out _ (hbt HQ6.out.1 hu)); go_simp; try (with_reducible rfl))
                        try simp only [puts]
                        refine gv 1 (v := ?_) (fun u hu => ?_) hS ?_
                        rotate_left
                        · ((obtain ⟨⟨m0, m1⟩, ⟨a0, a1, a2⟩, b0, b1, b2⟩ := (HQ6.out.below hu).cells; obtain ⟨⟨x0, x1, x2, x3, x4⟩, _⟩ := HCE.out _ (hbt HQ6.out.1 hu); obtain ⟨⟨y0, y1, y2, y3, y4⟩, _⟩ := HCI.out _ (hbt HQ6.out.1 hu)); go_simp; try (with_reducible rfl))
                        try simp only [puts]
                        refine gv 2 (v := ?_) (fun u hu => ?_) hS ?_
                        rotate_left
                        · ((obtain ⟨⟨m0, m1⟩, ⟨a0, a1, a2⟩, b0, b1, b2⟩ := (HQ6.out.below hu).cells; obtain ⟨⟨x0, x1, x2, x3, x4⟩, _⟩ := HCE.out _ (hbt HQ6.out.1 hu); obtain ⟨⟨y0, y1, y2, y3, y4⟩, _⟩ := HCI.out _ (hbt HQ6.out.1 hu)); go_simp; try (with_reducible rfl))
                        try simp only [puts]
                        refine gv 3 (v := ?_) (fun u hu => ?_) hS ?_
                        rotate_left
                        · ((obtain ⟨⟨m0, m1⟩, ⟨a0, a1, a2⟩, b0, b1, b2⟩ := (HQ6.out.below hu).cells; obtain ⟨⟨x0, x1, x2, x3, x4⟩, _⟩ := HCE.out _ (hbt HQ6.out.1 hu); obtain ⟨⟨y0, y1, y2, y3, y4⟩, _⟩ := HCI.out _ (hbt HQ6.out.1 hu)); go_simp; try (with_reducible rfl))
                        try simp only [puts]
                        refine gv 4 (v := ?_) (fun u hu => ?_) hS ?_
                        rotate_left
                        · ((obtain ⟨⟨m0, m1⟩, ⟨a0, a1, a2⟩, b0, b1, b2⟩ := (HQ6.out.below hu).cells; obtain ⟨⟨x0, x1, x2, x3, x4⟩, _⟩ := HCE.out _ (hbt HQ6.out.1 hu); obtain ⟨⟨y0, y1, y2, y3, y4⟩, _⟩ := HCI.out _ (hbt HQ6.out.1 hu)); go_simp; try (with_reducible rfl))
                        try simp only [puts]
                        refine gv 5 (v := ?_) (fun u hu => ?_) hS ?_
                        rotate_left
                        · ((obtain ⟨⟨m0, m1⟩, ⟨a0, a1, a2⟩, b0, b1, b2⟩ := (HQ6.out.below hu).cells; obtain ⟨⟨x0, x1, x2, x3, x4⟩, _⟩ := HCE.out _ (hbt HQ6.out.1 hu); obtain ⟨⟨y0, y1, y2, y3, y4⟩, _⟩ := HCI.out _ (hbt HQ6.out.1 hu)); go_simp; try (with_reducible rfl))
                        try simp only [puts]
                        refine gv 6 (v := ?_) (fun u hu => ?_) hS ?_
                        rotate_left
                        · ((obtain ⟨⟨m0, m1⟩, ⟨a0, a1, a2⟩, b0, b1, b2⟩ := (HQ6.out.below hu).cells; obtain ⟨⟨x0, x1, x2, x3, x4⟩, _⟩ := HCE.out _ (hbt HQ6.out.1 hu); obtain ⟨⟨y0, y1, y2, y3, y4⟩, _⟩ := HCI.out _ (hbt HQ6.out.1 hu)); go_simp; try (with_reducible rfl))
                        try simp only [puts]
                        refine gv 7 (v := ?_) (fun u hu => ?_) hS ?_
                        rotate_left
                        · ((obtain ⟨⟨m0, m1⟩, ⟨a0, a1, a2⟩, b0, b1, b2⟩ := (HQ6.out.below hu).cells; obtain ⟨⟨x0, x1, x2, x3, x4⟩, _⟩ := HCE.out _ (hbt HQ6.out.1 hu); obtain ⟨⟨y0, y1, y2, y3, y4⟩, _⟩ := HCI.out _ (hbt HQ6.out.1 hu)); go_simp; try (with_reducible rfl))
                        try simp only [puts]
                        refine gv 8 (v := ?_) (fun u hu => ?_) hS ?_
                        rotate_left
                        · ((obtain ⟨⟨m0, m1⟩, ⟨a0, a1, a2⟩, b0, b1, b2⟩ := (HQ6.out.below hu).cells; obtain ⟨⟨x0, x1, x2, x3, x4⟩, _⟩ := HCE.out _ (hbt HQ6.out.1 hu); obtain ⟨⟨y0, y1, y2, y3, y4⟩, _⟩ := HCI.out _ (hbt HQ6.out.1 hu)); go_simp; try (with_reducible rfl))
                        try simp only [puts]
                        refine gv 9 (v := ?_) (fun u hu => ?_) hS ?_
                        rotate_left
                        · ((obtain ⟨⟨m0, m1⟩, ⟨a0, a1, a2⟩, b0, b1, b2⟩ := (HQ6.out.below hu).cells; obtain ⟨⟨x0, x1, x2, x3, x4⟩, _⟩ := HCE.out _ (hbt HQ6.out.1 hu); obtain ⟨⟨y0, y1, y2, y3, y4⟩, _⟩ := HCI.out _ (hbt HQ6.out.1 hu)); go_simp; try (with_reducible rfl))
                        try simp only [puts]
                        refine only_call (i := 10) 78 #[.agg #[.int .i64 k2, .int .i64 f2, .int .i64 t2, .string s2, .slice B2 P2.length c2], .agg #[.int .i64 k, .int .i64 f, .int .i64 t, .string s, .slice B P.length c]] rfl (by kernel_rfl) (by rfl) ((HTW.out _).mono fun e w' he => ⟨he.1, hbt hS he.2⟩) ?_ ?_
                        · (go_simp; try (with_reducible rfl))
                        clear hS
                        intro w10 hS
                        try simp only [puts]
                        refine wpAnyH_done (by kernel_rfl) (NoPanic.normal ?_) _
                        have HQ7 := Lib.hid (HQ6.out.below hS)
                        clear hS HQ6
                        cases tb
                        · go_wp2
                          go_roundw
                          case rel =>
                            refine ⟨r + 1, by omega, by go_num, HQ7.out, fun j hj => ?_⟩
                            rcases Nat.lt_or_ge j r with h | h
                            · exact HNOI.out j h
                            · obtain rfl : j = r := by omega
                              exact HTB.out
                          case measure => simp [intOf]; omega
                        · have HE7 : Hid (ee = 10) := by
                            show _ = _
                            rw [HRE.out]
                            cases ha : (R.take p).any (fun x => twiceB x (k, f, t, s, P))
                            · have := (any_twice (by have := HPL.out; omega)).1 ha r hrp
                              rw [HTB.out] at this; cases this
                            · rfl
                          have HE := Lib.hid (HE6.out (by rw [HE7.out]; decide))
                          rw [HE7.out] at HE
                          go_wp2
                          go_ret3
                          exact ⟨by rw [HE.out] <;> rfl, HQ7.out.1⟩
                      · have hrp2 : r = p := by omega
                        subst hrp2
                        have HE0 : Hid (ee = 0) := by
                          show _ = _
                          rw [HRE.out, (any_twice (by have := HPL.out; omega)).2 HNOI.out]
                          simp
                        have hpm : r < m := HLT.out
                        clear tlt
                        go_wp2
                        go_roundw
                        case rel =>
                          refine ⟨r + 1, by omega, by go_num, HQ6.out, fun j hj => ?_⟩
                          rcases Nat.lt_or_ge j r with h | h
                          · exact HNO.out j h
                          · obtain rfl : j = r := by omega
                            exact HEE.out.trans HE0.out
                        case measure => simp [intOf]; omega
                  · rw [if_pos hz] at HRE
                    have te : (z != 0) = true := by simpa using hz
                    have HE := Lib.hid (HE6.out (by rw [HRE.out]; exact hz))
                    rw [HRE.out] at HE
                    clear hz
                    go_wp2
                    go_ret3
                    exact ⟨by rw [HE.out] <;> rfl, HQ5.out.1⟩
                · have hpm : p = m := by omega
                  have HE := Lib.hid (HX7.out (fun j hj => HNO.out j (by omega)))
                  go_wp2
                  go_ret3
                  exact ⟨by rw [HE.out] <;> rfl, HQ4.out.1⟩
    · have hb : (schN st' v' b).1 ≠ 0 := by simpa using hrb
      generalize decide ((schN st' v' b).1 = 0) = db at *
      subst hrb
      have HE := Lib.hid (HX2.out ha hb)
      clear ha hb
      go_wp2
      go_ret3
      exact ⟨by rw [HE.out] <;> rfl, HQ2.out.1⟩
  · have ha : (schN st v a).1 ≠ 0 := by simpa using hra
    generalize decide ((schN st v a).1 = 0) = da at *
    subst hra
    have HE := Lib.hid (HX1.out ha)
    clear ha
    go_wp2
    go_ret3
    exact ⟨by rw [HE.out] <;> rfl, HQ1.out.1⟩

end Go.Proofs.YtbhlennolghjmaaDoor
