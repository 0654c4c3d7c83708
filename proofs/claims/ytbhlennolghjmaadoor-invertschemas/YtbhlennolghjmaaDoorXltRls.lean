/-
  What the program's checkRules and Check of a map answer: for every map whose rules have up to 5,000,000 pairs and schemas of up to 1000 specs, in every world where the table of kinds reads as it is laid.
-/
import Derived.Test.YtbhlennolghjmaaDoorXltChk
namespace Go.Proofs.YtbhlennolghjmaaDoor
open Go.RowKit

/-- Does a rule ahead take, or make, what this one does: told by the sets with and without its fields. -/
theorem dup_told (R : List Ru) (k f t : Int) (s : ByteArray) (P : List PairT) (hf : f = 0 ∨ (2 ≤ f ∧ f ≤ 128)) (ht : t = 0 ∨ (2 ≤ t ∧ t ≤ 128)) : (R.any fun x => twiceB x (k, f, t, s, P)) =
    (((decide (((ofH (takesL R) ||| aH f : Nat) : Int) = (ofH (takesL R) : Nat)) && decide (((ofL (takesL R) ||| aL f : Nat) : Int) = (ofL (takesL R) : Nat))) && decide (f ≠ 0)) ||
    ((decide (((ofH (makesL R) ||| aH t : Nat) : Int) = (ofH (makesL R) : Nat)) && decide (((ofL (makesL R) ||| aL t : Nat) : Int) = (ofL (makesL R) : Nat))) && decide (t ≠ 0))) := by
  have hc : ∀ x y : Nat, decide ((x : Int) = (y : Int)) = decide (x = y) := fun x y => decide_eq_decide.2 ⟨fun h => by omega, fun h => by omega⟩
  rw [any_told, hc, hc, hc, hc]
  congr 1
  · rcases hf with rfl | ⟨h1, h2⟩
    · simp
    · rw [with_told (by omega) h2, Bool.and_comm]
  · rcases ht with rfl | ⟨h1, h2⟩
    · simp
    · rw [with_told (by omega) h2, Bool.and_comm]
/-- A set before and behind, and a number: the ways. -/
theorem cls_told (x h y l f : Int) : ((x == h) = true ∧ (y == l) = true ∧ (f != 0) = true ∧ ((decide (x = h) && decide (y = l)) && decide (f ≠ 0)) = true) ∨
    ((x == h) = true ∧ (y == l) = true ∧ (f != 0) = false ∧ ((decide (x = h) && decide (y = l)) && decide (f ≠ 0)) = false) ∨
    ((x == h) = true ∧ (y == l) = false ∧ ((decide (x = h) && decide (y = l)) && decide (f ≠ 0)) = false) ∨
    ((x == h) = false ∧ ((decide (x = h) && decide (y = l)) && decide (f ≠ 0)) = false) := by
  by_cases h1 : x = h
  · by_cases h2 : y = l
    · by_cases h3 : f = 0
      · exact Or.inr (Or.inl (by simp [h1, h2, h3]))
      · exact Or.inl (by simp [h1, h2, h3])
    · exact Or.inr (Or.inr (Or.inl (by simp [h1, h2])))
  · exact Or.inr (Or.inr (Or.inr (by simp [h1])))
/-- Two schemas in the first blocks, two sets in later ones. -/
def CR (w : World) (st v : Int) (A : Option Addr) (la ca : Nat) (st' v' : Int) (A' : Option Addr) (lb cb : Nat) (g : Nat) (h l h' l' : Int) (u : World) : Prop :=
  Below w.heap.size w u ∧ Box u w.heap.size st v A la ca ∧ Box u (w.heap.size + 1) st' v' A' lb cb ∧ u.heap[g]? = some (.cells #[.int .u64 h, .int .u64 l] 57) ∧ u.heap[g + 1]? = some (.cells #[.int .u64 h', .int .u64 l'] 57)
theorem CR.below {w : World} {st v : Int} {A : Option Addr} {la ca : Nat} {st' v' : Int} {A' : Option Addr} {lb cb g : Nat} {h l h' l' : Int} {u u' : World} (hc : CR w st v A la ca st' v' A' lb cb g h l h' l' u) (hb : Below u.heap.size u u') : CR w st v A la ca st' v' A' lb cb g h l h' l' u' :=
  ⟨hbt hc.1 hb, hc.2.1.below hb, hc.2.2.1.below hb, obj_below hc.2.2.2.1 hb, obj_below hc.2.2.2.2 hb⟩
theorem CR.put {w : World} {st v : Int} {A : Option Addr} {la ca : Nat} {st' v' : Int} {A' : Option Addr} {lb cb g : Nat} {h l h' l' : Int} {u : World} (hc : CR w st v A la ca st' v' A' lb cb g h l h' l' u) (hg : w.heap.size + 2 ≤ g) (x y : Int) :
    CR w st v A la ca st' v' A' lb cb g x y h' l' ((u.setCell ⟨g, 0, none⟩ (.int .u64 x)).setCell ⟨g, 1, none⟩ (.int .u64 y)) :=
  ⟨below_set2 hc.1 (by omega) _ _, obj_set_other hc.2.1 (by omega) _ _, obj_set_other hc.2.2.1 (by omega) _ _, obj_set2 hc.2.2.2.1 _ _, obj_set_other hc.2.2.2.2 (by omega) _ _⟩
theorem CR.put' {w : World} {st v : Int} {A : Option Addr} {la ca : Nat} {st' v' : Int} {A' : Option Addr} {lb cb g : Nat} {h l h' l' : Int} {u : World} (hc : CR w st v A la ca st' v' A' lb cb g h l h' l' u) (hg : w.heap.size + 2 ≤ g) (x y : Int) :
    CR w st v A la ca st' v' A' lb cb g h l x y ((u.setCell ⟨g + 1, 0, none⟩ (.int .u64 x)).setCell ⟨g + 1, 1, none⟩ (.int .u64 y)) :=
  ⟨below_set2 hc.1 (by omega) _ _, obj_set_other hc.2.1 (by omega) _ _, obj_set_other hc.2.2.1 (by omega) _ _, obj_set_other hc.2.2.2.1 (by omega) _ _, obj_set2 hc.2.2.2.2 _ _⟩
theorem CR.drew {w : World} {st v : Int} {A : Option Addr} {la ca : Nat} {st' v' : Int} {A' : Option Addr} {lb cb g : Nat} {h l h' l' : Int} {u : World} (hc : CR w st v A la ca st' v' A' lb cb g h l h' l' u) : CR w st v A la ca st' v' A' lb cb g h l h' l' u.drew :=
  ⟨hc.1.drew, hc.2⟩

set_option maxRecDepth 100000 in
set_option maxHeartbeats 25600000 in
theorem xrules_any (hchk : RChk) (Y : Option Addr) (cR : Nat) (R : List Ru) (st v : Int) (A : Option Addr) (ca : Nat) (a : List Sp) (st' v' : Int) (A' : Option Addr) (cb : Nat) (b : List Sp) (w : World) (hK : Kinds w) (hR : Rls w Y R) (hA : Spl w A a) (hB : Spl w A' b) (hla : a.length ≤ 1000) (hlb : b.length ≤ 1000) (hlR : R.length ≤ maxLen) (hf4 : Fit4 R) (hsa : (schN st v a).1 = 0) (hsb : (schN st' v' b).1 = 0) :
    Calls Tryd.prog 42 #[.slice Y R.length cR, .agg #[.int .i64 st, .int .i64 v, .slice A a.length ca], .agg #[.int .i64 st', .int .i64 v', .slice A' b.length cb]] w fun e w' => e = .returned (.tuple #[.int .i64 (xrsN a b R).1, .int .i64 (xrsN a b R).2]) ∧ Below w.heap.size w w' := by
  have HRL := Lib.hid (fun k f t s B c P W k0 k1 k2 k3 k4 k5 k6 => hchk k f t s B c P st v A ca a st' v' A' cb b W k0 k1 k2 k3 hla hlb k4 k5 k6)
  have HSE := Lib.hid (fun W => sset_any 0 0 none 0 [] W (spl_nil _ _) (by simp))
  have HW := Lib.hid (fun (l : List Int) (n : Int) W => with_any (ofH l) (ofL l) n W (of_lt _).1 (of_lt _).2)
  unfold setV at HSE HW
  have HRNG := Lib.hid (fun r h => ru_range (r := r) hsa hsb h)
  have HX3 := Lib.hid (@xrs_big a b R)
  have HX4 := Lib.hid (fun i => @xrs_hit a b R i)
  have HX5 := Lib.hid (@xrs_none a b R)
  have HK := Lib.hid hK
  have HR := Lib.hid hR
  have HA := Lib.hid hA
  have HB := Lib.hid hB
  have HF4 := Lib.hid hf4
  have HC0 : Hid (Below w.heap.size w ((w.alloc (.cells #[.int .i64 st, .int .i64 v, .slice A a.length ca] 28)).alloc (.cells #[.int .i64 st', .int .i64 v', .slice A' b.length cb] 28)) ∧
      Box ((w.alloc (.cells #[.int .i64 st, .int .i64 v, .slice A a.length ca] 28)).alloc (.cells #[.int .i64 st', .int .i64 v', .slice A' b.length cb] 28)) w.heap.size st v A a.length ca ∧
      Box ((w.alloc (.cells #[.int .i64 st, .int .i64 v, .slice A a.length ca] 28)).alloc (.cells #[.int .i64 st', .int .i64 v', .slice A' b.length cb] 28)) (w.heap.size + 1) st' v' A' b.length cb) :=
    ⟨hbt (below_al _ _) (below_al _ _), (box_new _ _ _ _ _ _).below (below_al _ _), heap_al _ _ _ (by simp)⟩
  have HSZ : Hid (((w.alloc (.cells #[.int .i64 st, .int .i64 v, .slice A a.length ca] 28)).alloc (.cells #[.int .i64 st', .int .i64 v', .slice A' b.length cb] 28)).heap.size = w.heap.size + 2) := by show _ = _; simp
  generalize xrsN a b R = Z at *
  unfold maxLen at hlR
  generalize hm : R.length = m at *
  generalize a.length = la at *
  generalize b.length = lb at *
  have HLR := Lib.hid hm
  clear hm hK hR hA hB hf4 hla hlb hsa hsb hchk
  go_enter Tryd.func42, Tryd.ntmps42
  by_cases hM3 : 256 < m
  · have HE := Lib.hid (HX3.out hM3)
    have t3 : decide ((256 : Int) < (m : Int)) = true := by simp; omega
    clear hM3
    go_wp2
    go_ret2
    exact ⟨by rw [HE.out] <;> rfl, HC0.out.1⟩
  · have t3 : decide ((256 : Int) < (m : Int)) = false := by simp; omega
    have HM4 : Hid (m ≤ 256) := by show _ ≤ _; omega
    have hn1 : (m : Int) < 1000 := by omega
    clear hM3 HX3
    go_wp2_with fail
    clear t3
    generalize (w.alloc (.cells #[.int .i64 st, .int .i64 v, .slice A la ca] 28)).alloc (.cells #[.int .i64 st', .int .i64 v', .slice A' lb cb] 28) = U at *
    refine (HSE.out _).mono ?_
    rintro e w1 ⟨rfl, hb1⟩
    have HG1 : Hid (w.heap.size + 2 ≤ w1.heap.size) := by have := hb1.size; have := HSZ.out; show _ ≤ _; omega
    have HC1 : Hid (CR w st v A la ca st' v' A' lb cb w1.heap.size (ofH (takesL (R.take 0)) : Nat) (ofL (takesL (R.take 0)) : Nat) (ofH (makesL (R.take 0)) : Nat) (ofL (makesL (R.take 0)) : Nat) ((w1.alloc (.cells #[.int .u64 (ofH (nosOf []) : Nat), .int .u64 (ofL (nosOf []) : Nat)] 57)).alloc (.cells #[.int .u64 (ofH (nosOf []) : Nat), .int .u64 (ofL (nosOf []) : Nat)] 57))) :=
      ⟨hbt (hbt HC0.out.1 hb1) (hbt (below_al _ _) (below_al _ _)), (HC0.out.2.1.below hb1).below (hbt (below_al _ _) (below_al _ _)), (HC0.out.2.2.below hb1).below (hbt (below_al _ _) (below_al _ _)), obj_below (heap_alloc_new _ _) (below_al _ _), heap_al _ _ _ (by simp)⟩
    clear HC0 HSZ hb1 HSE
    generalize ((ofH (nosOf []) : Nat) : Int) = e1 at *
    generalize ((ofL (nosOf []) : Nat) : Int) = e2 at *
    go_wp2_with fail
    generalize (w1.alloc (.cells #[.int .u64 e1, .int .u64 e2] 57)).alloc (.cells #[.int .u64 e1, .int .u64 e2] 57) = U1 at *
    generalize w1.heap.size = g at *
    go_loopw [23] (fun i wr => ∃ q : Nat, q ≤ m ∧ i = .int .i64 (q : Int) ∧ CR w st v A la ca st' v' A' lb cb g (ofH (takesL (R.take q)) : Nat) (ofL (takesL (R.take q)) : Nat) (ofH (makesL (R.take q)) : Nat) (ofL (makesL (R.take q)) : Nat) wr ∧ ∀ j, j < q → ruE a b R j = 0) (fun i _ => m - (intOf i).toNat)
    case atStart => exact ⟨0, Nat.zero_le _, rfl, HC1.out, fun j hj => by omega⟩
    case round =>
      obtain ⟨q, hq, rfl, hQ, hno⟩ := hrel
      have HQ3 := Lib.hid hQ
      have HNO := Lib.hid hno
      clear hQ hno
      by_cases hlt : q < m
      · have hql : q < R.length := by have := HLR.out; omega
        obtain ⟨ra, k, f, t, s, P, B, c, rfl, hxr, hcr⟩ := rls_all HR.out hql
        obtain ⟨⟨x0, x1, x2, x3, x4⟩, hpr⟩ := hcr _ HQ3.out.1
        have hfz := HF4.out.at_ hql
        rw [hxr] at hfz
        have HMP := Lib.hid (ruE_told (a := a) (b := b) hxr)
        have HE4 := Lib.hid (fun h => HX4.out q HM4.out hlt HNO.out h)
        have HN1 := Lib.hid (takes_step hql)
        have HN2 := Lib.hid (makes_step hql)
        rw [hxr] at HN1 HN2
        have HQ4 := Lib.hid (HQ3.out.below (below_al wr (.cells #[.int .i64 k, .int .i64 f, .int .i64 t, .string s, .slice B P.length c] 53)))
        have HG4 : Hid (RBox (wr.alloc (.cells #[.int .i64 k, .int .i64 f, .int .i64 t, .string s, .slice B P.length c] 53)) wr.heap.size k f t s B P.length c) := heap_alloc_new _ _
        have HP4 := Lib.hid (hpr.below (below_al wr (.cells #[.int .i64 k, .int .i64 f, .int .i64 t, .string s, .slice B P.length c] 53)))
        have HRC := Lib.hid (HRL.out k f t s B c P _ (HK.out.below HQ4.out.1) HP4.out (HA.out.below HQ4.out.1) (HB.out.below HQ4.out.1) hfz.2.1 hfz.2.2 hfz.1)
        have HDV := Lib.hid (fun (h : rulN k f t s P a b = 0) => dup_told (R.take q) k f t s P (HRNG.out (k, f, t, s, P) h).1 (HRNG.out (k, f, t, s, P) h).2)
        have hee := HMP.out
        rw [show ruN a b (k, f, t, s, P) = rulN k f t s P a b from rfl] at hee
        generalize hrn : rulN k f t s P a b = rn at *
        generalize hlen : P.length = n at *
        obtain ⟨⟨y0, y1, y2⟩, b0, b1, b2⟩ : (_ ∧ _ ∧ _) ∧ _ ∧ _ ∧ _ := ⟨obj_cells3 HQ4.out.2.1, obj_cells3 HQ4.out.2.2.1⟩
        obtain ⟨r0, r1, r2, r3, r4⟩ := obj_cells5 HG4.out
        have HEE := Lib.hid hee
        clear hxr hcr hfz hql HMP hee hpr hrn hlen
        go_wp2_with fail
        clear x0 x1 x2 x3 x4 y0 y1 y2 b0 b1 b2 r0 r1 r2 r3 r4
        generalize wr.alloc (.cells #[.int .i64 k, .int .i64 f, .int .i64 t, .string s, .slice B n c] 53) = W4 at *
        generalize wr.heap.size = gp at *
        refine HRC.out.mono ?_
        rintro e w5 ⟨rfl, hb5⟩
        have HQ5 := Lib.hid (HQ4.out.below hb5)
        have HG5 := Lib.hid (HG4.out.below hb5)
        clear hb5 HQ4 HG4 HRC HP4
        by_cases hz : rn = 0
        · subst hz
          have HDU := Lib.hid (HDV.out rfl)
          clear HDV
          have HE0 : Hid (ruE a b R q = if (R.take q).any (fun x => twiceB x (k, f, t, s, P)) = true then 10 else 0) := by show _ = _; rw [HEE.out]; simp
          have HW1 := Lib.hid (HW.out (takesL (R.take q)) f)
          have HW2 := Lib.hid (HW.out (makesL (R.take q)) t)
          have HS1 : Hid (((ofH (takesL (R.take (q + 1))) : Nat) : Int) = ((ofH (takesL (R.take q)) ||| aH f : Nat) : Int) ∧ ((ofL (takesL (R.take (q + 1))) : Nat) : Int) = ((ofL (takesL (R.take q)) ||| aL f : Nat) : Int)) := by
            show _ ∧ _; rw [HN1.out, (of_snoc _ _).1, (of_snoc _ _).2]; exact ⟨rfl, rfl⟩
          have HS2 : Hid (((ofH (makesL (R.take (q + 1))) : Nat) : Int) = ((ofH (makesL (R.take q)) ||| aH t : Nat) : Int) ∧ ((ofL (makesL (R.take (q + 1))) : Nat) : Int) = ((ofL (makesL (R.take q)) ||| aL t : Nat) : Int)) := by
            show _ ∧ _; rw [HN2.out, (of_snoc _ _).1, (of_snoc _ _).2]; exact ⟨rfl, rfl⟩
          generalize ((ofH (takesL (R.take q)) ||| aH f : Nat) : Int) = xh at *
          generalize ((ofL (takesL (R.take q)) ||| aL f : Nat) : Int) = xl at *
          generalize ((ofH (makesL (R.take q)) ||| aH t : Nat) : Int) = yh at *
          generalize ((ofL (makesL (R.take q)) ||| aL t : Nat) : Int) = yl at *
          generalize ((ofH (takesL (R.take q)) : Nat) : Int) = h1 at *
          generalize ((ofL (takesL (R.take q)) : Nat) : Int) = l1 at *
          generalize ((ofH (makesL (R.take q)) : Nat) : Int) = h2 at *
          generalize ((ofL (makesL (R.take q)) : Nat) : Int) = l2 at *
          generalize (R.take q).any (fun x => twiceB x (k, f, t, s, P)) = dd at *
          clear HN1 HN2 HEE HW
          go_upto_region 11 with fail
          go_cut [13, 14] (fun s13 s14 wx => ∃ p p' : Nat, s13 = .pointer (some ⟨p, 0, none⟩) ∧ s14 = .pointer (some ⟨p', 0, none⟩) ∧ g + 1 < p ∧ g + 1 < p' ∧ CR w st v A la ca st' v' A' lb cb g h1 l1 h2 l2 wx ∧ RBox wx gp k f t s B n c ∧ wx.heap[p]? = some (.cells #[.int .u64 xh, .int .u64 xl] 57) ∧ wx.heap[p']? = some (.cells #[.int .u64 yh, .int .u64 yl] 57))
          case first =>
            refine wp_region_noPanic ?_
            refine wp_region_held_drew (S := (fun u => CR w st v A la ca st' v' A' lb cb g h1 l1 h2 l2 u ∧ RBox u gp k f t s B n c)) (by kernel_rfl) (⟨HQ5.out.drew, HG5.out⟩) (fun hS => ?_)
            refine gv 0 (v := ?_) (fun u hu => ?_) hS ?_
            rotate_left
            · ((obtain ⟨hu1, hu2⟩ := hu; obtain ⟨r0, r1, r2, r3, r4⟩ := obj_cells5 hu2; obtain ⟨c0, c1, _, _⟩ := obj_cells hu1.2.2.2.1; obtain ⟨c2, c3, _, _⟩ := obj_cells hu1.2.2.2.2; clear hu1 hu2); go_simp; try (with_reducible rfl))
            try simp only [puts]
            refine gv 1 (v := ?_) (fun u hu => ?_) hS ?_
            rotate_left
            · ((obtain ⟨hu1, hu2⟩ := hu; obtain ⟨r0, r1, r2, r3, r4⟩ := obj_cells5 hu2; obtain ⟨c0, c1, _, _⟩ := obj_cells hu1.2.2.2.1; obtain ⟨c2, c3, _, _⟩ := obj_cells hu1.2.2.2.2; clear hu1 hu2); go_simp; try (with_reducible rfl))
            try simp only [puts]
            refine gv 2 (v := ?_) (fun u hu => ?_) hS ?_
            rotate_left
            · ((obtain ⟨hu1, hu2⟩ := hu; obtain ⟨r0, r1, r2, r3, r4⟩ := obj_cells5 hu2; obtain ⟨c0, c1, _, _⟩ := obj_cells hu1.2.2.2.1; obtain ⟨c2, c3, _, _⟩ := obj_cells hu1.2.2.2.2; clear hu1 hu2); go_simp; try (with_reducible rfl))
            try simp only [puts]
            refine gv 4 (v := ?_) (fun u hu => ?_) hS ?_
            rotate_left
            · ((obtain ⟨hu1, hu2⟩ := hu; obtain ⟨r0, r1, r2, r3, r4⟩ := obj_cells5 hu2; obtain ⟨c0, c1, _, _⟩ := obj_cells hu1.2.2.2.1; obtain ⟨c2, c3, _, _⟩ := obj_cells hu1.2.2.2.2; clear hu1 hu2); go_simp; try (with_reducible rfl))
            try simp only [puts]
            refine gv 5 (v := ?_) (fun u hu => ?_) hS ?_
            rotate_left
            · ((obtain ⟨hu1, hu2⟩ := hu; obtain ⟨r0, r1, r2, r3, r4⟩ := obj_cells5 hu2; obtain ⟨c0, c1, _, _⟩ := obj_cells hu1.2.2.2.1; obtain ⟨c2, c3, _, _⟩ := obj_cells hu1.2.2.2.2; clear hu1 hu2); go_simp; try (with_reducible rfl))
            try simp only [puts]
            refine gv 6 (v := ?_) (fun u hu => ?_) hS ?_
            rotate_left
            · ((obtain ⟨hu1, hu2⟩ := hu; obtain ⟨r0, r1, r2, r3, r4⟩ := obj_cells5 hu2; obtain ⟨c0, c1, _, _⟩ := obj_cells hu1.2.2.2.1; obtain ⟨c2, c3, _, _⟩ := obj_cells hu1.2.2.2.2; clear hu1 hu2); go_simp; try (with_reducible rfl))
            try simp only [puts]
            refine wpAnyH_ready (rs := [3, 8, 9]) (by kernel_rfl) (by simp) (arm_call (i := 3) 50 #[.agg #[.int .u64 h1, .int .u64 l1], .int .i64 f] rfl (by rfl) (HW1.out _) ?_ ?_ (arm_alloc (i := 8) (.cells #[.int .u64 0, .int .u64 0] 57) rfl (by rfl) ?_ ?_ (arm_alloc (i := 9) (.cells #[.int .u64 0, .int .u64 0] 57) rfl (by rfl) ?_ ?_ AllReadyH.nil)))
            · (go_simp; try (with_reducible rfl))
            intro u' hb
            have hS' : (fun u => CR w st v A la ca st' v' A' lb cb g h1 l1 h2 l2 u ∧ RBox u gp k f t s B n c) u' := ⟨hS.1.below hb, hS.2.below hb⟩
            refine ⟨hS', ?_⟩
            clear hS hb; have hS := hS'; clear hS'; rename World => u; try simp only [puts]
            rotate_left
            · (go_simp; try (with_reducible rfl))
            intro p8 u' hb ho8 hp8
            replace hp8 := Nat.le_trans (obj_lt hS.1.2.2.2.2) hp8
            have hS' : (fun u => CR w st v A la ca st' v' A' lb cb g h1 l1 h2 l2 u ∧ RBox u gp k f t s B n c) u' := ⟨hS.1.below hb, hS.2.below hb⟩
            refine ⟨hS', ?_⟩
            clear hS hb; have hS := hS'; clear hS'; rename World => u; try simp only [puts]
            rotate_left
            · (go_simp; try (with_reducible rfl))
            intro p9 u' hb ho9 hp9
            replace hp9 := Nat.le_trans (obj_lt hS.1.2.2.2.2) hp9
            have hS' : (fun u => CR w st v A la ca st' v' A' lb cb g h1 l1 h2 l2 u ∧ RBox u gp k f t s B n c) u' := ⟨hS.1.below hb, hS.2.below hb⟩
            refine ⟨hS', ?_⟩
            clear hS hb; have hS := hS'; clear hS'; rename World => u; try simp only [puts]
            rotate_left
            all_goals first
              |
                refine wpAnyH_ready (rs := [3, 9]) (by kernel_rfl) (by simp) (arm_call (i := 3) 50 #[.agg #[.int .u64 h1, .int .u64 l1], .int .i64 f] rfl (by rfl) (HW1.out _) ?_ ?_ (arm_alloc (i := 9) (.cells #[.int .u64 0, .int .u64 0] 57) rfl (by rfl) ?_ ?_ AllReadyH.nil))
                · (go_simp; try (with_reducible rfl))
                intro u' hb
                have hS' : (fun u => CR w st v A la ca st' v' A' lb cb g h1 l1 h2 l2 u ∧ RBox u gp k f t s B n c) u' := ⟨hS.1.below hb, hS.2.below hb⟩
                refine ⟨hS', ?_⟩
                replace ho8 := obj_below ho8 hb
                clear hS hb; have hS := hS'; clear hS'; rename World => u; try simp only [puts]
                rotate_left
                · (go_simp; try (with_reducible rfl))
                intro p9 u' hb ho9 hp9
                have ne8_9 : p8 ≠ p9 := by have := obj_lt ho8; omega
                replace hp9 := Nat.le_trans (obj_lt hS.1.2.2.2.2) hp9
                have hS' : (fun u => CR w st v A la ca st' v' A' lb cb g h1 l1 h2 l2 u ∧ RBox u gp k f t s B n c) u' := ⟨hS.1.below hb, hS.2.below hb⟩
                refine ⟨hS', ?_⟩
                replace ho8 := obj_below ho8 hb
                clear hS hb; have hS := hS'; clear hS'; rename World => u; try simp only [puts]
                rotate_left
              |
                refine wpAnyH_ready (rs := [3, 8]) (by kernel_rfl) (by simp) (arm_call (i := 3) 50 #[.agg #[.int .u64 h1, .int .u64 l1], .int .i64 f] rfl (by rfl) (HW1.out _) ?_ ?_ (arm_alloc (i := 8) (.cells #[.int .u64 0, .int .u64 0] 57) rfl (by rfl) ?_ ?_ AllReadyH.nil))
                · (go_simp; try (with_reducible rfl))
                intro u' hb
                have hS' : (fun u => CR w st v A la ca st' v' A' lb cb g h1 l1 h2 l2 u ∧ RBox u gp k f t s B n c) u' := ⟨hS.1.below hb, hS.2.below hb⟩
                refine ⟨hS', ?_⟩
                replace ho9 := obj_below ho9 hb
                clear hS hb; have hS := hS'; clear hS'; rename World => u; try simp only [puts]
                rotate_left
                · (go_simp; try (with_reducible rfl))
                intro p8 u' hb ho8 hp8
                have ne8_9 : p8 ≠ p9 := by have := obj_lt ho9; omega
                replace hp8 := Nat.le_trans (obj_lt hS.1.2.2.2.2) hp8
                have hS' : (fun u => CR w st v A la ca st' v' A' lb cb g h1 l1 h2 l2 u ∧ RBox u gp k f t s B n c) u' := ⟨hS.1.below hb, hS.2.below hb⟩
                refine ⟨hS', ?_⟩
                replace ho9 := obj_below ho9 hb
                clear hS hb; have hS := hS'; clear hS'; rename World => u; try simp only [puts]
                rotate_left
              |
                refine wpAnyH_ready (rs := [7, 8, 9]) (by kernel_rfl) (by simp) (arm_call (i := 7) 50 #[.agg #[.int .u64 h2, .int .u64 l2], .int .i64 t] rfl (by rfl) (HW2.out _) ?_ ?_ (arm_alloc (i := 8) (.cells #[.int .u64 0, .int .u64 0] 57) rfl (by rfl) ?_ ?_ (arm_alloc (i := 9) (.cells #[.int .u64 0, .int .u64 0] 57) rfl (by rfl) ?_ ?_ AllReadyH.nil)))
                · (go_simp; try (with_reducible rfl))
                intro u' hb
                have hS' : (fun u => CR w st v A la ca st' v' A' lb cb g h1 l1 h2 l2 u ∧ RBox u gp k f t s B n c) u' := ⟨hS.1.below hb, hS.2.below hb⟩
                refine ⟨hS', ?_⟩
                clear hS hb; have hS := hS'; clear hS'; rename World => u; try simp only [puts]
                rotate_left
                · (go_simp; try (with_reducible rfl))
                intro p8 u' hb ho8 hp8
                replace hp8 := Nat.le_trans (obj_lt hS.1.2.2.2.2) hp8
                have hS' : (fun u => CR w st v A la ca st' v' A' lb cb g h1 l1 h2 l2 u ∧ RBox u gp k f t s B n c) u' := ⟨hS.1.below hb, hS.2.below hb⟩
                refine ⟨hS', ?_⟩
                clear hS hb; have hS := hS'; clear hS'; rename World => u; try simp only [puts]
                rotate_left
                · (go_simp; try (with_reducible rfl))
                intro p9 u' hb ho9 hp9
                replace hp9 := Nat.le_trans (obj_lt hS.1.2.2.2.2) hp9
                have hS' : (fun u => CR w st v A la ca st' v' A' lb cb g h1 l1 h2 l2 u ∧ RBox u gp k f t s B n c) u' := ⟨hS.1.below hb, hS.2.below hb⟩
                refine ⟨hS', ?_⟩
                clear hS hb; have hS := hS'; clear hS'; rename World => u; try simp only [puts]
                rotate_left
            all_goals first
              |
                refine wpAnyH_ready (rs := [3]) (by kernel_rfl) (by simp) (arm_call (i := 3) 50 #[.agg #[.int .u64 h1, .int .u64 l1], .int .i64 f] rfl (by rfl) (HW1.out _) ?_ ?_ AllReadyH.nil)
                · (go_simp; try (with_reducible rfl))
                intro u' hb
                have hS' : (fun u => CR w st v A la ca st' v' A' lb cb g h1 l1 h2 l2 u ∧ RBox u gp k f t s B n c) u' := ⟨hS.1.below hb, hS.2.below hb⟩
                refine ⟨hS', ?_⟩
                replace ho8 := obj_below ho8 hb
                replace ho9 := obj_below ho9 hb
                clear hS hb; have hS := hS'; clear hS'; rename World => u; try simp only [puts]
              |
                refine wpAnyH_ready (rs := [7, 9]) (by kernel_rfl) (by simp) (arm_call (i := 7) 50 #[.agg #[.int .u64 h2, .int .u64 l2], .int .i64 t] rfl (by rfl) (HW2.out _) ?_ ?_ (arm_alloc (i := 9) (.cells #[.int .u64 0, .int .u64 0] 57) rfl (by rfl) ?_ ?_ AllReadyH.nil))
                · (go_simp; try (with_reducible rfl))
                intro u' hb
                have hS' : (fun u => CR w st v A la ca st' v' A' lb cb g h1 l1 h2 l2 u ∧ RBox u gp k f t s B n c) u' := ⟨hS.1.below hb, hS.2.below hb⟩
                refine ⟨hS', ?_⟩
                replace ho8 := obj_below ho8 hb
                clear hS hb; have hS := hS'; clear hS'; rename World => u; try simp only [puts]
                rotate_left
                · (go_simp; try (with_reducible rfl))
                intro p9 u' hb ho9 hp9
                have ne8_9 : p8 ≠ p9 := by have := obj_lt ho8; omega
                replace hp9 := Nat.le_trans (obj_lt hS.1.2.2.2.2) hp9
                have hS' : (fun u => CR w st v A la ca st' v' A' lb cb g h1 l1 h2 l2 u ∧ RBox u gp k f t s B n c) u' := ⟨hS.1.below hb, hS.2.below hb⟩
                refine ⟨hS', ?_⟩
                replace ho8 := obj_below ho8 hb
                clear hS hb; have hS := hS'; clear hS'; rename World => u; try simp only [puts]
                rotate_left
              |
                refine wpAnyH_ready (rs := [7, 8]) (by kernel_rfl) (by simp) (arm_call (i := 7) 50 #[.agg #[.int .u64 h2, .int .u64 l2], .int .i64 t] rfl (by rfl) (HW2.out _) ?_ ?_ (arm_alloc (i := 8) (.cells #[.int .u64 0, .int .u64 0] 57) rfl (by rfl) ?_ ?_ AllReadyH.nil))
                · (go_simp; try (with_reducible rfl))
                intro u' hb
                have hS' : (fun u => CR w st v A la ca st' v' A' lb cb g h1 l1 h2 l2 u ∧ RBox u gp k f t s B n c) u' := ⟨hS.1.below hb, hS.2.below hb⟩
                refine ⟨hS', ?_⟩
                replace ho9 := obj_below ho9 hb
                clear hS hb; have hS := hS'; clear hS'; rename World => u; try simp only [puts]
                rotate_left
                · (go_simp; try (with_reducible rfl))
                intro p8 u' hb ho8 hp8
                have ne8_9 : p8 ≠ p9 := by have := obj_lt ho9; omega
                replace hp8 := Nat.le_trans (obj_lt hS.1.2.2.2.2) hp8
                have hS' : (fun u => CR w st v A la ca st' v' A' lb cb g h1 l1 h2 l2 u ∧ RBox u gp k f t s B n c) u' := ⟨hS.1.below hb, hS.2.below hb⟩
                refine ⟨hS', ?_⟩
                replace ho9 := obj_below ho9 hb
                clear hS hb; have hS := hS'; clear hS'; rename World => u; try simp only [puts]
                rotate_left
              |
                refine wpAnyH_ready (rs := [8, 9]) (by kernel_rfl) (by simp) (arm_alloc (i := 8) (.cells #[.int .u64 0, .int .u64 0] 57) rfl (by rfl) ?_ ?_ (arm_alloc (i := 9) (.cells #[.int .u64 0, .int .u64 0] 57) rfl (by rfl) ?_ ?_ AllReadyH.nil))
                · (go_simp; try (with_reducible rfl))
                intro p8 u' hb ho8 hp8
                replace hp8 := Nat.le_trans (obj_lt hS.1.2.2.2.2) hp8
                have hS' : (fun u => CR w st v A la ca st' v' A' lb cb g h1 l1 h2 l2 u ∧ RBox u gp k f t s B n c) u' := ⟨hS.1.below hb, hS.2.below hb⟩
                refine ⟨hS', ?_⟩
                clear hS hb; have hS := hS'; clear hS'; rename World => u; try simp only [puts]
                rotate_left
                · (go_simp; try (with_reducible rfl))
                intro p9 u' hb ho9 hp9
                replace hp9 := Nat.le_trans (obj_lt hS.1.2.2.2.2) hp9
                have hS' : (fun u => CR w st v A la ca st' v' A' lb cb g h1 l1 h2 l2 u ∧ RBox u gp k f t s B n c) u' := ⟨hS.1.below hb, hS.2.below hb⟩
                refine ⟨hS', ?_⟩
                clear hS hb; have hS := hS'; clear hS'; rename World => u; try simp only [puts]
                rotate_left
            all_goals first
              |
                refine wpAnyH_ready (rs := [7]) (by kernel_rfl) (by simp) (arm_call (i := 7) 50 #[.agg #[.int .u64 h2, .int .u64 l2], .int .i64 t] rfl (by rfl) (HW2.out _) ?_ ?_ AllReadyH.nil)
                · (go_simp; try (with_reducible rfl))
                intro u' hb
                have hS' : (fun u => CR w st v A la ca st' v' A' lb cb g h1 l1 h2 l2 u ∧ RBox u gp k f t s B n c) u' := ⟨hS.1.below hb, hS.2.below hb⟩
                refine ⟨hS', ?_⟩
                replace ho8 := obj_below ho8 hb
                replace ho9 := obj_below ho9 hb
                clear hS hb; have hS := hS'; clear hS'; rename World => u; try simp only [puts]
              |
                refine wpAnyH_ready (rs := [9]) (by kernel_rfl) (by simp) (arm_alloc (i := 9) (.cells #[.int .u64 0, .int .u64 0] 57) rfl (by rfl) ?_ ?_ AllReadyH.nil)
                · (go_simp; try (with_reducible rfl))
                intro p9 u' hb ho9 hp9
                have ne8_9 : p8 ≠ p9 := by have := obj_lt ho8; omega
                replace hp9 := Nat.le_trans (obj_lt hS.1.2.2.2.2) hp9
                have hS' : (fun u => CR w st v A la ca st' v' A' lb cb g h1 l1 h2 l2 u ∧ RBox u gp k f t s B n c) u' := ⟨hS.1.below hb, hS.2.below hb⟩
                refine ⟨hS', ?_⟩
                replace ho8 := obj_below ho8 hb
                clear hS hb; have hS := hS'; clear hS'; rename World => u; try simp only [puts]
              |
                refine wpAnyH_ready (rs := [8]) (by kernel_rfl) (by simp) (arm_alloc (i := 8) (.cells #[.int .u64 0, .int .u64 0] 57) rfl (by rfl) ?_ ?_ AllReadyH.nil)
                · (go_simp; try (with_reducible rfl))
                intro p8 u' hb ho8 hp8
                have ne8_9 : p8 ≠ p9 := by have := obj_lt ho9; omega
                replace hp8 := Nat.le_trans (obj_lt hS.1.2.2.2.2) hp8
                have hS' : (fun u => CR w st v A la ca st' v' A' lb cb g h1 l1 h2 l2 u ∧ RBox u gp k f t s B n c) u' := ⟨hS.1.below hb, hS.2.below hb⟩
                refine ⟨hS', ?_⟩
                replace ho9 := obj_below ho9 hb
                clear hS hb; have hS := hS'; clear hS'; rename World => u; try simp only [puts]
            all_goals
              have hgp : gp ≠ p8 ∧ gp ≠ p9 := ⟨fun e => by subst e; have := hS.2; rw [RBox, ho8] at this; simp at this, fun e => by subst e; have := hS.2; rw [RBox, ho9] at this; simp at this⟩
              have hwz : w.heap.size ≤ p8 ∧ w.heap.size ≤ p9 := by have := HG1.out; omega
              obtain ⟨c0, c1, f0, f1⟩ := obj_cells ho8
              have hr8 := obj_set2 ho8 (.int .u64 xh) (.int .u64 xl)
              have ho8' := obj_set_other ho9 (Ne.symm ne8_9) (.int .u64 xh) (.int .u64 xl)
              have hS8 : CR w st v A la ca st' v' A' lb cb g h1 l1 h2 l2 _ ∧ RBox _ gp k f t s B n c := ⟨⟨below_set2 hS.1.1 hwz.1 (.int .u64 xh) (.int .u64 xl), obj_set_other hS.1.2.1 (by have := HG1.out; omega) (.int .u64 xh) (.int .u64 xl), obj_set_other hS.1.2.2.1 (by have := HG1.out; omega) (.int .u64 xh) (.int .u64 xl), obj_set_other hS.1.2.2.2.1 (by omega) (.int .u64 xh) (.int .u64 xl), obj_set_other hS.1.2.2.2.2 (by omega) (.int .u64 xh) (.int .u64 xl)⟩, obj_set_other hS.2 hgp.1 (.int .u64 xh) (.int .u64 xl)⟩
              refine only (i := 10) rfl (by kernel_rfl) (by rfl) (fun K hK => ?_)
              go_simp
              refine hK.out _ _ hS8 ?_
              clear hK
              try simp only [puts]
              clear c0 c1 f0 f1 hS ho8 ho9
              generalize ((u.setCell _ _).setCell _ _) = u8 at *
              obtain ⟨c0, c1, f0, f1⟩ := obj_cells ho8'
              have hr9 := obj_set2 ho8' (.int .u64 yh) (.int .u64 yl)
              have hr8' := obj_set_other hr8 ne8_9 (.int .u64 yh) (.int .u64 yl)
              have hS9 : CR w st v A la ca st' v' A' lb cb g h1 l1 h2 l2 _ ∧ RBox _ gp k f t s B n c := ⟨⟨below_set2 hS8.1.1 hwz.2 (.int .u64 yh) (.int .u64 yl), obj_set_other hS8.1.2.1 (by have := HG1.out; omega) (.int .u64 yh) (.int .u64 yl), obj_set_other hS8.1.2.2.1 (by have := HG1.out; omega) (.int .u64 yh) (.int .u64 yl), obj_set_other hS8.1.2.2.2.1 (by omega) (.int .u64 yh) (.int .u64 yl), obj_set_other hS8.1.2.2.2.2 (by omega) (.int .u64 yh) (.int .u64 yl)⟩, obj_set_other hS8.2 hgp.2 (.int .u64 yh) (.int .u64 yl)⟩
              refine only (i := 11) rfl (by kernel_rfl) (by rfl) (fun K hK => ?_)
              go_simp
              refine hK.out _ _ hS9 ?_
              clear hK
              try simp only [puts]
              refine wpAnyH_done (by kernel_rfl) (NoPanic.normal ?_) _
              go_wp2_with fail
              go_meet
              exact ⟨p8, p9, rfl, rfl, hp8, hp9, hS9.1, hS9.2, hr8', hr9⟩
          case rest =>
            obtain ⟨p, p', rfl, rfl, hp, hp', hC, hB6, hP, hP'⟩ := hcut
            have HQ6 := Lib.hid hC
            have HB6 := Lib.hid hB6
            have HP6 := Lib.hid hP
            have HP6' := Lib.hid hP'
            have HPP := Lib.hid hp
            have HPP' := Lib.hid hp'
            clear hC hB6 hP hP' hp hp' HQ5 HG5
            go_upto_region 12 with fail
            go_cut [61] (fun s61 wx => s61 = .bool dd ∧ wx = wc)
            case first =>
              obtain ⟨r0, r1, r2, r3, r4⟩ := obj_cells5 HB6.out
              obtain ⟨c0, c1, _, _⟩ := obj_cells HQ6.out.2.2.2.1
              obtain ⟨c2, c3, _, _⟩ := obj_cells HQ6.out.2.2.2.2
              obtain ⟨d0, d1, _, _⟩ := obj_cells HP6.out
              obtain ⟨d2, d3, _, _⟩ := obj_cells HP6'.out
              rcases cls_told xh h1 xl l1 f with ⟨t1, t2, t3, t4⟩ | ⟨t1, t2, t3, t4⟩ | ⟨t1, t2, t4⟩ | ⟨t1, t4⟩
              · have HT : Hid (dd = true) := by show _ = _; rw [HDU.out, t4]; rfl
                clear t4
                go_wp2_with fail
                go_meet
                exact ⟨by rw [HT.out], rfl⟩
              all_goals
                rcases cls_told yh h2 yl l2 t with ⟨t5, t6, t7, t8⟩ | ⟨t5, t6, t7, t8⟩ | ⟨t5, t6, t8⟩ | ⟨t5, t8⟩
                · have HT : Hid (dd = true) := by show _ = _; rw [HDU.out, t4, t8]; rfl
                  clear t4 t8
                  go_wp2_with fail
                  go_meet
                  exact ⟨by rw [HT.out], rfl⟩
                all_goals
                  have HT : Hid (dd = false) := by show _ = _; rw [HDU.out, t4, t8]; rfl
                  clear t4 t8
                  go_wp2_with fail
                  go_meet
                  exact ⟨by rw [HT.out], rfl⟩
            case rest =>
              obtain ⟨rfl, rfl⟩ := hcut
              clear HDU
              cases dd
              · have HE9 : Hid (ruE a b R q = 0) := by show _ = _; rw [HE0.out]; rfl
                clear HE0 HE4
                go_wp2_with fail
                generalize wc = W6 at *
                refine wp_region_noPanic ?_
                refine wp_region_held_drew (S := (fun u => u.heap[p]? = some (.cells #[.int .u64 xh, .int .u64 xl] 57) ∧ u.heap[p']? = some (.cells #[.int .u64 yh, .int .u64 yl] 57))) (by kernel_rfl) (⟨HP6.out, HP6'.out⟩) (fun hS => ?_)
                refine gv 0 (v := ?_) (fun u hu => ?_) hS ?_
                rotate_left
                · ((obtain ⟨d0, d1, _, _⟩ := obj_cells hu.1; obtain ⟨d2, d3, _, _⟩ := obj_cells hu.2); go_simp; try (with_reducible rfl))
                try simp only [puts]
                refine gv 1 (v := ?_) (fun u hu => ?_) hS ?_
                rotate_left
                · ((obtain ⟨d0, d1, _, _⟩ := obj_cells hu.1; obtain ⟨d2, d3, _, _⟩ := obj_cells hu.2); go_simp; try (with_reducible rfl))
                try simp only [puts]
                obtain ⟨c0, c1, c2, c3⟩ := obj_cells HQ6.out.2.2.2.1
                have k1 := HQ6.out.put HG1.out xh xl
                have k2 := obj_set_other HP6.out (show p ≠ g by have := HPP.out; omega) (.int .u64 xh) (.int .u64 xl)
                have k3 := obj_set_other HP6'.out (show p' ≠ g by have := HPP'.out; omega) (.int .u64 xh) (.int .u64 xl)
                refine only (i := 2) rfl (by kernel_rfl) (by rfl) (fun K hK => ?_)
                go_simp
                refine hK.out _ _ ⟨k2, k3⟩ ?_
                clear hK
                try simp only [puts]
                clear c0 c1 c2 c3
                generalize (W6.setCell ⟨g, 0, none⟩ (.int .u64 xh)).setCell ⟨g, 1, none⟩ (.int .u64 xl) = u7 at *
                obtain ⟨c0, c1, c2, c3⟩ := obj_cells k1.2.2.2.2
                have k4 := k1.put' HG1.out yh yl
                have k5 := obj_set_other k2 (show p ≠ g + 1 by have := HPP.out; omega) (.int .u64 yh) (.int .u64 yl)
                have k6 := obj_set_other k3 (show p' ≠ g + 1 by have := HPP'.out; omega) (.int .u64 yh) (.int .u64 yl)
                refine only (i := 3) rfl (by kernel_rfl) (by rfl) (fun K hK => ?_)
                go_simp
                refine hK.out _ _ ⟨k5, k6⟩ ?_
                clear hK
                try simp only [puts]
                refine wpAnyH_done (by kernel_rfl) (NoPanic.normal ?_) _
                have HQ8 := Lib.hid k4
                clear c0 c1 c2 c3 k1 k2 k3 k4 k5 k6 hS
                generalize (u7.setCell ⟨g + 1, 0, none⟩ (.int .u64 yh)).setCell ⟨g + 1, 1, none⟩ (.int .u64 yl) = u8 at *
                go_wp2
                go_roundw
                case rel =>
                  refine ⟨q + 1, by omega, by go_num, ?_, fun j hj => ?_⟩
                  · rw [HS1.out.1, HS1.out.2, HS2.out.1, HS2.out.2]; exact HQ8.out.drew
                  rcases Nat.lt_or_ge j q with h | h
                  · exact HNO.out j h
                  · obtain rfl : j = q := by omega
                    exact HE9.out
                case measure => simp [intOf]; omega
              · have HE9 : Hid (ruE a b R q = 10) := by show _ = _; rw [HE0.out]; rfl
                have HE := Lib.hid (HE4.out (by rw [HE9.out]; decide))
                rw [HE9.out] at HE
                clear HE0 HE4
                go_wp2
                go_ret2
                exact ⟨by rw [HE.out] <;> rfl, HQ6.out.1⟩
        · have HE9 : Hid (ruE a b R q = rn) := by show _ = _; rw [HEE.out, if_pos hz]
          have HE := Lib.hid (HE4.out (by rw [HE9.out]; exact hz))
          rw [HE9.out] at HE
          have tz : (rn != 0) = true := by simpa using hz
          clear HE4 HEE hz
          go_wp2
          go_ret2
          exact ⟨by rw [HE.out] <;> rfl, HQ5.out.1⟩
      · have HE := Lib.hid (HX5.out HM4.out (fun j hj => HNO.out j (by omega)))
        go_wp2
        go_ret2
        exact ⟨by rw [HE.out] <;> rfl, HQ3.out.1⟩

end Go.Proofs.YtbhlennolghjmaaDoor
