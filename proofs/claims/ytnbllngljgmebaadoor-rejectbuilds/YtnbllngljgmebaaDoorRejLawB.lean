/-
  The law RejectBuilds: for every side, message and fault, in every world where the table of kinds reads as it is laid.
-/
import Derived.Test.YtnbllngljgmebaaDoorRejLq
import Derived.Test.YtnbllngljgmebaaDoorPackMsg
namespace Go.Proofs.YtnbllngljgmebaaDoor
open Go.RowKit

set_option maxRecDepth 100000 in
set_option maxHeartbeats 25600000 in
theorem rjbuilds_row (st v : Int) (A : Option Addr) (cA : Nat) (sl : List Sp) (X : Option Addr) (nM cM : Nat) (Y : Option Addr) (nR cR : Nat) (B : Option Addr) (cB : Nat) (E : List Int) (D : Option Addr) (cD : Nat) (C : List Item) (m : ByteArray) (F : Option Addr) (cF : Nat) (l : List Item) (er fd : Int) (w : World) (hK : Kinds w) (hA : Spl w A sl) (hl : sl.length ≤ maxLen) (hE : Ints w B E) (hle : E.length ≤ maxLen) (hcb : E.length ≤ cB) (hwe : ∀ z ∈ E, (Lit.int .i64 z).wf = true) (hC : Tlvs w D C) (hlc : C.length ≤ maxLen) (hcd : C.length ≤ cD) (hs : ∀ x ∈ C, x.2.size ≤ maxLen) (hze : E.length ≤ 20000000000000) (hm : m.size ≤ maxLen) (hF : Tlvs w F l) (hlf : l.length ≤ maxLen) (hft : ∀ x ∈ l, x.2.size ≤ maxLen) (hzl : l.length ≤ 5864062014700) (hwl : ∀ x ∈ l, (Lit.int .i64 x.1).wf = true) :
    Calls Tryd.prog 5 #[.agg #[.int .i64 st, .int .i64 v, .slice A sl.length cA, .slice X nM cM, .slice Y nR cR, .slice B E.length cB, .slice D C.length cD], .agg #[.string m, .slice F l.length cF], .agg #[.int .i64 er, .int .i64 fd]] w fun e w' => e = .returned (.bool true) ∧ Below w.heap.size w w' := by
  have _ := hl; have _ := hle; have _ := hcb; have _ := hcd; have _ := hlf
  have HAW := Lib.hid (fun W h => rjawake_any W h)
  have HG := Lib.hid (fun W h => rjgreat_any st v A cA sl X nM cM Y nR cR B cB E D cD C W h hs)
  have HGM := Lib.hid (fun W h => mgreat_any m F cF l W h hft)
  have HQ0 : Hid (LB w st v A sl.length cA X nM cM Y nR cR B E.length cB D C.length cD m F l.length cF er fd (((w.alloc (.cells #[.int .i64 st, .int .i64 v, .slice A sl.length cA, .slice X nM cM, .slice Y nR cR, .slice B E.length cB, .slice D C.length cD] 32)).alloc (.cells #[.string m, .slice F l.length cF] 45)).alloc (.cells #[.int .i64 er, .int .i64 fd] 47))) := lb_new
  have HK := Lib.hid hK
  have HA := Lib.hid hA
  have HE := Lib.hid hE
  have HC := Lib.hid hC
  have HF := Lib.hid hF
  cases hg : rjgB sl E C
  · obtain ⟨hg1, hg2, hg3, _⟩ := rjg_in hg
    rw [hg] at HG
    cases hgm : greatM m l
    · obtain ⟨hh1, hh2, _⟩ := great_in hgm
      rw [hgm] at HGM
      have HCP := Lib.hid (fun W h1 h2 h3 => rjcopy_some st v A cA sl X nM cM Y nR cR B cB E D cD C W h1 h2 h3 (by omega) (by omega) (by omega))
      have HMC : Hid (∀ W, Tlvs W F l → Calls Tryd.prog 17 #[.agg #[.string m, .slice F l.length cF]] W fun e w' => ∃ x, e = .returned x ∧ ∃ A' c', x = .agg #[.string m, .slice A' l.length c'] ∧ Tlvs w' A' l ∧ Below W.heap.size W w') := fun W h => (mcopy_any m F cF l W h (by omega)).mono fun _ _ ⟨A', c', he, ht, hb⟩ => ⟨_, he, A', c', rfl, ht, hb⟩
      have HBU := Lib.hid (fun (P : Option Addr × Option Addr × Option Addr) (c : Nat × Nat × Nat) F' cF' W (h : ScAt sl E C P c W) k => rjbuild_some st v P.1 sl.length c.1 X nM cM Y nR cR P.2.1 c.2.1 E P.2.2 c.2.2 C m F' cF' l er fd W h.2.1 h.2.2.2.1 k hze hlc hzl hwe hwl)
      have HRB := Lib.hid (fun W h1 h2 h3 => rjrefb_some st v A sl.length cA X nM cM Y nR cR B cB E D cD C m F cF l er fd W hm h1 h2 h3 hg2 hg3 (by omega))
      have HSM : Hid (∀ P c Q d W, Tlvs W P (rbL E C er m l) → Tlvs W Q (rbL E C er m l) → Calls Tryd.prog 19 #[.agg #[.string (rbM m), .slice P (rbL E C er m l).length c], .agg #[.string (rbM m), .slice Q (rbL E C er m l).length d]] W fun e w' => e = .returned (.bool true) ∧ Below W.heap.size W w') := fun P c Q d W k1 k2 => by
        have := mrsame_any (rbM m) P c (rbL E C er m l) (rbM m) Q d (rbL E C er m l) W k1 k2 (Nat.le_trans (rbL_len E C er m l) (by omega))
        rw [sameM_refl] at this
        exact this
      clear hK hA hE hC hl hle hcb hwe hlc hcd hs hze hm hF hlf hft hzl hwl hg hg1 hg2 hg3 hgm hh1 hh2
      generalize rbL E C er m l = TL at *
      generalize rbM m = t1 at *
      generalize askB m.data.toList = b at *
      generalize TL.length = tn at *
      have tb : (b == b) = true := by simp
      generalize sl.length = la at *
      generalize E.length = ne at *
      generalize C.length = nc at *
      generalize l.length = nl at *
      go_enter Tryd.func5, Tryd.ntmps5
      go_wp2_with fail
      generalize (((w.alloc (.cells #[.int .i64 st, .int .i64 v, .slice A la cA, .slice X nM cM, .slice Y nR cR, .slice B ne cB, .slice D nc cD] 32)).alloc (.cells #[.string m, .slice F nl cF] 45)).alloc (.cells #[.int .i64 er, .int .i64 fd] 47)) = U at *
      refine (HAW.out _ (HK.out.below HQ0.out.1)).mono ?_
      rintro e w1 ⟨rfl, hb1⟩
      have HQ1 := Lib.hid (HQ0.out.below hb1)
      clear hb1 HQ0
      obtain ⟨c0, c1, c2, c3, c4, c5, c6⟩ := HQ1.out.2.1.cells
      go_wp2_with fail
      clear c0 c1 c2 c3 c4 c5 c6
      refine (HG.out _ (HC.out.below HQ1.out.1)).mono ?_
      rintro e w2 ⟨rfl, hb2⟩
      have HQ2 := Lib.hid (HQ1.out.below hb2)
      clear hb2 HQ1 HG
      obtain ⟨m0, m1, _, _⟩ := obj_cells HQ2.out.2.2.1
      go_wp2_with fail
      clear m0 m1
      refine (HGM.out _ (HF.out.below HQ2.out.1)).mono ?_
      rintro e w3 ⟨rfl, hb3⟩
      have HQ3 := Lib.hid (HQ2.out.below hb3)
      clear hb3 HQ2 HGM
      go_upto_region 3 with fail
      go_cut [7, 8] (fun s7 s8 wx => ∃ (p : Nat) (P : Option Addr) (k : Nat), s7 = .pointer (some ⟨p, 0, none⟩) ∧ s8 = .bool b ∧ Below w3.heap.size w3 wx ∧ MBox wx p t1 P tn k ∧ Tlvs wx P TL)
      case first =>
        refine wp_region_noPanic ?_
        refine wp_region_held_drew (S := (fun u => Below w3.heap.size w3 u)) (by kernel_rfl) ((Below.refl _ _).drew) (fun hS => ?_)
        refine gv 0 (v := ?_) (fun u hu => ?_) hS ?_
        rotate_left
        · ((obtain ⟨c0, c1, c2, c3, c4, c5, c6⟩ := (HQ3.out.below hu).2.1.cells; obtain ⟨m0, m1, _, _⟩ := obj_cells (HQ3.out.below hu).2.2.1; obtain ⟨f0, f1, _, _⟩ := obj_cells (HQ3.out.below hu).2.2.2); go_simp; try (with_reducible rfl))
        try simp only [puts]
        refine gv 2 (v := ?_) (fun u hu => ?_) hS ?_
        rotate_left
        · ((obtain ⟨c0, c1, c2, c3, c4, c5, c6⟩ := (HQ3.out.below hu).2.1.cells; obtain ⟨m0, m1, _, _⟩ := obj_cells (HQ3.out.below hu).2.2.1; obtain ⟨f0, f1, _, _⟩ := obj_cells (HQ3.out.below hu).2.2.2); go_simp; try (with_reducible rfl))
        try simp only [puts]
        refine gv 4 (v := ?_) (fun u hu => ?_) hS ?_
        rotate_left
        · ((obtain ⟨c0, c1, c2, c3, c4, c5, c6⟩ := (HQ3.out.below hu).2.1.cells; obtain ⟨m0, m1, _, _⟩ := obj_cells (HQ3.out.below hu).2.2.1; obtain ⟨f0, f1, _, _⟩ := obj_cells (HQ3.out.below hu).2.2.2); go_simp; try (with_reducible rfl))
        try simp only [puts]
        refine wpAnyH_ready (rs := [1, 9]) (by kernel_rfl) (by simp) (arm_some (i := 1) 11 #[.agg #[.int .i64 st, .int .i64 v, .slice A la cA, .slice X nM cM, .slice Y nR cR, .slice B ne cB, .slice D nc cD]] rfl (by rfl) (HCP.out _ (HA.out.below (HQ3.out.below hS).1) (HE.out.below (HQ3.out.below hS).1) (HC.out.below (HQ3.out.below hS).1)) ?_ ?_ (arm_alloc (i := 9) (.cells #[.string ⟨#[]⟩, .slice none 0 0] 45) rfl (by rfl) ?_ ?_ AllReadyH.nil))
        · (go_simp; try (with_reducible rfl))
        intro v1 u' hT
        obtain ⟨A1, c1, rfl, ht1, hb⟩ := hT
        have hS' : (fun u => Below w3.heap.size w3 u) u' := hbt hS hb
        refine ⟨hS', ?_⟩
        clear hS hb; have hS := hS'; clear hS'; rename World => u; try simp only [puts]
        rotate_left
        · (go_simp; try (with_reducible rfl))
        intro p9 u' hb ho9 hp9
        replace hp9 := Nat.le_trans (hS.size) hp9
        have hS' : (fun u => Below w3.heap.size w3 u) u' := hbt hS hb
        refine ⟨hS', ?_⟩
        clear hS hb; have hS := hS'; clear hS'; rename World => u; try simp only [puts]
        rotate_left
        all_goals first
          |
            refine wpAnyH_ready (rs := [1]) (by kernel_rfl) (by simp) (arm_some (i := 1) 11 #[.agg #[.int .i64 st, .int .i64 v, .slice A la cA, .slice X nM cM, .slice Y nR cR, .slice B ne cB, .slice D nc cD]] rfl (by rfl) (HCP.out _ (HA.out.below (HQ3.out.below hS).1) (HE.out.below (HQ3.out.below hS).1) (HC.out.below (HQ3.out.below hS).1)) ?_ ?_ AllReadyH.nil)
            · (go_simp; try (with_reducible rfl))
            intro v1 u' hT
            obtain ⟨A1, c1, rfl, ht1, hb⟩ := hT
            have hS' : (fun u => Below w3.heap.size w3 u) u' := hbt hS hb
            refine ⟨hS', ?_⟩
            replace ho9 := obj_below ho9 hb
            clear hS hb; have hS := hS'; clear hS'; rename World => u; try simp only [puts]
          |
            refine wpAnyH_ready (rs := [3, 9]) (by kernel_rfl) (by simp) (arm_some (i := 3) 17 #[.agg #[.string m, .slice F nl cF]] rfl (by rfl) (HMC.out _ (HF.out.below (HQ3.out.below hS).1)) ?_ ?_ (arm_alloc (i := 9) (.cells #[.string ⟨#[]⟩, .slice none 0 0] 45) rfl (by rfl) ?_ ?_ AllReadyH.nil))
            · (go_simp; try (with_reducible rfl))
            intro v3 u' hT
            obtain ⟨A3, c3, rfl, ht3, hb⟩ := hT
            have hS' : (fun u => Below w3.heap.size w3 u) u' := hbt hS hb
            refine ⟨hS', ?_⟩
            replace ht1 := ht1.below hb
            clear hS hb; have hS := hS'; clear hS'; rename World => u; try simp only [puts]
            rotate_left
            · (go_simp; try (with_reducible rfl))
            intro p9 u' hb ho9 hp9
            replace hp9 := Nat.le_trans (hS.size) hp9
            have hS' : (fun u => Below w3.heap.size w3 u) u' := hbt hS hb
            refine ⟨hS', ?_⟩
            replace ht1 := ht1.below hb
            clear hS hb; have hS := hS'; clear hS'; rename World => u; try simp only [puts]
            rotate_left
        all_goals first
          |
            refine wpAnyH_ready (rs := [3]) (by kernel_rfl) (by simp) (arm_some (i := 3) 17 #[.agg #[.string m, .slice F nl cF]] rfl (by rfl) (HMC.out _ (HF.out.below (HQ3.out.below hS).1)) ?_ ?_ AllReadyH.nil)
            · (go_simp; try (with_reducible rfl))
            intro v3 u' hT
            obtain ⟨A3, c3, rfl, ht3, hb⟩ := hT
            have hS' : (fun u => Below w3.heap.size w3 u) u' := hbt hS hb
            refine ⟨hS', ?_⟩
            replace ho9 := obj_below ho9 hb
            replace ht1 := ht1.below hb
            clear hS hb; have hS := hS'; clear hS'; rename World => u; try simp only [puts]
          |
            refine wpAnyH_ready (rs := [5, 9]) (by kernel_rfl) (by simp) (arm_some (i := 5) 16 #[.agg #[.int .i64 st, .int .i64 v, .slice A1.1 la c1.1, .slice X nM cM, .slice Y nR cR, .slice A1.2.1 ne c1.2.1, .slice A1.2.2 nc c1.2.2], .agg #[.string m, .slice A3 nl c3], .agg #[.int .i64 er, .int .i64 fd]] rfl (by rfl) (HBU.out A1 c1 A3 c3 _ ht1 ht3) ?_ ?_ (arm_alloc (i := 9) (.cells #[.string ⟨#[]⟩, .slice none 0 0] 45) rfl (by rfl) ?_ ?_ AllReadyH.nil))
            · (go_simp; try (with_reducible rfl))
            intro v5 u' hT
            obtain ⟨A5, c5, rfl, ht5, hb⟩ := hT
            have hS' : (fun u => Below w3.heap.size w3 u) u' := hbt hS hb
            refine ⟨hS', ?_⟩
            replace ht1 := ht1.below hb
            replace ht3 := ht3.below hb
            clear hS hb; have hS := hS'; clear hS'; rename World => u; try simp only [puts]
            refine gv 6 (v := ?_) (fun u hu => ?_) hS ?_
            rotate_left
            · ((obtain ⟨c0, c1, c2, c3, c4, c5, c6⟩ := (HQ3.out.below hu).2.1.cells; obtain ⟨m0, m1, _, _⟩ := obj_cells (HQ3.out.below hu).2.2.1; obtain ⟨f0, f1, _, _⟩ := obj_cells (HQ3.out.below hu).2.2.2); go_simp; try (with_reducible rfl))
            try simp only [puts]
            refine gv 7 (v := ?_) (fun u hu => ?_) hS ?_
            rotate_left
            · ((obtain ⟨c0, c1, c2, c3, c4, c5, c6⟩ := (HQ3.out.below hu).2.1.cells; obtain ⟨m0, m1, _, _⟩ := obj_cells (HQ3.out.below hu).2.2.1; obtain ⟨f0, f1, _, _⟩ := obj_cells (HQ3.out.below hu).2.2.2); go_simp; try (with_reducible rfl))
            try simp only [puts]
            refine gv 8 (v := ?_) (fun u hu => ?_) hS ?_
            rotate_left
            · ((obtain ⟨c0, c1, c2, c3, c4, c5, c6⟩ := (HQ3.out.below hu).2.1.cells; obtain ⟨m0, m1, _, _⟩ := obj_cells (HQ3.out.below hu).2.2.1; obtain ⟨f0, f1, _, _⟩ := obj_cells (HQ3.out.below hu).2.2.2); go_simp; try (with_reducible rfl))
            try simp only [puts]
            rotate_left
            · (go_simp; try (with_reducible rfl))
            intro p9 u' hb ho9 hp9
            replace hp9 := Nat.le_trans (hS.size) hp9
            have hS' : (fun u => Below w3.heap.size w3 u) u' := hbt hS hb
            refine ⟨hS', ?_⟩
            replace ht1 := ht1.below hb
            replace ht3 := ht3.below hb
            clear hS hb; have hS := hS'; clear hS'; rename World => u; try simp only [puts]
            rotate_left
        all_goals first
          |
            refine wpAnyH_ready (rs := [5]) (by kernel_rfl) (by simp) (arm_some (i := 5) 16 #[.agg #[.int .i64 st, .int .i64 v, .slice A1.1 la c1.1, .slice X nM cM, .slice Y nR cR, .slice A1.2.1 ne c1.2.1, .slice A1.2.2 nc c1.2.2], .agg #[.string m, .slice A3 nl c3], .agg #[.int .i64 er, .int .i64 fd]] rfl (by rfl) (HBU.out A1 c1 A3 c3 _ ht1 ht3) ?_ ?_ AllReadyH.nil)
            · (go_simp; try (with_reducible rfl))
            intro v5 u' hT
            obtain ⟨A5, c5, rfl, ht5, hb⟩ := hT
            have hS' : (fun u => Below w3.heap.size w3 u) u' := hbt hS hb
            refine ⟨hS', ?_⟩
            replace ho9 := obj_below ho9 hb
            replace ht1 := ht1.below hb
            replace ht3 := ht3.below hb
            clear hS hb; have hS := hS'; clear hS'; rename World => u; try simp only [puts]
            refine gv 6 (v := ?_) (fun u hu => ?_) hS ?_
            rotate_left
            · ((obtain ⟨c0, c1, c2, c3, c4, c5, c6⟩ := (HQ3.out.below hu).2.1.cells; obtain ⟨m0, m1, _, _⟩ := obj_cells (HQ3.out.below hu).2.2.1; obtain ⟨f0, f1, _, _⟩ := obj_cells (HQ3.out.below hu).2.2.2); go_simp; try (with_reducible rfl))
            try simp only [puts]
            refine gv 7 (v := ?_) (fun u hu => ?_) hS ?_
            rotate_left
            · ((obtain ⟨c0, c1, c2, c3, c4, c5, c6⟩ := (HQ3.out.below hu).2.1.cells; obtain ⟨m0, m1, _, _⟩ := obj_cells (HQ3.out.below hu).2.2.1; obtain ⟨f0, f1, _, _⟩ := obj_cells (HQ3.out.below hu).2.2.2); go_simp; try (with_reducible rfl))
            try simp only [puts]
            refine gv 8 (v := ?_) (fun u hu => ?_) hS ?_
            rotate_left
            · ((obtain ⟨c0, c1, c2, c3, c4, c5, c6⟩ := (HQ3.out.below hu).2.1.cells; obtain ⟨m0, m1, _, _⟩ := obj_cells (HQ3.out.below hu).2.2.1; obtain ⟨f0, f1, _, _⟩ := obj_cells (HQ3.out.below hu).2.2.2); go_simp; try (with_reducible rfl))
            try simp only [puts]
          |
            refine wpAnyH_ready (rs := [9]) (by kernel_rfl) (by simp) (arm_alloc (i := 9) (.cells #[.string ⟨#[]⟩, .slice none 0 0] 45) rfl (by rfl) ?_ ?_ AllReadyH.nil)
            · (go_simp; try (with_reducible rfl))
            intro p9 u' hb ho9 hp9
            replace hp9 := Nat.le_trans (hS.size) hp9
            have hS' : (fun u => Below w3.heap.size w3 u) u' := hbt hS hb
            refine ⟨hS', ?_⟩
            replace ht1 := ht1.below hb
            replace ht3 := ht3.below hb
            replace ht5 := ht5.below hb
            clear hS hb; have hS := hS'; clear hS'; rename World => u; try simp only [puts]
        all_goals
          obtain ⟨d0, d1, f0, f1⟩ := obj_cells ho9
          have k1 := obj_set2 ho9 (.string t1) (.slice A5 tn c5)
          have k3 : Below w3.heap.size w3 _ := below_set2 hS hp9 (.string t1) (.slice A5 tn c5)
          have k4 := vals_store2 ht5 ho9 t1 A5 tn c5
          refine only (i := 10) rfl (by kernel_rfl) (by rfl) (fun K hK => ?_)
          go_simp
          refine hK.out _ _ k3 ?_
          clear hK
          try simp only [puts]
          clear d0 d1 f0 f1 hS
          have hS := k3
          refine gv 11 (v := ?_) (fun u hu => ?_) hS ?_
          rotate_left
          · ((obtain ⟨c0, c1, c2, c3, c4, c5, c6⟩ := (HQ3.out.below hu).2.1.cells; obtain ⟨m0, m1, _, _⟩ := obj_cells (HQ3.out.below hu).2.2.1; obtain ⟨f0, f1, _, _⟩ := obj_cells (HQ3.out.below hu).2.2.2); go_simp; try (with_reducible rfl))
          try simp only [puts]
          refine wpAnyH_done (by kernel_rfl) (NoPanic.normal ?_) _
          go_wp2_with fail
          go_meet
          exact ⟨p9, A5, c5, rfl, rfl, k3, k1, k4⟩
      case rest =>
        obtain ⟨p, P, k, rfl, rfl, hb, hx, ht⟩ := hcut
        have HQ5 := Lib.hid (HQ3.out.below hb)
        have HX5 := Lib.hid hx
        have HT5 := Lib.hid ht
        clear hb hx ht HQ3 HBU HCP HMC
        generalize wc = W5 at *
        obtain ⟨c0, c1, c2, c3, c4, c5, c6⟩ := HQ5.out.2.1.cells
        obtain ⟨m0, m1, _, _⟩ := obj_cells HQ5.out.2.2.1
        obtain ⟨f0, f1, _, _⟩ := obj_cells HQ5.out.2.2.2
        go_wp2_with fail
        clear c0 c1 c2 c3 c4 c5 c6 m0 m1 f0 f1
        refine (HRB.out _ (HE.out.below HQ5.out.1) (HC.out.below HQ5.out.1) (HF.out.below HQ5.out.1)).mono ?_
        rintro e w6 ⟨_, rfl, Q, d, rfl, htd, hb6⟩
        have hbm := below_al w6 (.cells #[.string t1, .slice Q tn d] 45)
        have HB7 := Lib.hid (hbt HQ5.out.1 (hbt hb6 hbm))
        have HX7 := Lib.hid (HX5.out.below (hbt hb6 hbm))
        have HT7 := Lib.hid (HT5.out.below (hbt hb6 hbm))
        have HD7 := Lib.hid (htd.below hbm)
        have HM7 : Hid (MBox (w6.alloc (.cells #[.string t1, .slice Q tn d] 45)) w6.heap.size t1 Q tn d) := mbox_new _ _ _ _ _
        clear hb6 hbm htd HQ5 HX5 HT5 HRB
        obtain ⟨d0, d1, _, _⟩ := obj_cells HX7.out
        obtain ⟨x0, x1, _, _⟩ := obj_cells HM7.out
        go_wp2_with fail
        clear d0 d1 x0 x1
        generalize w6.alloc (.cells #[.string t1, .slice Q tn d] 45) = W7 at *
        generalize w6.heap.size = g7 at *
        refine (HSM.out P k Q d _ HT7.out HD7.out).mono ?_
        rintro e w8 ⟨rfl, hb8⟩
        have HB8 := Lib.hid (hbt HB7.out hb8)
        clear hb8
        go_wp2
        go_ret
        exact ⟨by simp, HB8.out⟩
    · rw [hgm] at HGM
      clear hK hA hE hC hl hle hcb hwe hlc hcd hs hze hm hF hlf hft hzl hwl hg hg1 hg2 hg3 hgm
      generalize sl.length = la at *
      generalize E.length = ne at *
      generalize C.length = nc at *
      generalize l.length = nl at *
      go_enter Tryd.func5, Tryd.ntmps5
      go_wp2_with fail
      generalize (((w.alloc (.cells #[.int .i64 st, .int .i64 v, .slice A la cA, .slice X nM cM, .slice Y nR cR, .slice B ne cB, .slice D nc cD] 32)).alloc (.cells #[.string m, .slice F nl cF] 45)).alloc (.cells #[.int .i64 er, .int .i64 fd] 47)) = U at *
      refine (HAW.out _ (HK.out.below HQ0.out.1)).mono ?_
      rintro e w1 ⟨rfl, hb1⟩
      have HQ1 := Lib.hid (HQ0.out.below hb1)
      clear hb1 HQ0
      obtain ⟨c0, c1, c2, c3, c4, c5, c6⟩ := HQ1.out.2.1.cells
      go_wp2_with fail
      clear c0 c1 c2 c3 c4 c5 c6
      refine (HG.out _ (HC.out.below HQ1.out.1)).mono ?_
      rintro e w2 ⟨rfl, hb2⟩
      have HQ2 := Lib.hid (HQ1.out.below hb2)
      clear hb2 HQ1 HG
      obtain ⟨m0, m1, _, _⟩ := obj_cells HQ2.out.2.2.1
      go_wp2_with fail
      clear m0 m1
      refine (HGM.out _ (HF.out.below HQ2.out.1)).mono ?_
      rintro e w3 ⟨rfl, hb3⟩
      have HQ3 := Lib.hid (HQ2.out.below hb3)
      clear hb3 HQ2 HGM
      go_wp2_with fail
      refine (HAW.out _ (HK.out.below HQ3.out.1)).mono ?_
      rintro e w9 ⟨rfl, hb9⟩
      go_wp2
      go_ret
      exact ⟨rfl, hbt HQ3.out.1 hb9⟩
  · rw [hg] at HG
    clear hK hA hE hC hl hle hcb hwe hlc hcd hs hze hm hF hlf hft hzl hwl hg HGM
    generalize sl.length = la at *
    generalize E.length = ne at *
    generalize C.length = nc at *
    generalize l.length = nl at *
    go_enter Tryd.func5, Tryd.ntmps5
    go_wp2_with fail
    generalize (((w.alloc (.cells #[.int .i64 st, .int .i64 v, .slice A la cA, .slice X nM cM, .slice Y nR cR, .slice B ne cB, .slice D nc cD] 32)).alloc (.cells #[.string m, .slice F nl cF] 45)).alloc (.cells #[.int .i64 er, .int .i64 fd] 47)) = U at *
    refine (HAW.out _ (HK.out.below HQ0.out.1)).mono ?_
    rintro e w1 ⟨rfl, hb1⟩
    have HQ1 := Lib.hid (HQ0.out.below hb1)
    clear hb1 HQ0
    obtain ⟨c0, c1, c2, c3, c4, c5, c6⟩ := HQ1.out.2.1.cells
    go_wp2_with fail
    clear c0 c1 c2 c3 c4 c5 c6
    refine (HG.out _ (HC.out.below HQ1.out.1)).mono ?_
    rintro e w2 ⟨rfl, hb2⟩
    have HQ2 := Lib.hid (HQ1.out.below hb2)
    clear hb2 HQ1 HG
    go_wp2_with fail
    refine (HAW.out _ (HK.out.below HQ2.out.1)).mono ?_
    rintro e w9 ⟨rfl, hb9⟩
    go_wp2
    go_ret
    exact ⟨rfl, hbt HQ2.out.1 hb9⟩

end Go.Proofs.YtnbllngljgmebaaDoor
