/-
  What the document's Translate answers: for every map whose rules have up to 5,000,000 pairs, schemas of up to 1000 specs and messages of up to 499 fields, in every world.
-/
import Derived.Test.YthheflgfbdcnlaaGreatDoorXltGreat
import Derived.Test.YthheflgfbdcnlaaGreatDoorXltTra
import Derived.Test.YthheflgfbdcnlaaGreatDoorPackMsg
import Derived.Test.YthheflgfbdcnlaaGreatDoorRulApp
import Derived.Test.YthheflgfbdcnlaaGreatDoorPackBase
namespace Go.Proofs.YthheflgfbdcnlaaGreatDoor
open Go.RowKit

theorem Fit4.three {l : List Ru} (h : Fit4 l) : Fit3 l := fun r hr => by
  obtain ⟨h1, h2, h3⟩ := h r hr
  exact ⟨h1, by unfold maxLen; omega, h3⟩
theorem TQ.keep {w : World} {X : Option Addr} {n c : Nat} {Y : Option Addr} {n' c' : Nat} {st v : Int} {A : Option Addr} {la ca : Nat} {st' v' : Int} {A' : Option Addr} {lb cb : Nat} {m : ByteArray} {B : Option Addr} {lx cx : Nat} {u u' : World} {Z : Nat} (h : TQ w X n c Y n' c' st v A la ca st' v' A' lb cb m B lx cx u) (hb : Below Z u u') (hZ : w.heap.size + 6 ≤ Z) : TQ w X n c Y n' c' st v A la ca st' v' A' lb cb m B lx cx u' :=
  ⟨⟨h.1.1.trans (hb.mono (by omega)), (hb.block _ (by omega)).trans h.1.2.1, (hb.block _ (by omega)).trans h.1.2.2.1, (hb.block _ (by omega)).trans h.1.2.2.2⟩, (hb.block _ (by omega)).trans h.2.1, (hb.block _ (by omega)).trans h.2.2.1, (hb.block _ (by omega)).trans h.2.2.2⟩
theorem TQ.past {w U : World} {X : Option Addr} {n c : Nat} {Y : Option Addr} {n' c' : Nat} {st v : Int} {A : Option Addr} {la ca : Nat} {st' v' : Int} {A' : Option Addr} {lb cb : Nat} {m : ByteArray} {B : Option Addr} {lx cx : Nat} {u : World} {g : Nat} (h : TQ w X n c Y n' c' st v A la ca st' v' A' lb cb m B lx cx U) (hk : KeepX U g u) (hb : Below w.heap.size w u) (hg : w.heap.size + 6 ≤ g) : TQ w X n c Y n' c' st v A la ca st' v' A' lb cb m B lx cx u :=
  ⟨⟨hb, hk.obj h.1.2.1 (by omega), hk.obj h.1.2.2.1 (by omega), hk.obj h.1.2.2.2 (by omega)⟩, hk.obj h.2.1 (by omega), hk.obj h.2.2.1 (by omega), hk.obj h.2.2.2 (by omega)⟩
/-- What a region keeps that stores a message and a fault. -/
def RQ3 (w : World) (m : ByteArray) (B : Option Addr) (lx cx : Nat) (u : World) : Prop := Below w.heap.size w u ∧ MBox u (w.heap.size + 3) m B lx cx ∧ MBox u (w.heap.size + 6) ⟨#[]⟩ none 0 0
theorem RQ3.one {w : World} {m : ByteArray} {B : Option Addr} {lx cx : Nat} {u : World} (h : RQ3 w m B lx cx u) (x y : Value) : RQ3 w m B lx cx (((u.setCell ⟨w.heap.size + 4, 0, none⟩ x).setCell ⟨w.heap.size + 4, 1, none⟩ y).drew) :=
  ⟨(below_set2 h.1 (by omega) _ _).drew, obj_set_other h.2.1 (by omega) _ _, obj_set_other h.2.2 (by omega) _ _⟩
theorem RQ3.two {w : World} {m : ByteArray} {B : Option Addr} {lx cx : Nat} {u : World} (h : RQ3 w m B lx cx u) (x y z q : Value) : RQ3 w m B lx cx (((((u.setCell ⟨w.heap.size + 4, 0, none⟩ x).setCell ⟨w.heap.size + 4, 1, none⟩ y).setCell ⟨w.heap.size + 5, 0, none⟩ z).setCell ⟨w.heap.size + 5, 1, none⟩ q).drew) :=
  ⟨(below_set2 (below_set2 h.1 (by omega) _ _) (by omega) _ _).drew, obj_set_other (obj_set_other h.2.1 (by omega) _ _) (by omega) _ _, obj_set_other (obj_set_other h.2.2 (by omega) _ _) (by omega) _ _⟩

set_option maxRecDepth 100000 in
set_option maxHeartbeats 51200000 in
theorem xtref_any (X : Option Addr) (cM : Nat) (M : List PairT) (Y : Option Addr) (cR : Nat) (R : List Ru) (st v : Int) (A : Option Addr) (ca : Nat) (a : List Sp) (st' v' : Int) (A' : Option Addr) (cb : Nat) (b : List Sp) (m : ByteArray) (B : Option Addr) (cx : Nat) (l : List Item) (w : World) (hM : Prs w X M) (hR : Rls w Y R) (hA : Spl w A a) (hB : Spl w A' b) (hI : Tlvs w B l) (hla : a.length ≤ 1000) (hlb : b.length ≤ 1000) (hlM : M.length ≤ maxLen) (hcM : M.length ≤ cM) (hlR : R.length ≤ maxLen) (hfM : Fit2 M) (hf4 : Fit4 R) (hl : l.length ≤ 499) (hs : ∀ x ∈ l, x.2.size ≤ maxLen) (hm : m.size ≤ maxLen) :
    Calls Tryz.prog 15 #[.agg #[.slice X M.length cM, .slice Y R.length cR], .agg #[.int .i64 st, .int .i64 v, .slice A a.length ca], .agg #[.int .i64 st', .int .i64 v', .slice A' b.length cb], .agg #[.string m, .slice B l.length cx]] w fun e w' => DecTo (xltT st v a st' v' b M R m l) w w' e := by
  obtain ⟨i0, hi, hz0, hz1, hz2⟩ := info_parts Tryz.infoVal
  have HRT := Lib.hid (fun W k1 k2 k3 k4 => xright_any X cM M Y cR R st v A ca a st' v' A' cb b W k1 k2 k3 k4 hla hlb hlM hlR hcM hfM hf4.three)
  have HMC := Lib.hid (fun W k1 k2 => mrcheck_any st v A ca a m B cx l W k1 k2 hla (by omega) hs hm)
  have HLK := Lib.hid (fun W k h => crapply_any X cM M m W k h)
  have HRU := Lib.hid (fun no W k h => xrule_any X M.length cM Y cR R no W k h)
  have HAP := Lib.hid (fun k f t s' B' c P x W k1 k2 k3 k4 => rpref_any k f t s' B' c P st' v' A' cb b x W k1 k2 hlb k3 k4)
  have HX1 := Lib.hid (@xt_arg st v a st' v' b M R m l)
  have HX2 := Lib.hid (@xt_msg st v a st' v' b M R m l)
  have HX3 := Lib.hid (@xt_mti st v a st' v' b M R m l)
  have HX4 := Lib.hid (@xt_field st v a st' v' b M R m l)
  have HX5 := Lib.hid (@xt_ok st v a st' v' b M R m l)
  have HXZ := Lib.hid (@xlt_zero st v a st' v' b M R)
  have HQ0 := Lib.hid (tq_new w X M.length cM Y R.length cR st v A a.length ca st' v' A' b.length cb m B l.length cx)
  have HSZ : Hid (((((((w.alloc (.cells #[.slice X M.length cM, .slice Y R.length cR] 25)).alloc (.cells #[.int .i64 st, .int .i64 v, .slice A a.length ca] 28)).alloc (.cells #[.int .i64 st', .int .i64 v', .slice A' b.length cb] 28)).alloc (.cells #[.string m, .slice B l.length cx] 41)).alloc (.cells #[.string ⟨#[]⟩, .slice none 0 0] 41)).alloc (.cells #[.int .i64 0, .int .i64 0] 44)).heap.size = w.heap.size + 6) := by show _ = _; simp
  have HM := Lib.hid hM
  have HR := Lib.hid hR
  have HA := Lib.hid hA
  have HB := Lib.hid hB
  have HI := Lib.hid hI
  have HS := Lib.hid hs
  have HF4 := Lib.hid hf4
  generalize xltT st v a st' v' b M R m l = T at *
  generalize (xltN st v a st' v' b M R).1 = z1 at *
  generalize msgN st v a m l = F at *
  obtain ⟨f1, f2⟩ := F
  dsimp only at HMC HX2 HX3 HX4 HX5
  generalize appB M m = ap at *
  generalize appS M m = mo at *
  generalize hln : l.length = n at *
  generalize hrm : R.length = nr at *
  generalize M.length = nm at *
  generalize a.length = la at *
  generalize b.length = lb at *
  have HLN := Lib.hid hln
  have HRM := Lib.hid hrm
  clear hM hR hA hB hI hs hla hlb hlM hcM hlR hf4 hfM hm hln hrm
  go_enter Tryz.func15, Tryz.ntmps15
  go_wp2_with fail
  have HQ1 := Lib.hid (HQ0.out.below (below_al _ (.cells #[.string ⟨#[]⟩, .slice none 0 0] 41)))
  have HN1 := Lib.hid (heap_al ((((((w.alloc (.cells #[.slice X nm cM, .slice Y nr cR] 25)).alloc (.cells #[.int .i64 st, .int .i64 v, .slice A la ca] 28)).alloc (.cells #[.int .i64 st', .int .i64 v', .slice A' lb cb] 28)).alloc (.cells #[.string m, .slice B n cx] 41)).alloc (.cells #[.string ⟨#[]⟩, .slice none 0 0] 41)).alloc (.cells #[.int .i64 0, .int .i64 0] 44)) (.cells #[.string ⟨#[]⟩, .slice none 0 0] 41) (w.heap.size + 6) HSZ.out.symm)
  generalize ((((((w.alloc (.cells #[.slice X nm cM, .slice Y nr cR] 25)).alloc (.cells #[.int .i64 st, .int .i64 v, .slice A la ca] 28)).alloc (.cells #[.int .i64 st', .int .i64 v', .slice A' lb cb] 28)).alloc (.cells #[.string m, .slice B n cx] 41)).alloc (.cells #[.string ⟨#[]⟩, .slice none 0 0] 41)).alloc (.cells #[.int .i64 0, .int .i64 0] 44)).alloc (.cells #[.string ⟨#[]⟩, .slice none 0 0] 41) = U at *
  clear HQ0 HSZ
  refine (HRT.out _ (HM.out.below HQ1.out.1.1) (HR.out.below HQ1.out.1.1) (HA.out.below HQ1.out.1.1) (HB.out.below HQ1.out.1.1)).mono ?_
  rintro e w1 ⟨rfl, hb1⟩
  have HQ2 := Lib.hid (HQ1.out.below hb1)
  have HN2 := Lib.hid (obj_below HN1.out hb1)
  clear hb1 HQ1 HN1 HRT
  by_cases hz : z1 = 0
  · have HZ := Lib.hid hz
    subst hz
    have tz : decide ((0 : Int) = 0) = true := rfl
    rw [tz]
    clear tz
    obtain ⟨⟨m0, m1⟩, ⟨a0, a1, a2⟩, b0, b1, b2⟩ := HQ2.out.1.cells
    obtain ⟨x0, x1, _, _⟩ := obj_cells HQ2.out.2.1
    obtain ⟨h1, h2, h3, h4, h5, h6⟩ := HXZ.out HZ.out
    have HM5 := Lib.hid h3
    have HR5 := Lib.hid h5
    clear h1 h2 h3 h4 h5 h6 HXZ
    go_wp2_with fail
    clear m0 m1 a0 a1 a2 b0 b1 b2 x0 x1
    refine (HMC.out _ (HA.out.below HQ2.out.1.1) (HI.out.below HQ2.out.1.1)).mono ?_
    rintro e w2 ⟨rfl, hb2⟩
    have HQ3 := Lib.hid ((HQ2.out.below hb2).below (below_al w2 (.cells #[.int .i64 f1, .int .i64 f2] 44)))
    have HN3 := Lib.hid (obj_below (obj_below HN2.out hb2) (below_al w2 (.cells #[.int .i64 f1, .int .i64 f2] 44)))
    have HG3 : Hid ((w2.alloc (.cells #[.int .i64 f1, .int .i64 f2] 44)).heap[w2.heap.size]? = some (.cells #[.int .i64 f1, .int .i64 f2] 44)) := heap_alloc_new _ _
    have HGZ : Hid (w.heap.size + 7 ≤ w2.heap.size) := by have := obj_lt (obj_below HN2.out hb2); show _ ≤ _; omega
    have HUZ : Hid (w.heap.size + 7 ≤ (w2.alloc (.cells #[.int .i64 f1, .int .i64 f2] 44)).heap.size) := by have := HGZ.out; show _ ≤ _; simp; omega
    clear hb2 HQ2 HN2 HMC
    obtain ⟨v0, v1, _, _⟩ := obj_cells HG3.out
    by_cases hf : f1 = 0
    · have HF := Lib.hid hf
      subst hf
      obtain ⟨⟨m0, m1⟩, ⟨a0, a1, a2⟩, b0, b1, b2⟩ := HQ3.out.1.cells
      obtain ⟨x0, x1, _, _⟩ := obj_cells HQ3.out.2.1
      go_wp2_with fail
      clear m0 m1 a0 a1 a2 b0 b1 b2 x0 x1 v0 v1
      generalize w2.alloc (.cells #[.int .i64 0, .int .i64 f2] 44) = W3 at *
      generalize w2.heap.size = g3 at *
      clear HG3 HGZ
      refine (HLK.out _ (HM.out.below HQ3.out.1.1) (by have := HM5.out; omega)).mono ?_
      rintro e w4 ⟨rfl, rfl⟩
      cases ap
      · have HE := Lib.hid (HX3.out HZ.out HF.out (by trivial))
        obtain ⟨y0, y1, _, _⟩ := obj_cells HN3.out
        obtain ⟨c0, c1, c2, c3⟩ := obj_cells HQ3.out.2.2.1
        obtain ⟨d0, d1, d2, d3⟩ := obj_cells HQ3.out.2.2.2
        go_wp2
        obtain ⟨k1, k2, k3⟩ := HQ3.out.put (.string ⟨#[]⟩) (.slice none 0 0) (.int .i64 7) (.int .i64 0)
        refine bodyPost_ret (results_two rfl _ _ (w.heap.size + 4) (w.heap.size + 5) _ _ _ _ _ _ _ _ rfl k1 rfl k2 Tryz.underlying41 rfl (by kernel_rfl) Tryz.underlying44 rfl (by kernel_rfl)) rfl ?_
        rw [HE.out]
        exact ⟨none, 0, rfl, tlvs_nil _ _, k3⟩
      · have HQ4 := Lib.hid (HQ3.out.below (below_al W3 (.cells #[] 53)))
        have HN4 := Lib.hid (obj_below HN3.out (below_al W3 (.cells #[] 53)))
        have HO4 : Hid ((W3.alloc (.cells #[] 53)).ownsRow W3.heap.size 53 2 (.slice (some ⟨W3.heap.size, 0, none⟩) 0 0) 0 (itemsC (xmade b R (l.take 0)))) := World.ownsRow_lit W3 #[] 0 (Nat.le_refl _) (by unfold maxLen; omega) rfl
        have HZS : Hid (W3.heap.size ≤ (W3.alloc (.cells #[] 53)).heap.size) := (below_al W3 (.cells #[] 53)).size
        go_wp2_with fail
        generalize W3.alloc (.cells #[] 53) = U4 at *
        generalize W3.heap.size = Z at *
        clear HQ3 HN3
        go_loopw [14, 15] (fun vv i wr => ∃ (q g cp : Nat), q ≤ n ∧ vv = .slice (some ⟨g, 0, none⟩) q cp ∧ i = .int .i64 (q : Int) ∧ Z ≤ wr.heap.size ∧ TQ w X nm cM Y nr cR st v A la ca st' v' A' lb cb m B n cx wr ∧ MBox wr (w.heap.size + 6) ⟨#[]⟩ none 0 0 ∧ wr.ownsRow Z 53 2 (.slice (some ⟨g, 0, none⟩) q cp) q (itemsC (xmade b R (l.take q))) ∧ xerr b R l = xerr b R (l.drop q)) (fun _ i _ => n - (intOf i).toNat)
        case atStart => exact ⟨0, _, 0, Nat.zero_le _, rfl, rfl, HZS.out, HQ4.out, HN4.out, HO4.out, rfl⟩
        case round =>
          obtain ⟨q, g, cp, hq, rfl, rfl, hzs, hQ, hN, hO, he⟩ := hrel
          have HZ5 := Lib.hid hzs
          have HQ5 := Lib.hid hQ
          have HN5 := Lib.hid hN
          have HO5 := Lib.hid hO
          have HER := Lib.hid he
          clear hQ hN hO he hzs HQ4 HN4 HO4 HZS
          obtain ⟨x0, x1, _, _⟩ := obj_cells HQ5.out.2.1
          by_cases hlt : q < n
          · have hql : q < l.length := by have := HLN.out; omega
            obtain ⟨aB, no, s, rfl, hx, _, _⟩ := HI.out.at_ hql
            have HCV : Hid (∀ u, Below w.heap.size w u → u.cell? (aB.add (q * 2)) = some (.int .i64 no) ∧ u.cell? ⟨(aB.add (q * 2)).block, (aB.add (q * 2)).off + 1, none⟩ = some (.string s)) := fun u hu => by
              obtain ⟨a', n', s', ha, h0, h1, h2⟩ := (HI.out.below hu).at_ hql
              injection ha with ha
              subst ha
              rw [hx] at h0
              simp only [Prod.mk.injEq] at h0
              obtain ⟨rfl, rfl⟩ := h0
              exact ⟨h1, h2⟩
            have HSS : Hid (s.size ≤ maxLen) := by
              have := HS.out _ (by rw [itemAt_get hql]; exact List.getElem_mem hql : itemAt l q ∈ l)
              rw [hx] at this; exact this
            have HMT := Lib.hid (made_take (b := b) (R := R) hql)
            have HEB := Lib.hid (err_bad (b := b) (R := R) hql)
            have HEO := Lib.hid (err_ok (b := b) (R := R) hql)
            have HLL : Hid ((xmade b R (l.take q)).length = q) := by show _ = _; rw [made_len, List.length_take, HLN.out]; omega
            unfold xval at HMT
            rw [hx] at HMT HEB HEO
            have HON := Lib.hid (fun h => one_none (b := b) (R := R) (x := (no, s)) h)
            have HOS := Lib.hid (fun i h => one_some (b := b) (R := R) (x := (no, s)) (i := i) h)
            have HRC := Lib.hid (fun W k => HRU.out no W k (by have := HR5.out; have := HRM.out; omega))
            have HRI : Hid ((ruI no R = none ∧ ruJ no R = -1) ∨ ∃ i, ruI no R = some i ∧ ruJ no R = (i : Int)) := by
              show _ ∨ _
              unfold ruJ
              cases h : ruI no R
              · exact Or.inl ⟨rfl, rfl⟩
              · exact Or.inr ⟨_, rfl, rfl⟩
            generalize ruJ no R = j at *
            clear hx hql
            go_wp2_with fail
            clear x0 x1
            refine wp_region_noPanic ?_
            refine wp_region_held_drew (S := (fun u => Below wr.heap.size wr u)) (by kernel_rfl) ((Below.refl _ _).drew) (fun hS => ?_)
            refine gv 0 (v := ?_) (fun u hu => ?_) hS ?_
            rotate_left
            · ((obtain ⟨⟨m0, m1⟩, _⟩ := (HQ5.out.below hu).1.cells; obtain ⟨x0, x1, _, _⟩ := obj_cells (HQ5.out.below hu).2.1; obtain ⟨z0, z1⟩ := HCV.out _ (HQ5.out.below hu).1.1); go_simp; try (with_reducible rfl))
            try simp only [puts]
            refine gv 1 (v := ?_) (fun u hu => ?_) hS ?_
            rotate_left
            · ((obtain ⟨⟨m0, m1⟩, _⟩ := (HQ5.out.below hu).1.cells; obtain ⟨x0, x1, _, _⟩ := obj_cells (HQ5.out.below hu).2.1; obtain ⟨z0, z1⟩ := HCV.out _ (HQ5.out.below hu).1.1); go_simp; try (with_reducible rfl))
            try simp only [puts]
            refine gv 2 (v := ?_) (fun u hu => ?_) hS ?_
            rotate_left
            · ((obtain ⟨⟨m0, m1⟩, _⟩ := (HQ5.out.below hu).1.cells; obtain ⟨x0, x1, _, _⟩ := obj_cells (HQ5.out.below hu).2.1; obtain ⟨z0, z1⟩ := HCV.out _ (HQ5.out.below hu).1.1); go_simp; try (with_reducible rfl))
            try simp only [puts]
            refine gv 3 (v := ?_) (fun u hu => ?_) hS ?_
            rotate_left
            · ((obtain ⟨⟨m0, m1⟩, _⟩ := (HQ5.out.below hu).1.cells; obtain ⟨x0, x1, _, _⟩ := obj_cells (HQ5.out.below hu).2.1; obtain ⟨z0, z1⟩ := HCV.out _ (HQ5.out.below hu).1.1); go_simp; try (with_reducible rfl))
            try simp only [puts]
            refine gv 4 (v := ?_) (fun u hu => ?_) hS ?_
            rotate_left
            · ((obtain ⟨⟨m0, m1⟩, _⟩ := (HQ5.out.below hu).1.cells; obtain ⟨x0, x1, _, _⟩ := obj_cells (HQ5.out.below hu).2.1; obtain ⟨z0, z1⟩ := HCV.out _ (HQ5.out.below hu).1.1); go_simp; try (with_reducible rfl))
            try simp only [puts]
            refine gv 5 (v := ?_) (fun u hu => ?_) hS ?_
            rotate_left
            · ((obtain ⟨⟨m0, m1⟩, _⟩ := (HQ5.out.below hu).1.cells; obtain ⟨x0, x1, _, _⟩ := obj_cells (HQ5.out.below hu).2.1; obtain ⟨z0, z1⟩ := HCV.out _ (HQ5.out.below hu).1.1); go_simp; try (with_reducible rfl))
            try simp only [puts]
            refine gv 6 (v := ?_) (fun u hu => ?_) hS ?_
            rotate_left
            · ((obtain ⟨⟨m0, m1⟩, _⟩ := (HQ5.out.below hu).1.cells; obtain ⟨x0, x1, _, _⟩ := obj_cells (HQ5.out.below hu).2.1; obtain ⟨z0, z1⟩ := HCV.out _ (HQ5.out.below hu).1.1); go_simp; try (with_reducible rfl))
            try simp only [puts]
            refine only_call (i := 7) 37 #[.agg #[.slice X nm cM, .slice Y nr cR], .int .i64 no] rfl (by kernel_rfl) (by rfl) ((HRC.out _ (HR.out.below (HQ5.out.below hS).1.1)).mono fun e w' he => ⟨he.1, hbt hS he.2⟩) ?_ ?_
            · (go_simp; try (with_reducible rfl))
            clear hS
            intro w7 hS
            try simp only [puts]
            refine gv 8 (v := ?_) (fun u hu => ?_) hS ?_
            rotate_left
            · ((obtain ⟨⟨m0, m1⟩, _⟩ := (HQ5.out.below hu).1.cells; obtain ⟨x0, x1, _, _⟩ := obj_cells (HQ5.out.below hu).2.1; obtain ⟨z0, z1⟩ := HCV.out _ (HQ5.out.below hu).1.1); go_simp; try (with_reducible rfl))
            try simp only [puts]
            refine wpAnyH_done (by kernel_rfl) (NoPanic.normal ?_) _
            have HQ6 := Lib.hid (HQ5.out.below hS)
            have HN6 := Lib.hid (obj_below HN5.out hS)
            have HO6 := Lib.hid (owns_below HO5.out hS)
            have HZ6 : Hid (Z ≤ _) := Nat.le_trans HZ5.out hS.size
            clear hS HQ5 HN5 HO5 HZ5 HRC
            rename World => W6
            rcases HRI.out with ⟨hri, rfl⟩ | ⟨i, hri, rfl⟩
            · have HYE := Lib.hid (HON.out hri)
              have HED := Lib.hid (HER.out.trans (HEB.out (by rw [HYE.out]; decide)))
              rw [HYE.out] at HED
              have HE := Lib.hid (HX4.out HZ.out HF.out (by trivial) (by rw [HED.out]; show (9 : Int) ≠ 0; decide))
              rw [HED.out] at HE
              clear hri HRI
              go_wp2_with fail
              refine wp_region_noPanic ?_
              refine wp_region_held_drew (S := (RQ3 w m (some aB) n cx)) (by kernel_rfl) ((show RQ3 w m (some aB) n cx W6.drew from ⟨HQ6.out.1.1.drew, HQ6.out.2.1, HN6.out⟩)) (fun hS => ?_)
              refine gv 0 (v := ?_) (fun u hu => ?_) hS ?_
              rotate_left
              · ((obtain ⟨hu1, hu2, hu3⟩ := hu; obtain ⟨x0, x1, _, _⟩ := obj_cells hu2; obtain ⟨y0, y1, _, _⟩ := obj_cells hu3; obtain ⟨z0, z1⟩ := HCV.out _ hu1; clear hu1 hu2 hu3); go_simp; try (with_reducible rfl))
              try simp only [puts]
              refine gv 1 (v := ?_) (fun u hu => ?_) hS ?_
              rotate_left
              · ((obtain ⟨hu1, hu2, hu3⟩ := hu; obtain ⟨x0, x1, _, _⟩ := obj_cells hu2; obtain ⟨y0, y1, _, _⟩ := obj_cells hu3; obtain ⟨z0, z1⟩ := HCV.out _ hu1; clear hu1 hu2 hu3); go_simp; try (with_reducible rfl))
              try simp only [puts]
              refine gv 2 (v := ?_) (fun u hu => ?_) hS ?_
              rotate_left
              · ((obtain ⟨hu1, hu2, hu3⟩ := hu; obtain ⟨x0, x1, _, _⟩ := obj_cells hu2; obtain ⟨y0, y1, _, _⟩ := obj_cells hu3; obtain ⟨z0, z1⟩ := HCV.out _ hu1; clear hu1 hu2 hu3); go_simp; try (with_reducible rfl))
              try simp only [puts]
              refine gv 3 (v := ?_) (fun u hu => ?_) hS ?_
              rotate_left
              · ((obtain ⟨hu1, hu2, hu3⟩ := hu; obtain ⟨x0, x1, _, _⟩ := obj_cells hu2; obtain ⟨y0, y1, _, _⟩ := obj_cells hu3; obtain ⟨z0, z1⟩ := HCV.out _ hu1; clear hu1 hu2 hu3); go_simp; try (with_reducible rfl))
              try simp only [puts]
              refine gv 4 (v := ?_) (fun u hu => ?_) hS ?_
              rotate_left
              · ((obtain ⟨hu1, hu2, hu3⟩ := hu; obtain ⟨x0, x1, _, _⟩ := obj_cells hu2; obtain ⟨y0, y1, _, _⟩ := obj_cells hu3; obtain ⟨z0, z1⟩ := HCV.out _ hu1; clear hu1 hu2 hu3); go_simp; try (with_reducible rfl))
              try simp only [puts]
              refine gv 5 (v := ?_) (fun u hu => ?_) hS ?_
              rotate_left
              · ((obtain ⟨hu1, hu2, hu3⟩ := hu; obtain ⟨x0, x1, _, _⟩ := obj_cells hu2; obtain ⟨y0, y1, _, _⟩ := obj_cells hu3; obtain ⟨z0, z1⟩ := HCV.out _ hu1; clear hu1 hu2 hu3); go_simp; try (with_reducible rfl))
              try simp only [puts]
              refine gv 6 (v := ?_) (fun u hu => ?_) hS ?_
              rotate_left
              · ((obtain ⟨hu1, hu2, hu3⟩ := hu; obtain ⟨x0, x1, _, _⟩ := obj_cells hu2; obtain ⟨y0, y1, _, _⟩ := obj_cells hu3; obtain ⟨z0, z1⟩ := HCV.out _ hu1; clear hu1 hu2 hu3); go_simp; try (with_reducible rfl))
              try simp only [puts]
              refine gv 7 (v := ?_) (fun u hu => ?_) hS ?_
              rotate_left
              · ((obtain ⟨hu1, hu2, hu3⟩ := hu; obtain ⟨x0, x1, _, _⟩ := obj_cells hu2; obtain ⟨y0, y1, _, _⟩ := obj_cells hu3; obtain ⟨z0, z1⟩ := HCV.out _ hu1; clear hu1 hu2 hu3); go_simp; try (with_reducible rfl))
              try simp only [puts]
              obtain ⟨c0, c1, c2, c3⟩ := obj_cells HQ6.out.2.2.1
              have k0 : RQ3 w m (some aB) n cx W6 := ⟨HQ6.out.1.1, HQ6.out.2.1, HN6.out⟩
              refine only (i := 8) rfl (by kernel_rfl) (by rfl) (fun K hK => ?_)
              go_simp
              refine hK.out _ _ (k0.one _ _) ?_
              clear hK
              try simp only [puts]
              obtain ⟨d0, d1, d2, d3⟩ := obj_cells (obj_set_other HQ6.out.2.2.2 (show w.heap.size + 5 ≠ w.heap.size + 4 by omega) (.string ⟨#[]⟩) (.slice none 0 0))
              refine only (i := 9) rfl (by kernel_rfl) (by rfl) (fun K hK => ?_)
              go_simp
              refine hK.out _ _ (k0.two _ _ _ _) ?_
              clear hK
              try simp only [puts]
              refine wpAnyH_done (by kernel_rfl) (NoPanic.normal ?_) _
              go_wp2
              obtain ⟨k1, k2, k3⟩ := HQ6.out.put (.string ⟨#[]⟩) (.slice none 0 0) (.int .i64 9) (.int .i64 no)
              refine bodyPost_ret (results_two rfl _ _ (w.heap.size + 4) (w.heap.size + 5) _ _ _ _ _ _ _ _ rfl k1 rfl k2 Tryz.underlying41 rfl (by kernel_rfl) Tryz.underlying44 rfl (by kernel_rfl)) rfl ?_
              rw [HE.out]
              exact ⟨none, 0, rfl, tlvs_nil _ _, k3.drew⟩
            · have hil := (ruI_some hri).1
              have HY0 := Lib.hid (HOS.out i hri)
              obtain ⟨ra, k, f, t, s', P, Bp, c, rfl, hxr, hcr⟩ := rls_all HR.out hil
              rw [hxr] at HY0
              have HY1 : Hid (xone b R (no, s) = rapN k t s' P b s) := HY0.out
              have HFZ := Lib.hid (HF4.out.at_ hil)
              rw [hxr] at HFZ
              have HCR := Lib.hid hcr
              have HRC := Lib.hid (fun W k1 k2 => HAP.out k f t s' Bp c P s W k1 k2 HFZ.out.2.1 HSS.out)
              have HIN : Hid (i < nr) := by have := HRM.out; show _ < _; omega
              have tj : decide ((i : Int) < 0) = false := by simp
              have hi1 : (i : Int) < 1000 := by have h5 := HR5.out; have h6 : i < nr := HIN.out; omega
              have hi2 : i < nr := HIN.out
              generalize rapN k t s' P b s = Zv at *
              obtain ⟨y1, y2, y3⟩ := Zv
              rw [HY1.out] at HMT HEB HEO
              dsimp only at HMT HEB HEO HRC
              clear hri HRI hxr hcr hil HY0 HON HOS
              generalize P.length = np at *
              go_upto_region 17 with fail
              go_cut [17, 18] (fun s17 s18 wx => ∃ p : Nat, s17 = .pointer (some ⟨p, 0, none⟩) ∧ s18 = .int .i64 y3 ∧ wx.heap[p]? = some (.cells #[.int .i64 y1, .string y2] 53) ∧ Below W6.heap.size W6 wx)
              case first =>
                refine wp_region_noPanic ?_
                refine wp_region_held_drew (S := (fun u => Below W6.heap.size W6 u)) (by kernel_rfl) ((Below.refl _ _).drew) (fun hS => ?_)
                refine gv 0 (v := ?_) (fun u hu => ?_) hS ?_
                rotate_left
                · ((obtain ⟨⟨m0, m1⟩, _, b0, b1, b2⟩ := (HQ6.out.below hu).1.cells; obtain ⟨x0, x1, _, _⟩ := obj_cells (HQ6.out.below hu).2.1; obtain ⟨z0, z1⟩ := HCV.out _ (HQ6.out.below hu).1.1; obtain ⟨⟨r0, r1, r2, r3, r4⟩, _⟩ := HCR.out _ (HQ6.out.below hu).1.1); go_simp; try (with_reducible rfl))
                try simp only [puts]
                refine gv 1 (v := ?_) (fun u hu => ?_) hS ?_
                rotate_left
                · ((obtain ⟨⟨m0, m1⟩, _, b0, b1, b2⟩ := (HQ6.out.below hu).1.cells; obtain ⟨x0, x1, _, _⟩ := obj_cells (HQ6.out.below hu).2.1; obtain ⟨z0, z1⟩ := HCV.out _ (HQ6.out.below hu).1.1; obtain ⟨⟨r0, r1, r2, r3, r4⟩, _⟩ := HCR.out _ (HQ6.out.below hu).1.1); go_simp; try (with_reducible rfl))
                try simp only [puts]
                refine gv 2 (v := ?_) (fun u hu => ?_) hS ?_
                rotate_left
                · ((obtain ⟨⟨m0, m1⟩, _, b0, b1, b2⟩ := (HQ6.out.below hu).1.cells; obtain ⟨x0, x1, _, _⟩ := obj_cells (HQ6.out.below hu).2.1; obtain ⟨z0, z1⟩ := HCV.out _ (HQ6.out.below hu).1.1; obtain ⟨⟨r0, r1, r2, r3, r4⟩, _⟩ := HCR.out _ (HQ6.out.below hu).1.1); go_simp; try (with_reducible rfl))
                try simp only [puts]
                refine gv 3 (v := ?_) (fun u hu => ?_) hS ?_
                rotate_left
                · ((obtain ⟨⟨m0, m1⟩, _, b0, b1, b2⟩ := (HQ6.out.below hu).1.cells; obtain ⟨x0, x1, _, _⟩ := obj_cells (HQ6.out.below hu).2.1; obtain ⟨z0, z1⟩ := HCV.out _ (HQ6.out.below hu).1.1; obtain ⟨⟨r0, r1, r2, r3, r4⟩, _⟩ := HCR.out _ (HQ6.out.below hu).1.1); go_simp; try (with_reducible rfl))
                try simp only [puts]
                refine gv 4 (v := ?_) (fun u hu => ?_) hS ?_
                rotate_left
                · ((obtain ⟨⟨m0, m1⟩, _, b0, b1, b2⟩ := (HQ6.out.below hu).1.cells; obtain ⟨x0, x1, _, _⟩ := obj_cells (HQ6.out.below hu).2.1; obtain ⟨z0, z1⟩ := HCV.out _ (HQ6.out.below hu).1.1; obtain ⟨⟨r0, r1, r2, r3, r4⟩, _⟩ := HCR.out _ (HQ6.out.below hu).1.1); go_simp; try (with_reducible rfl))
                try simp only [puts]
                refine gv 5 (v := ?_) (fun u hu => ?_) hS ?_
                rotate_left
                · ((obtain ⟨⟨m0, m1⟩, _, b0, b1, b2⟩ := (HQ6.out.below hu).1.cells; obtain ⟨x0, x1, _, _⟩ := obj_cells (HQ6.out.below hu).2.1; obtain ⟨z0, z1⟩ := HCV.out _ (HQ6.out.below hu).1.1; obtain ⟨⟨r0, r1, r2, r3, r4⟩, _⟩ := HCR.out _ (HQ6.out.below hu).1.1); go_simp; try (with_reducible rfl))
                try simp only [puts]
                refine gv 6 (v := ?_) (fun u hu => ?_) hS ?_
                rotate_left
                · ((obtain ⟨⟨m0, m1⟩, _, b0, b1, b2⟩ := (HQ6.out.below hu).1.cells; obtain ⟨x0, x1, _, _⟩ := obj_cells (HQ6.out.below hu).2.1; obtain ⟨z0, z1⟩ := HCV.out _ (HQ6.out.below hu).1.1; obtain ⟨⟨r0, r1, r2, r3, r4⟩, _⟩ := HCR.out _ (HQ6.out.below hu).1.1); go_simp; try (with_reducible rfl))
                try simp only [puts]
                refine gv 7 (v := ?_) (fun u hu => ?_) hS ?_
                rotate_left
                · ((obtain ⟨⟨m0, m1⟩, _, b0, b1, b2⟩ := (HQ6.out.below hu).1.cells; obtain ⟨x0, x1, _, _⟩ := obj_cells (HQ6.out.below hu).2.1; obtain ⟨z0, z1⟩ := HCV.out _ (HQ6.out.below hu).1.1; obtain ⟨⟨r0, r1, r2, r3, r4⟩, _⟩ := HCR.out _ (HQ6.out.below hu).1.1); go_simp; try (with_reducible rfl))
                try simp only [puts]
                refine gv 8 (v := ?_) (fun u hu => ?_) hS ?_
                rotate_left
                · ((obtain ⟨⟨m0, m1⟩, _, b0, b1, b2⟩ := (HQ6.out.below hu).1.cells; obtain ⟨x0, x1, _, _⟩ := obj_cells (HQ6.out.below hu).2.1; obtain ⟨z0, z1⟩ := HCV.out _ (HQ6.out.below hu).1.1; obtain ⟨⟨r0, r1, r2, r3, r4⟩, _⟩ := HCR.out _ (HQ6.out.below hu).1.1); go_simp; try (with_reducible rfl))
                try simp only [puts]
                refine gv 9 (v := ?_) (fun u hu => ?_) hS ?_
                rotate_left
                · ((obtain ⟨⟨m0, m1⟩, _, b0, b1, b2⟩ := (HQ6.out.below hu).1.cells; obtain ⟨x0, x1, _, _⟩ := obj_cells (HQ6.out.below hu).2.1; obtain ⟨z0, z1⟩ := HCV.out _ (HQ6.out.below hu).1.1; obtain ⟨⟨r0, r1, r2, r3, r4⟩, _⟩ := HCR.out _ (HQ6.out.below hu).1.1); go_simp; try (with_reducible rfl))
                try simp only [puts]
                refine gv 10 (v := ?_) (fun u hu => ?_) hS ?_
                rotate_left
                · ((obtain ⟨⟨m0, m1⟩, _, b0, b1, b2⟩ := (HQ6.out.below hu).1.cells; obtain ⟨x0, x1, _, _⟩ := obj_cells (HQ6.out.below hu).2.1; obtain ⟨z0, z1⟩ := HCV.out _ (HQ6.out.below hu).1.1; obtain ⟨⟨r0, r1, r2, r3, r4⟩, _⟩ := HCR.out _ (HQ6.out.below hu).1.1); go_simp; try (with_reducible rfl))
                try simp only [puts]
                refine gv 11 (v := ?_) (fun u hu => ?_) hS ?_
                rotate_left
                · ((obtain ⟨⟨m0, m1⟩, _, b0, b1, b2⟩ := (HQ6.out.below hu).1.cells; obtain ⟨x0, x1, _, _⟩ := obj_cells (HQ6.out.below hu).2.1; obtain ⟨z0, z1⟩ := HCV.out _ (HQ6.out.below hu).1.1; obtain ⟨⟨r0, r1, r2, r3, r4⟩, _⟩ := HCR.out _ (HQ6.out.below hu).1.1); go_simp; try (with_reducible rfl))
                try simp only [puts]
                refine wpAnyH_ready (rs := [12, 16]) (by kernel_rfl) (by simp) (arm_call (i := 12) 38 #[.agg #[.int .i64 k, .int .i64 f, .int .i64 t, .string s', .slice Bp np c], .agg #[.int .i64 st', .int .i64 v', .slice A' lb cb], .string s] rfl (by rfl) (HRC.out _ (HCR.out _ (HQ6.out.below hS).1.1).2 (HB.out.below (HQ6.out.below hS).1.1)) ?_ ?_ (arm_alloc (i := 16) (.cells #[.int .i64 0, .string ⟨#[]⟩] 53) rfl (by rfl) ?_ ?_ AllReadyH.nil))
                · (go_simp; try (with_reducible rfl))
                · intro u' hb
                  have hS' : (fun u => Below W6.heap.size W6 u) u' := hbt hS hb
                  refine ⟨hS', ?_⟩
                  clear hS hb
                  have hS := hS'; clear hS'
                  rename World => u
                  try simp only [puts]
                  refine gv 13 (v := ?_) (fun u hu => ?_) hS ?_
                  rotate_left
                  · ((obtain ⟨⟨m0, m1⟩, _, b0, b1, b2⟩ := (HQ6.out.below hu).1.cells; obtain ⟨x0, x1, _, _⟩ := obj_cells (HQ6.out.below hu).2.1; obtain ⟨z0, z1⟩ := HCV.out _ (HQ6.out.below hu).1.1; obtain ⟨⟨r0, r1, r2, r3, r4⟩, _⟩ := HCR.out _ (HQ6.out.below hu).1.1); go_simp; try (with_reducible rfl))
                  try simp only [puts]
                  refine gv 14 (v := ?_) (fun u hu => ?_) hS ?_
                  rotate_left
                  · ((obtain ⟨⟨m0, m1⟩, _, b0, b1, b2⟩ := (HQ6.out.below hu).1.cells; obtain ⟨x0, x1, _, _⟩ := obj_cells (HQ6.out.below hu).2.1; obtain ⟨z0, z1⟩ := HCV.out _ (HQ6.out.below hu).1.1; obtain ⟨⟨r0, r1, r2, r3, r4⟩, _⟩ := HCR.out _ (HQ6.out.below hu).1.1); go_simp; try (with_reducible rfl))
                  try simp only [puts]
                  refine gv 15 (v := ?_) (fun u hu => ?_) hS ?_
                  rotate_left
                  · ((obtain ⟨⟨m0, m1⟩, _, b0, b1, b2⟩ := (HQ6.out.below hu).1.cells; obtain ⟨x0, x1, _, _⟩ := obj_cells (HQ6.out.below hu).2.1; obtain ⟨z0, z1⟩ := HCV.out _ (HQ6.out.below hu).1.1; obtain ⟨⟨r0, r1, r2, r3, r4⟩, _⟩ := HCR.out _ (HQ6.out.below hu).1.1); go_simp; try (with_reducible rfl))
                  try simp only [puts]
                  refine wpAnyH_ready (rs := [16]) (by kernel_rfl) (by simp) (arm_alloc (i := 16) (.cells #[.int .i64 0, .string ⟨#[]⟩] 53) rfl (by rfl) ?_ ?_ AllReadyH.nil)
                  · (go_simp; try (with_reducible rfl))
                  · intro p16 u' hb ho16 hp16
                    replace hp16 := Nat.le_trans (hS.size) hp16
                    have hS' : (fun u => Below W6.heap.size W6 u) u' := hbt hS hb
                    refine ⟨hS', ?_⟩
                    clear hS hb
                    have hS := hS'; clear hS'
                    rename World => u
                    try simp only [puts]
                    obtain ⟨d0, d1, f0, f1⟩ := obj_cells ho16
                    have hr16 := obj_set2 ho16 (.int .i64 y1) (.string y2)
                    have hS4 : Below W6.heap.size W6 _ := below_set2 hS hp16 (.int .i64 y1) (.string y2)
                    refine only (i := 17) rfl (by kernel_rfl) (by rfl) (fun K hK => ?_)
                    go_simp
                    refine hK.out _ _ hS4 ?_
                    clear hK
                    try simp only [puts]
                    clear hS
                    have hS := hS4
                    refine gv 18 (v := ?_) (fun u hu => ?_) hS ?_
                    rotate_left
                    · ((obtain ⟨⟨m0, m1⟩, _, b0, b1, b2⟩ := (HQ6.out.below hu).1.cells; obtain ⟨x0, x1, _, _⟩ := obj_cells (HQ6.out.below hu).2.1; obtain ⟨z0, z1⟩ := HCV.out _ (HQ6.out.below hu).1.1; obtain ⟨⟨r0, r1, r2, r3, r4⟩, _⟩ := HCR.out _ (HQ6.out.below hu).1.1); go_simp; try (with_reducible rfl))
                    try simp only [puts]
                    refine wpAnyH_done (by kernel_rfl) (NoPanic.normal ?_) _
                    go_wp2_with fail
                    go_meet
                    exact ⟨p16, rfl, rfl, hr16, hS4⟩
                · (go_simp; try (with_reducible rfl))
                · intro p16 u' hb ho16 hp16
                  replace hp16 := Nat.le_trans (hS.size) hp16
                  have hS' : (fun u => Below W6.heap.size W6 u) u' := hbt hS hb
                  refine ⟨hS', ?_⟩
                  clear hS hb
                  have hS := hS'; clear hS'
                  rename World => u
                  try simp only [puts]
                  refine wpAnyH_ready (rs := [12]) (by kernel_rfl) (by simp) (arm_call (i := 12) 38 #[.agg #[.int .i64 k, .int .i64 f, .int .i64 t, .string s', .slice Bp np c], .agg #[.int .i64 st', .int .i64 v', .slice A' lb cb], .string s] rfl (by rfl) (HRC.out _ (HCR.out _ (HQ6.out.below hS).1.1).2 (HB.out.below (HQ6.out.below hS).1.1)) ?_ ?_ AllReadyH.nil)
                  · (go_simp; try (with_reducible rfl))
                  · intro u' hb
                    have hS' : (fun u => Below W6.heap.size W6 u) u' := hbt hS hb
                    refine ⟨hS', ?_⟩
                    replace ho16 := obj_below ho16 hb
                    clear hS hb
                    have hS := hS'; clear hS'
                    rename World => u
                    try simp only [puts]
                    refine gv 13 (v := ?_) (fun u hu => ?_) hS ?_
                    rotate_left
                    · ((obtain ⟨⟨m0, m1⟩, _, b0, b1, b2⟩ := (HQ6.out.below hu).1.cells; obtain ⟨x0, x1, _, _⟩ := obj_cells (HQ6.out.below hu).2.1; obtain ⟨z0, z1⟩ := HCV.out _ (HQ6.out.below hu).1.1; obtain ⟨⟨r0, r1, r2, r3, r4⟩, _⟩ := HCR.out _ (HQ6.out.below hu).1.1); go_simp; try (with_reducible rfl))
                    try simp only [puts]
                    refine gv 14 (v := ?_) (fun u hu => ?_) hS ?_
                    rotate_left
                    · ((obtain ⟨⟨m0, m1⟩, _, b0, b1, b2⟩ := (HQ6.out.below hu).1.cells; obtain ⟨x0, x1, _, _⟩ := obj_cells (HQ6.out.below hu).2.1; obtain ⟨z0, z1⟩ := HCV.out _ (HQ6.out.below hu).1.1; obtain ⟨⟨r0, r1, r2, r3, r4⟩, _⟩ := HCR.out _ (HQ6.out.below hu).1.1); go_simp; try (with_reducible rfl))
                    try simp only [puts]
                    refine gv 15 (v := ?_) (fun u hu => ?_) hS ?_
                    rotate_left
                    · ((obtain ⟨⟨m0, m1⟩, _, b0, b1, b2⟩ := (HQ6.out.below hu).1.cells; obtain ⟨x0, x1, _, _⟩ := obj_cells (HQ6.out.below hu).2.1; obtain ⟨z0, z1⟩ := HCV.out _ (HQ6.out.below hu).1.1; obtain ⟨⟨r0, r1, r2, r3, r4⟩, _⟩ := HCR.out _ (HQ6.out.below hu).1.1); go_simp; try (with_reducible rfl))
                    try simp only [puts]
                    obtain ⟨d0, d1, f0, f1⟩ := obj_cells ho16
                    have hr16 := obj_set2 ho16 (.int .i64 y1) (.string y2)
                    have hS4 : Below W6.heap.size W6 _ := below_set2 hS hp16 (.int .i64 y1) (.string y2)
                    refine only (i := 17) rfl (by kernel_rfl) (by rfl) (fun K hK => ?_)
                    go_simp
                    refine hK.out _ _ hS4 ?_
                    clear hK
                    try simp only [puts]
                    clear hS
                    have hS := hS4
                    refine gv 18 (v := ?_) (fun u hu => ?_) hS ?_
                    rotate_left
                    · ((obtain ⟨⟨m0, m1⟩, _, b0, b1, b2⟩ := (HQ6.out.below hu).1.cells; obtain ⟨x0, x1, _, _⟩ := obj_cells (HQ6.out.below hu).2.1; obtain ⟨z0, z1⟩ := HCV.out _ (HQ6.out.below hu).1.1; obtain ⟨⟨r0, r1, r2, r3, r4⟩, _⟩ := HCR.out _ (HQ6.out.below hu).1.1); go_simp; try (with_reducible rfl))
                    try simp only [puts]
                    refine wpAnyH_done (by kernel_rfl) (NoPanic.normal ?_) _
                    go_wp2_with fail
                    go_meet
                    exact ⟨p16, rfl, rfl, hr16, hS4⟩
              case rest =>
                obtain ⟨p, rfl, rfl, hp, hb⟩ := hcut
                have HQ7 := Lib.hid (HQ6.out.below hb)
                have HN7 := Lib.hid (obj_below HN6.out hb)
                have HO7 := Lib.hid (owns_below HO6.out hb)
                have HZ7 : Hid (Z ≤ wc.heap.size) := Nat.le_trans HZ6.out hb.size
                have HP7 := Lib.hid hp
                clear hp hb HQ6 HN6 HO6 HZ6 HRC hi1 hi2 tj
                generalize wc = W7 at *
                by_cases hy : y3 = 0
                · have HED := Lib.hid (HER.out.trans (HEO.out hy))
                  subst hy
                  obtain ⟨n0, n1, _, _⟩ := obj_cells HP7.out
                  go_wp2_with (at_builtin; refine wpList_append_lies _ rfl _ _ _ rfl Z 53 i0 _ 2 24 Tryz.underlying39 hi hz0 hz1 hz2 rfl (by omega) (.slice (some ⟨g, 0, none⟩) q cp) q (itemsC (xmade b R (l.take q))) rfl (HO7.out.alloc _) ⟨W7.heap.size, 0, none⟩ 1 1 (itemC (y1, y2)) rfl rfl (World.news_of_block (cs := #[.int .i64 y1, .string y2]) (t := 53) (fr := (0, 0)) (heap_alloc_new W7 _)) (by simp [itemC, Value.oneCell']) (by omega) (by unfold maxLen; omega) (by omega) (by have := HZ7.out; simp; omega) (W7.heap.size + 1) (by simp) ?_; intro g' cap' w8 hown8 hgrow8 hat8 hlt8; have hbB : Below Z W7 w8 := ((Below.refl _ _).alloc HZ7.out _).grown hgrow8 (by have := HZ7.out; simp; omega) (fun q hq => (HO7.out.lt q hq).1); have HO8 := Lib.hid hown8; have HQ8 := Lib.hid (HQ7.out.keep hbB (by have := HUZ.out; omega)); have HN8 : Hid (MBox w8 (w.heap.size + 6) ⟨#[]⟩ none 0 0) := (hbB.block _ (by have := HUZ.out; omega)).trans HN7.out; have HZ8 : Hid (Z ≤ w8.heap.size) := Nat.le_trans HZ7.out hbB.size; clear hown8 hgrow8 hat8 hlt8 hbB)
                  go_roundw
                  case rel => exact ⟨q + 1, g', cap', by omega, rfl, by go_num, HZ8.out, HQ8.out, HN8.out, by rw [HMT.out, itemsC_snoc]; exact HO8.out, HED.out⟩
                  case measure => simp [intOf]; omega
                · have HED := Lib.hid (HER.out.trans (HEB.out hy))
                  have HE := Lib.hid (HX4.out HZ.out HF.out (by trivial) (by rw [HED.out]; exact hy))
                  rw [HED.out] at HE
                  have ty : (y3 != 0) = true := by simpa using hy
                  clear hy
                  go_wp2_with fail
                  refine wp_region_noPanic ?_
                  refine wp_region_held_drew (S := (RQ3 w m (some aB) n cx)) (by kernel_rfl) ((show RQ3 w m (some aB) n cx W7.drew from ⟨HQ7.out.1.1.drew, HQ7.out.2.1, HN7.out⟩)) (fun hS => ?_)
                  refine gv 0 (v := ?_) (fun u hu => ?_) hS ?_
                  rotate_left
                  · ((obtain ⟨hu1, hu2, hu3⟩ := hu; obtain ⟨x0, x1, _, _⟩ := obj_cells hu2; obtain ⟨y0, y1, _, _⟩ := obj_cells hu3; obtain ⟨z0, z1⟩ := HCV.out _ hu1; clear hu1 hu2 hu3); go_simp; try (with_reducible rfl))
                  try simp only [puts]
                  refine gv 1 (v := ?_) (fun u hu => ?_) hS ?_
                  rotate_left
                  · ((obtain ⟨hu1, hu2, hu3⟩ := hu; obtain ⟨x0, x1, _, _⟩ := obj_cells hu2; obtain ⟨y0, y1, _, _⟩ := obj_cells hu3; obtain ⟨z0, z1⟩ := HCV.out _ hu1; clear hu1 hu2 hu3); go_simp; try (with_reducible rfl))
                  try simp only [puts]
                  refine gv 2 (v := ?_) (fun u hu => ?_) hS ?_
                  rotate_left
                  · ((obtain ⟨hu1, hu2, hu3⟩ := hu; obtain ⟨x0, x1, _, _⟩ := obj_cells hu2; obtain ⟨y0, y1, _, _⟩ := obj_cells hu3; obtain ⟨z0, z1⟩ := HCV.out _ hu1; clear hu1 hu2 hu3); go_simp; try (with_reducible rfl))
                  try simp only [puts]
                  refine gv 3 (v := ?_) (fun u hu => ?_) hS ?_
                  rotate_left
                  · ((obtain ⟨hu1, hu2, hu3⟩ := hu; obtain ⟨x0, x1, _, _⟩ := obj_cells hu2; obtain ⟨y0, y1, _, _⟩ := obj_cells hu3; obtain ⟨z0, z1⟩ := HCV.out _ hu1; clear hu1 hu2 hu3); go_simp; try (with_reducible rfl))
                  try simp only [puts]
                  refine gv 4 (v := ?_) (fun u hu => ?_) hS ?_
                  rotate_left
                  · ((obtain ⟨hu1, hu2, hu3⟩ := hu; obtain ⟨x0, x1, _, _⟩ := obj_cells hu2; obtain ⟨y0, y1, _, _⟩ := obj_cells hu3; obtain ⟨z0, z1⟩ := HCV.out _ hu1; clear hu1 hu2 hu3); go_simp; try (with_reducible rfl))
                  try simp only [puts]
                  refine gv 5 (v := ?_) (fun u hu => ?_) hS ?_
                  rotate_left
                  · ((obtain ⟨hu1, hu2, hu3⟩ := hu; obtain ⟨x0, x1, _, _⟩ := obj_cells hu2; obtain ⟨y0, y1, _, _⟩ := obj_cells hu3; obtain ⟨z0, z1⟩ := HCV.out _ hu1; clear hu1 hu2 hu3); go_simp; try (with_reducible rfl))
                  try simp only [puts]
                  refine gv 6 (v := ?_) (fun u hu => ?_) hS ?_
                  rotate_left
                  · ((obtain ⟨hu1, hu2, hu3⟩ := hu; obtain ⟨x0, x1, _, _⟩ := obj_cells hu2; obtain ⟨y0, y1, _, _⟩ := obj_cells hu3; obtain ⟨z0, z1⟩ := HCV.out _ hu1; clear hu1 hu2 hu3); go_simp; try (with_reducible rfl))
                  try simp only [puts]
                  refine gv 7 (v := ?_) (fun u hu => ?_) hS ?_
                  rotate_left
                  · ((obtain ⟨hu1, hu2, hu3⟩ := hu; obtain ⟨x0, x1, _, _⟩ := obj_cells hu2; obtain ⟨y0, y1, _, _⟩ := obj_cells hu3; obtain ⟨z0, z1⟩ := HCV.out _ hu1; clear hu1 hu2 hu3); go_simp; try (with_reducible rfl))
                  try simp only [puts]
                  refine gv 8 (v := ?_) (fun u hu => ?_) hS ?_
                  rotate_left
                  · ((obtain ⟨hu1, hu2, hu3⟩ := hu; obtain ⟨x0, x1, _, _⟩ := obj_cells hu2; obtain ⟨y0, y1, _, _⟩ := obj_cells hu3; obtain ⟨z0, z1⟩ := HCV.out _ hu1; clear hu1 hu2 hu3); go_simp; try (with_reducible rfl))
                  try simp only [puts]
                  obtain ⟨c0, c1, c2, c3⟩ := obj_cells HQ7.out.2.2.1
                  have k0 : RQ3 w m (some aB) n cx W7 := ⟨HQ7.out.1.1, HQ7.out.2.1, HN7.out⟩
                  refine only (i := 9) rfl (by kernel_rfl) (by rfl) (fun K hK => ?_)
                  go_simp
                  refine hK.out _ _ (k0.one _ _) ?_
                  clear hK
                  try simp only [puts]
                  obtain ⟨d0, d1, d2, d3⟩ := obj_cells (obj_set_other HQ7.out.2.2.2 (show w.heap.size + 5 ≠ w.heap.size + 4 by omega) (.string ⟨#[]⟩) (.slice none 0 0))
                  refine only (i := 10) rfl (by kernel_rfl) (by rfl) (fun K hK => ?_)
                  go_simp
                  refine hK.out _ _ (k0.two _ _ _ _) ?_
                  clear hK
                  try simp only [puts]
                  refine wpAnyH_done (by kernel_rfl) (NoPanic.normal ?_) _
                  go_wp2
                  obtain ⟨k1, k2, k3⟩ := HQ7.out.put (.string ⟨#[]⟩) (.slice none 0 0) (.int .i64 y3) (.int .i64 no)
                  refine bodyPost_ret (results_two rfl _ _ (w.heap.size + 4) (w.heap.size + 5) _ _ _ _ _ _ _ _ rfl k1 rfl k2 Tryz.underlying41 rfl (by kernel_rfl) Tryz.underlying44 rfl (by kernel_rfl)) rfl ?_
                  rw [HE.out]
                  exact ⟨none, 0, rfl, tlvs_nil _ _, k3.drew⟩
          · have hqn : q = n := by omega
            subst hqn
            have hall : l.take q = l := items_all (by have := HLN.out; omega)
            have HED := Lib.hid (HER.out.trans (err_end (b := b) (R := R) (l := l) (i := q) (by have := HLN.out; omega)))
            have HE := Lib.hid (HX5.out HZ.out HF.out (by trivial) (by rw [HED.out]))
            rw [hall] at HO5
            clear hall HER HED HX4 HX3 HX2 HX1 HAP HRU
            have HL5 : Hid ((xmade b R l ++ xcon (R.take 0)).length = q) := by show _ = _; simp [xcon, made_len, HLN.out]
            have HO6 : Hid (wr.ownsRow Z 53 2 (.slice (some ⟨g, 0, none⟩) q cp) q (itemsC (xmade b R l ++ xcon (R.take 0)))) := by show World.ownsRow _ _ _ _ _ _ _; simpa [xcon] using HO5.out
            go_wp2_with fail
            clear x0 x1
            go_loopw [14, 19] (fun vv i wr => ∃ (p g cp N : Nat), p ≤ nr ∧ vv = .slice (some ⟨g, 0, none⟩) N cp ∧ i = .int .i64 (p : Int) ∧ N ≤ q + p ∧ (xmade b R l ++ xcon (R.take p)).length = N ∧ Z ≤ wr.heap.size ∧ TQ w X nm cM Y nr cR st v A la ca st' v' A' lb cb m B q cx wr ∧ wr.ownsRow Z 53 2 (.slice (some ⟨g, 0, none⟩) N cp) N (itemsC (xmade b R l ++ xcon (R.take p)))) (fun _ i _ => nr - (intOf i).toNat)
            case atStart => exact ⟨0, g, cp, q, Nat.zero_le _, rfl, rfl, Nat.le_refl _, HL5.out, HZ5.out, HQ5.out, HO6.out⟩
            case round =>
              obtain ⟨p, g2, cp2, N, hp, rfl, rfl, hNp, hN, hzs, hQ, hO⟩ := hrel
              have HNN := Lib.hid hN
              have HNP := Lib.hid hNp
              have HZ6 := Lib.hid hzs
              have HQ6 := Lib.hid hQ
              have HO7 := Lib.hid hO
              have hN5 : N ≤ 1000 := by have := HR5.out; have := HRM.out; omega
              have hp5 : (p : Int) < 1000 := by have := HR5.out; have := HRM.out; omega
              clear hN hzs hQ hO HL5 HO6 HQ5 HO5 HZ5 hNp
              obtain ⟨⟨m0, m1⟩, _⟩ := HQ6.out.1.cells
              by_cases hlt2 : p < nr
              · have hpl : p < R.length := by have := HRM.out; omega
                obtain ⟨ra, k, f, t, s', P, Bp, c, rfl, hxr, hcr⟩ := rls_all HR.out hpl
                have HCT := Lib.hid (con_take hpl)
                rw [hxr] at HCT
                have HCR := Lib.hid hcr
                obtain ⟨⟨r0, r1, r2, r3, r4⟩, _⟩ := hcr _ HQ6.out.1.1
                clear hxr hcr hpl
                generalize P.length = np at *
                by_cases hk : k = 3
                · subst hk
                  have HST : Hid (xmade b R l ++ xcon (R.take (p + 1)) = xmade b R l ++ xcon (R.take p) ++ [(t, s')]) := by show _ = _; rw [HCT.out, if_pos rfl, List.append_assoc]
                  have HO8 := Lib.hid (HO7.out.alloc (.cells #[.int .i64 t, .string s'] 53))
                  have HB8 := Lib.hid (hbt HQ6.out.1.1 (below_al wr (.cells #[.int .i64 t, .string s'] 53)))
                  have HZ8 : Hid (Z ≤ (wr.alloc (.cells #[.int .i64 t, .string s'] 53)).heap.size) := Nat.le_trans HZ6.out (below_al wr (.cells #[.int .i64 t, .string s'] 53)).size
                  have HMM : Hid (∀ u, Below wr.heap.size wr u → MpBox u w.heap.size X nm cM (some ra) nr cR) := fun u hu => HQ6.out.1.2.1.below hu
                  generalize hV : xmade b R l ++ xcon (R.take p) = V at *
                  clear HCT hV
                  go_wp2_with fail
                  clear m0 m1 r0 r1 r2 r3 r4
                  refine wp_region_noPanic ?_
                  refine wp_region_held_drew (S := (fun u => Below w.heap.size w u ∧ MpBox u w.heap.size X nm cM (some ra) nr cR)) (by kernel_rfl) (⟨HQ6.out.1.1.drew, HQ6.out.1.2.1⟩) (fun hS => ?_)
                  refine gv 0 (v := ?_) (fun u hu => ?_) hS ?_
                  rotate_left
                  · ((obtain ⟨m0, m1, _, _⟩ := obj_cells hu.2; obtain ⟨⟨r0, r1, r2, r3, r4⟩, _⟩ := HCR.out _ hu.1); go_simp; try (with_reducible rfl))
                  try simp only [puts]
                  refine gv 1 (v := ?_) (fun u hu => ?_) hS ?_
                  rotate_left
                  · ((obtain ⟨m0, m1, _, _⟩ := obj_cells hu.2; obtain ⟨⟨r0, r1, r2, r3, r4⟩, _⟩ := HCR.out _ hu.1); go_simp; try (with_reducible rfl))
                  try simp only [puts]
                  refine gv 2 (v := ?_) (fun u hu => ?_) hS ?_
                  rotate_left
                  · ((obtain ⟨m0, m1, _, _⟩ := obj_cells hu.2; obtain ⟨⟨r0, r1, r2, r3, r4⟩, _⟩ := HCR.out _ hu.1); go_simp; try (with_reducible rfl))
                  try simp only [puts]
                  refine gv 3 (v := ?_) (fun u hu => ?_) hS ?_
                  rotate_left
                  · ((obtain ⟨m0, m1, _, _⟩ := obj_cells hu.2; obtain ⟨⟨r0, r1, r2, r3, r4⟩, _⟩ := HCR.out _ hu.1); go_simp; try (with_reducible rfl))
                  try simp only [puts]
                  refine gv 4 (v := ?_) (fun u hu => ?_) hS ?_
                  rotate_left
                  · ((obtain ⟨m0, m1, _, _⟩ := obj_cells hu.2; obtain ⟨⟨r0, r1, r2, r3, r4⟩, _⟩ := HCR.out _ hu.1); go_simp; try (with_reducible rfl))
                  try simp only [puts]
                  refine gv 5 (v := ?_) (fun u hu => ?_) hS ?_
                  rotate_left
                  · ((obtain ⟨m0, m1, _, _⟩ := obj_cells hu.2; obtain ⟨⟨r0, r1, r2, r3, r4⟩, _⟩ := HCR.out _ hu.1); go_simp; try (with_reducible rfl))
                  try simp only [puts]
                  refine gv 6 (v := ?_) (fun u hu => ?_) hS ?_
                  rotate_left
                  · ((obtain ⟨m0, m1, _, _⟩ := obj_cells hu.2; obtain ⟨⟨r0, r1, r2, r3, r4⟩, _⟩ := HCR.out _ hu.1); go_simp; try (with_reducible rfl))
                  try simp only [puts]
                  refine gv 7 (v := ?_) (fun u hu => ?_) hS ?_
                  rotate_left
                  · ((obtain ⟨m0, m1, _, _⟩ := obj_cells hu.2; obtain ⟨⟨r0, r1, r2, r3, r4⟩, _⟩ := HCR.out _ hu.1); go_simp; try (with_reducible rfl))
                  try simp only [puts]
                  refine gv 8 (v := ?_) (fun u hu => ?_) hS ?_
                  rotate_left
                  · ((obtain ⟨m0, m1, _, _⟩ := obj_cells hu.2; obtain ⟨⟨r0, r1, r2, r3, r4⟩, _⟩ := HCR.out _ hu.1); go_simp; try (with_reducible rfl))
                  try simp only [puts]
                  refine gv 9 (v := ?_) (fun u hu => ?_) hS ?_
                  rotate_left
                  · ((obtain ⟨m0, m1, _, _⟩ := obj_cells hu.2; obtain ⟨⟨r0, r1, r2, r3, r4⟩, _⟩ := HCR.out _ hu.1); go_simp; try (with_reducible rfl))
                  try simp only [puts]
                  refine gv 10 (v := ?_) (fun u hu => ?_) hS ?_
                  rotate_left
                  · ((obtain ⟨m0, m1, _, _⟩ := obj_cells hu.2; obtain ⟨⟨r0, r1, r2, r3, r4⟩, _⟩ := HCR.out _ hu.1); go_simp; try (with_reducible rfl))
                  try simp only [puts]
                  refine gv 11 (v := ?_) (fun u hu => ?_) hS ?_
                  rotate_left
                  · ((obtain ⟨m0, m1, _, _⟩ := obj_cells hu.2; obtain ⟨⟨r0, r1, r2, r3, r4⟩, _⟩ := HCR.out _ hu.1); go_simp; try (with_reducible rfl))
                  try simp only [puts]
                  refine gv 12 (v := ?_) (fun u hu => ?_) hS ?_
                  rotate_left
                  · ((obtain ⟨m0, m1, _, _⟩ := obj_cells hu.2; obtain ⟨⟨r0, r1, r2, r3, r4⟩, _⟩ := HCR.out _ hu.1); go_simp; try (with_reducible rfl))
                  try simp only [puts]
                  refine gv 13 (v := ?_) (fun u hu => ?_) hS ?_
                  rotate_left
                  · ((obtain ⟨m0, m1, _, _⟩ := obj_cells hu.2; obtain ⟨⟨r0, r1, r2, r3, r4⟩, _⟩ := HCR.out _ hu.1); go_simp; try (with_reducible rfl))
                  try simp only [puts]
                  refine only (i := 14) rfl (by kernel_rfl) (by rfl) (fun K hK => ?_)
                  go_simp
                  refine hK.out _ _ ⟨HB8.out.drew, HMM.out _ (below_al _ _).drew⟩ ?_
                  clear hK
                  try simp only [puts]
                  refine only (i := 15) rfl (by kernel_rfl) (by rfl) (fun K hK => ?_)
                  refine wp_append_lies _ _ _ _ (by rfl) Z 53 i0 _ 2 24 Tryz.underlying39 hi hz0 hz1 hz2 rfl (by omega) _ N (itemsC V) (by rfl) (HO8.out.drew) ⟨wr.heap.size, 0, none⟩ 1 1 (itemC (t, s')) (by rfl) (by rfl) (World.news_of_block (cs := #[.int .i64 t, .string s']) (t := 53) (fr := (0, 0)) (heap_alloc_new wr _)) (by simp [itemC, Value.oneCell']) (by omega) (by unfold maxLen; omega) (by omega) (by exact HZ8.out) (wr.heap.size + 1) (by simp) ?_
                  intro g' cap' w9 hown9 hgrow9 hat9 hlt9
                  have hbB : Below Z wr w9 := (((Below.refl _ _).alloc HZ6.out _).drew).grown hgrow9 HZ8.out (fun q hq => (HO8.out.lt q hq).1)
                  have HO9 := Lib.hid hown9
                  have HQ9 := Lib.hid (HQ6.out.keep hbB (by have := HUZ.out; omega))
                  have HZ9 : Hid (Z ≤ w9.heap.size) := Nat.le_trans HZ6.out hbB.size
                  clear hown9 hgrow9 hat9 hlt9 hbB
                  refine hK.out _ _ ⟨HQ9.out.1.1, HQ9.out.1.2.1⟩ ?_
                  clear hK
                  try simp only [puts]
                  clear hS
                  have hS : Below w.heap.size w w9 ∧ MpBox w9 w.heap.size X nm cM (some ra) nr cR := ⟨HQ9.out.1.1, HQ9.out.1.2.1⟩
                  refine gv 16 (v := ?_) (fun u hu => ?_) hS ?_
                  rotate_left
                  · ((obtain ⟨m0, m1, _, _⟩ := obj_cells hu.2; obtain ⟨⟨r0, r1, r2, r3, r4⟩, _⟩ := HCR.out _ hu.1); go_simp; try (with_reducible rfl))
                  try simp only [puts]
                  refine wpAnyH_done (by kernel_rfl) (NoPanic.normal ?_) _
                  clear hS
                  go_wp2
                  go_roundw
                  case rel => exact ⟨p + 1, g', cap', N + 1, by omega, rfl, by go_num, by have := HNP.out; omega, by rw [HST.out, List.length_append, HNN.out]; rfl, HZ9.out, HQ9.out, by rw [HST.out, itemsC_snoc]; exact HO9.out⟩
                  case measure => simp [intOf]; omega
                · have tk : (k == 3) = false := by simpa using hk
                  have HST : Hid (xcon (R.take (p + 1)) = xcon (R.take p)) := by show _ = _; rw [HCT.out, if_neg hk, List.append_nil]
                  clear hk HCT
                  go_wp2
                  go_roundw
                  case rel => exact ⟨p + 1, g2, cp2, N, by omega, rfl, by go_num, by have := HNP.out; omega, by rw [HST.out]; exact HNN.out, HZ6.out, HQ6.out, by rw [HST.out]; exact HO7.out⟩
                  case measure => simp [intOf]; omega
              · have hcon := con_all (R := R) (i := p) (by have := HRM.out; omega)
                rw [hcon] at HNN HO7
                have HBU := Lib.hid (below_al wr (.cells #[.string mo, .slice none 0 0] 41))
                have HQU := Lib.hid (HQ6.out.below HBU.out)
                have HGU : Hid (MBox (wr.alloc (.cells #[.string mo, .slice none 0 0] 41)) wr.heap.size mo none 0 0) := mbox_new _ _ _ _ _
                have HTU := Lib.hid ((vals_own_at HO7.out HNN.out.symm).below HBU.out)
                have HGZ : Hid (w.heap.size + 7 ≤ wr.heap.size) := by have := HZ6.out; have := HUZ.out; show _ ≤ _; omega
                clear hcon HBU HQ6 HO7 HNP
                generalize xmade b R l ++ xcon R = V at *
                go_wp2_with fail
                clear m0 m1
                generalize wr.alloc (.cells #[.string mo, .slice none 0 0] 41) = U at *
                generalize wr.heap.size = go at *
                have HGL := Lib.hid (obj_lt HGU.out)
                have HWU := Lib.hid HQU.out.1.1.size
                go_loopw [21] (fun i wr => ∃ no : Nat, 2 ≤ no ∧ no ≤ 129 ∧ i = .int .i64 (no : Int) ∧ MWants w U go mo (sortTo (no - 2) V) wr) (fun i _ => 200 - (intOf i).toNat)
                case atStart => exact ⟨2, Nat.le_refl _, by omega, rfl, mwants_new HGU.out HQU.out.1.1⟩
                case round =>
                  obtain ⟨no, hn2, hn9, rfl, hW⟩ := hrel
                  have HW := Lib.hid hW
                  clear hW
                  by_cases hlt3 : no ≤ 128
                  · have tn : decide ((no : Int) ≤ 128) = true := by simp; omega
                    have HN3 : Hid (2 ≤ no ∧ no ≤ 128) := ⟨hn2, hlt3⟩
                    have HSE : Hid (sortTo (no - 2) V ++ numL1 (no : Int) (V.take 0) = sortTo (no - 2) V) := by show _ = _; simp [numL1]
                    have hno : (no : Int) < 1000 := by omega
                    clear hlt3 hn2 hn9
                    go_wp2_with fail
                    clear tn
                    go_loopw [22] (fun i wr => ∃ k : Nat, k ≤ N ∧ i = .int .i64 (k : Int) ∧ MWants w U go mo (sortTo (no - 2) V ++ numL1 (no : Int) (V.take k)) wr) (fun i _ => N - (intOf i).toNat)
                    case atStart => exact ⟨0, Nat.zero_le _, rfl, by rw [HSE.out]; exact HW.out⟩
                    case round =>
                      obtain ⟨k, hk, rfl, Yl, cl, hbox, hown, hkeep, hb⟩ := hrel
                      have HX := Lib.hid hbox
                      have HO := Lib.hid hown
                      have HK := Lib.hid hkeep
                      have HBB := Lib.hid hb
                      have HT := Lib.hid (hkeep.vals HTU.out HGU.out)
                      clear hbox hown hkeep hb HSE HW
                      by_cases hlt4 : k < N
                      · have hkl : k < V.length := by have := HNN.out; omega
                        obtain ⟨av, xn, xs, hav, hx, c0, c1⟩ := HT.out.at_ hkl
                        injection hav with hav
                        subst hav
                        have had : ((⟨g2, 0, none⟩ : Addr).add (k * 2)) = ⟨g2, k * 2, none⟩ := by rw [Addr.add_lit, Nat.zero_add]
                        rw [had] at c0 c1
                        have hst := num_take (no := (no : Int)) hkl
                        have hbl : (sortTo (no - 2) V ++ numL1 (no : Int) (V.take k)).length ≤ 200000 := by
                          have h1 := sort_len V (no - 2)
                          have h2 := num_take_len (no : Int) V k
                          have h3 : (no - 2) * V.length ≤ 127 * V.length := Nat.mul_le_mul_right _ (by have := HN3.out.2; omega)
                          rw [List.length_append]
                          have := HNN.out
                          omega
                        have HIT := Lib.hid hx
                        have HKL := Lib.hid hkl
                        rw [hx] at hst
                        clear hx hkl
                        by_cases hz3 : xn = (no : Int)
                        · subst hz3
                          have HST : Hid (sortTo (no - 2) V ++ numL1 (no : Int) (V.take (k + 1)) = sortTo (no - 2) V ++ numL1 (no : Int) (V.take k) ++ [((no : Int), xs)]) := by show _ = _; rw [hst, if_pos rfl, List.append_assoc]
                          clear hst
                          generalize sortTo (no - 2) V ++ numL1 (no : Int) (V.take k) = ks at *
                          generalize hm : ks.length = Mk at *
                          have HMM := Lib.hid hm
                          clear hm
                          go_wp2_with fail
                          refine wp_region_noPanic ?_
                          refine wp_region_late (fun u => MBox u go mo Yl Mk cl ∧ u.cell? ⟨g2, k * 2, none⟩ = some (.int .i64 (no : Int)) ∧ u.cell? ⟨g2, k * 2 + 1, none⟩ = some (.string xs)) 9 (by kernel_rfl) ((show MBox wr go mo Yl Mk cl ∧ wr.cell? ⟨g2, k * 2, none⟩ = some (.int .i64 (no : Int)) ∧ wr.cell? ⟨g2, k * 2 + 1, none⟩ = some (.string xs) from ⟨HX.out, c0, c1⟩)) (fun hT => ?_)
                          refine lv 0 (v := ?_) (fun u hu => ?_) hT ?_
                          rotate_left
                          · ((rcases hu with ⟨hu1, q0, q1⟩; obtain ⟨b0, b1, _, _⟩ := obj_cells hu1; clear hu1); go_simp; try (with_reducible rfl))
                          try simp only [puts]
                          refine lv 1 (v := ?_) (fun u hu => ?_) hT ?_
                          rotate_left
                          · ((rcases hu with ⟨hu1, q0, q1⟩; obtain ⟨b0, b1, _, _⟩ := obj_cells hu1; clear hu1); go_simp; try (with_reducible rfl))
                          try simp only [puts]
                          refine lv 2 (v := ?_) (fun u hu => ?_) hT ?_
                          rotate_left
                          · ((rcases hu with ⟨hu1, q0, q1⟩; obtain ⟨b0, b1, _, _⟩ := obj_cells hu1; clear hu1); go_simp; try (with_reducible rfl))
                          try simp only [puts]
                          refine lv 3 (v := ?_) (fun u hu => ?_) hT ?_
                          rotate_left
                          · ((rcases hu with ⟨hu1, q0, q1⟩; obtain ⟨b0, b1, _, _⟩ := obj_cells hu1; clear hu1); go_simp; try (with_reducible rfl))
                          try simp only [puts]
                          refine lv 4 (v := ?_) (fun u hu => ?_) hT ?_
                          rotate_left
                          · ((rcases hu with ⟨hu1, q0, q1⟩; obtain ⟨b0, b1, _, _⟩ := obj_cells hu1; clear hu1); go_simp; try (with_reducible rfl))
                          try simp only [puts]
                          refine lv 5 (v := ?_) (fun u hu => ?_) hT ?_
                          rotate_left
                          · ((rcases hu with ⟨hu1, q0, q1⟩; obtain ⟨b0, b1, _, _⟩ := obj_cells hu1; clear hu1); go_simp; try (with_reducible rfl))
                          try simp only [puts]
                          refine late_lone (i := 6) rfl (by kernel_rfl) (by rfl) (fun K hK => ?_)
                          go_simp
                          refine hK.out _ _ (⟨HX.out.below (below_al wr (.cells #[.int .i64 (no : Int), .string xs] 53)).drew, ((below_al wr (.cells #[.int .i64 (no : Int), .string xs] 53)).cell (block_lt_of_cell c0)).trans c0, ((below_al wr (.cells #[.int .i64 (no : Int), .string xs] 53)).cell (block_lt_of_cell c1)).trans c1⟩) ?_
                          clear hK
                          try simp only [puts]
                          refine late_lone (i := 7) rfl (by kernel_rfl) (by rfl) (fun K hK => ?_)
                          refine wp_append_lies _ _ _ _ (by rfl) U.heap.size 53 i0 _ 2 24 Tryz.underlying39 hi hz0 hz1 hz2 rfl (by omega) (.slice Yl Mk cl) Mk (itemsC ks) (by rfl) ((HO.out.alloc _).drew) ⟨wr.heap.size, 0, none⟩ 1 1 (itemC ((no : Int), xs)) (by rfl) (by rfl) (World.news_of_block (cs := #[.int .i64 (no : Int), .string xs]) (t := 53) (fr := (0, 0)) (heap_alloc_new wr _)) (by simp [itemC, Value.oneCell']) (by omega) (by unfold maxLen; omega) (by omega) (by have := HK.out.1; simp; omega) (wr.heap.size + 1) (by simp) ?_
                          intro g' cap' w6 hown6 hgrow6 hat6 hlt6
                          have hbB : Below U.heap.size wr w6 := (((Below.refl _ _).alloc HK.out.1 _).drew).grown hgrow6 (by have := HK.out.1; simp; omega) (fun q hq => (HO.out.lt q hq).1)
                          have HO6 := Lib.hid hown6
                          have HK6 := Lib.hid (HK.out.step hbB)
                          have HX6 : Hid (MBox w6 go mo Yl Mk cl) := (hbB.block _ HGL.out).trans HX.out
                          have HB6 := Lib.hid (HBB.out.trans (hbB.mono HWU.out))
                          have HT6 := Lib.hid (HK6.out.vals HTU.out HGU.out)
                          obtain ⟨_, n6, s6, e6, hx6, y0, y1⟩ := HT6.out.at_ HKL.out
                          injection e6 with e6
                          subst e6
                          rw [HIT.out] at hx6
                          simp only [Prod.mk.injEq] at hx6
                          obtain ⟨rfl, rfl⟩ := hx6
                          rw [had] at y0 y1
                          clear hown6 hgrow6 hat6 hlt6 hbB
                          refine hK.out _ _ (⟨HX6.out, y0, y1⟩) ?_
                          clear hK
                          try simp only [puts]
                          clear hT
                          have hT : MBox w6 go mo Yl Mk cl ∧ w6.cell? ⟨g2, k * 2, none⟩ = some (.int .i64 (no : Int)) ∧ w6.cell? ⟨g2, k * 2 + 1, none⟩ = some (.string xs) := ⟨HX6.out, y0, y1⟩
                          refine lv 8 (v := ?_) (fun u hu => ?_) hT ?_
                          rotate_left
                          · ((rcases hu with ⟨hu1, q0, q1⟩; obtain ⟨b0, b1, _, _⟩ := obj_cells hu1; clear hu1); go_simp; try (with_reducible rfl))
                          try simp only [puts]
                          refine late_only rfl (by kernel_rfl) (by rfl) (fun K hK => ?_)
                          obtain ⟨j0, j1, f0, f1⟩ := obj_cells HX6.out
                          go_simp
                          refine hK.out _ _ ?_
                          clear hK
                          try simp only [puts]
                          refine late_done (by kernel_rfl) (NoPanic.normal ?_) _
                          clear hT j0 j1 f0 f1 y0 y1 c0 c1
                          go_wp2
                          go_roundw
                          case rel => exact ⟨k + 1, by omega, by go_num, by rw [HST.out]; exact mwants_put HGL.out (by have := HGZ.out; omega) HMM.out HX6.out HO6.out HK6.out HB6.out⟩
                          case measure => simp [intOf]; omega
                        · have tz : (xn == (no : Int)) = false := by simpa using hz3
                          have HST : Hid (numL1 (no : Int) (V.take (k + 1)) = numL1 (no : Int) (V.take k)) := by show _ = _; rw [hst, if_neg hz3, List.append_nil]
                          clear hst hz3
                          go_wp2
                          go_roundw
                          case rel => exact ⟨k + 1, by omega, by go_num, by rw [HST.out]; exact ⟨Yl, cl, HX.out, HO.out, HK.out, HBB.out⟩⟩
                          case measure => simp [intOf]; omega
                      · have hkN : V.take k = V := items_all (by have := HNN.out; omega)
                        have HSN : Hid (sortTo (no + 1 - 2) V = sortTo (no - 2) V ++ numL1 (no : Int) (V.take k)) := by
                          show _ = _
                          have h2 := HN3.out.1
                          rw [hkN, show no + 1 - 2 = (no - 2) + 1 by omega, sort_next, show no - 2 + 2 = no by omega]
                        clear hkN
                        go_wp2
                        go_roundw
                        case rel => exact ⟨no + 1, by have := HN3.out.1; omega, by have := HN3.out.2; omega, by go_num, by rw [HSN.out]; exact ⟨Yl, cl, HX.out, HO.out, HK.out, HBB.out⟩⟩
                        case measure => have := HN3.out.2; simp [intOf]; omega
                  · obtain rfl : no = 129 := by omega
                    obtain ⟨Yl, cl, hbox, hown, hkeep, hb⟩ := HW.out
                    rw [show (129 : Nat) - 2 = 127 from rfl, sort_full] at hbox hown
                    generalize xsort V = L at *
                    have HX := Lib.hid hbox
                    have HO := Lib.hid hown
                    have HQ9 := Lib.hid (HQU.out.past hkeep hb (by have := HGZ.out; omega))
                    have HUL : Hid (w.heap.size + 6 < U.heap.size) := by have := HGL.out; have := HGZ.out; show _ < _; omega
                    clear hbox hown hkeep hb HW
                    generalize hll : L.length = ln at *
                    have HLL := Lib.hid hll
                    clear hll
                    obtain ⟨e0, e1, _, _⟩ := obj_cells HX.out
                    obtain ⟨c0, c1, c2, c3⟩ := obj_cells HQ9.out.2.2.1
                    obtain ⟨d0, d1, d2, d3⟩ := obj_cells HQ9.out.2.2.2
                    go_wp2
                    obtain ⟨k1, k2, k3⟩ := HQ9.out.put (.string mo) (.slice Yl ln cl) (.int .i64 0) (.int .i64 0)
                    have HTT := Lib.hid (own_two (p := w.heap.size + 4) (q := w.heap.size + 5) HO.out HLL.out.symm (by have := HUL.out; omega) (by have := HUL.out; omega) (.string mo) (.slice Yl ln cl) (.int .i64 0) (.int .i64 0))
                    refine bodyPost_ret (results_two rfl _ _ (w.heap.size + 4) (w.heap.size + 5) _ _ _ _ _ _ _ _ rfl k1 rfl k2 Tryz.underlying41 rfl (by kernel_rfl) Tryz.underlying44 rfl (by kernel_rfl)) rfl ?_
                    rw [HE.out]
                    exact ⟨Yl, cl, by dsimp only; rw [HLL.out], HTT.out, k3⟩
    · have HE := Lib.hid (HX2.out HZ.out hf)
      have tf : (f1 != 0) = true := by simpa using hf
      clear hf
      go_wp2_with fail
      clear v0 v1
      generalize w2.alloc (.cells #[.int .i64 f1, .int .i64 f2] 44) = W3 at *
      generalize w2.heap.size = g3 at *
      refine wp_region_noPanic ?_
      refine wp_region_held_drew (S := (fun u => u.heap[g3]? = some (.cells #[.int .i64 f1, .int .i64 f2] 44) ∧ MBox u (w.heap.size + 6) ⟨#[]⟩ none 0 0)) (by kernel_rfl) (⟨HG3.out, HN3.out⟩) (fun hS => ?_)
      refine gv 0 (v := ?_) (fun u hu => ?_) hS ?_
      rotate_left
      · ((obtain ⟨v0, v1, _, _⟩ := obj_cells hu.1; obtain ⟨y0, y1, _, _⟩ := obj_cells hu.2); go_simp; try (with_reducible rfl))
      try simp only [puts]
      refine gv 1 (v := ?_) (fun u hu => ?_) hS ?_
      rotate_left
      · ((obtain ⟨v0, v1, _, _⟩ := obj_cells hu.1; obtain ⟨y0, y1, _, _⟩ := obj_cells hu.2); go_simp; try (with_reducible rfl))
      try simp only [puts]
      obtain ⟨c0, c1, c2, c3⟩ := obj_cells HQ3.out.2.2.1
      have k1 := obj_set_other HG3.out (show g3 ≠ w.heap.size + 4 by have := HGZ.out; omega) (.string ⟨#[]⟩) (.slice none 0 0)
      have k4 := obj_set_other HN3.out (show w.heap.size + 6 ≠ w.heap.size + 4 by omega) (.string ⟨#[]⟩) (.slice none 0 0)
      refine only (i := 2) rfl (by kernel_rfl) (by rfl) (fun K hK => ?_)
      go_simp
      refine hK.out _ _ ⟨k1, k4⟩ ?_
      clear hK
      try simp only [puts]
      obtain ⟨d0, d1, d2, d3⟩ := obj_cells (obj_set_other HQ3.out.2.2.2 (show w.heap.size + 5 ≠ w.heap.size + 4 by omega) (.string ⟨#[]⟩) (.slice none 0 0))
      have k2 := obj_set_other k1 (show g3 ≠ w.heap.size + 5 by have := HGZ.out; omega) (.int .i64 f1) (.int .i64 f2)
      have k5 := obj_set_other k4 (show w.heap.size + 6 ≠ w.heap.size + 5 by omega) (.int .i64 f1) (.int .i64 f2)
      refine only (i := 3) rfl (by kernel_rfl) (by rfl) (fun K hK => ?_)
      go_simp
      refine hK.out _ _ ⟨k2, k5⟩ ?_
      clear hK
      try simp only [puts]
      refine wpAnyH_done (by kernel_rfl) (NoPanic.normal ?_) _
      go_wp2
      obtain ⟨k1, k2, k3⟩ := HQ3.out.put (.string ⟨#[]⟩) (.slice none 0 0) (.int .i64 f1) (.int .i64 f2)
      refine bodyPost_ret (results_two rfl _ _ (w.heap.size + 4) (w.heap.size + 5) _ _ _ _ _ _ _ _ rfl k1 rfl k2 Tryz.underlying41 rfl (by kernel_rfl) Tryz.underlying44 rfl (by kernel_rfl)) rfl ?_
      rw [HE.out]
      exact ⟨none, 0, rfl, tlvs_nil _ _, k3.drew⟩
  · have HE := Lib.hid (HX1.out hz)
    have tz : decide (z1 = 0) = false := by simpa using hz
    rw [tz]
    clear hz tz
    obtain ⟨y0, y1, _, _⟩ := obj_cells HN2.out
    obtain ⟨c0, c1, c2, c3⟩ := obj_cells HQ2.out.2.2.1
    obtain ⟨d0, d1, d2, d3⟩ := obj_cells HQ2.out.2.2.2
    go_wp2
    obtain ⟨k1, k2, k3⟩ := HQ2.out.put (.string ⟨#[]⟩) (.slice none 0 0) (.int .i64 1) (.int .i64 (-1))
    refine bodyPost_ret (results_two rfl _ _ (w.heap.size + 4) (w.heap.size + 5) _ _ _ _ _ _ _ _ rfl k1 rfl k2 Tryz.underlying41 rfl (by kernel_rfl) Tryz.underlying44 rfl (by kernel_rfl)) rfl ?_
    rw [HE.out]
    exact ⟨none, 0, rfl, tlvs_nil _ _, k3⟩

end Go.Proofs.YthheflgfbdcnlaaGreatDoor
