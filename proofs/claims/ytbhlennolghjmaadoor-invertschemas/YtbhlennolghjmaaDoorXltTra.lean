/-
  What the program's Translate answers: for every map whose rules have up to 5,000,000 pairs, schemas of up to 1000 specs and messages of up to 499 fields, in every world where the table of kinds reads as it is laid.
-/
import Derived.Test.YtbhlennolghjmaaDoorXltPrg
namespace Go.Proofs.YtbhlennolghjmaaDoor
open Go.RowKit

theorem msgL_told (sl : List Sp) : ∀ (l : List Item) (last : Int), (msgL sl last l).1 = 0 → msgL sl last l = (0, 0)
  | [], _, _ => rfl
  | x :: r, last, h => by
    by_cases h1 : fldE sl last x = 0
    · rw [msgL_ok h1] at h ⊢; exact msgL_told sl r x.1 h
    · rw [msgL_bad h1] at h; exact absurd h h1
theorem msgN_told {st v : Int} {sl : List Sp} {m : ByteArray} {l : List Item} (h : (msgN st v sl m l).1 = 0) : msgN st v sl m l = (0, 0) := by
  by_cases h1 : (schN st v sl).1 = 0
  · cases h2 : mtiV m v
    · rw [msgN_mti h1 h2] at h; cases h
    · rw [msgN_list h1 h2] at h ⊢; exact msgL_told _ _ _ h
  · rw [msgN_arg h1] at h; cases h
theorem apart_swap {V W : List Item} (h : Apart (V ++ W)) : Apart (W ++ V) := by
  obtain ⟨h1, h2, h3⟩ := List.pairwise_append.1 h
  exact List.pairwise_append.2 ⟨h2, h1, fun x hx y hy h0 e => h3 y hy x hx (by rw [← e]; exact h0) e.symm⟩
theorem sort_swap {b : List Sp} {V W : List Item} (hg : ∀ y ∈ V ++ W, y.1 = 0 ∨ okV b y) (hV : Apart (V ++ W)) : xsort (W ++ V) = xsort (V ++ W) := by
  have hg2 : ∀ y ∈ W ++ V, y.1 = 0 ∨ okV b y := fun y hy => hg y (by rw [List.mem_append] at hy ⊢; exact hy.symm)
  have h1 := sort_fits hg hV 127 2 (by omega)
  have h2 := sort_fits hg2 (apart_swap hV) 127 2 (by omega)
  refine rise_same (fits_up h2).2 (fits_up h1).2 fun z => ?_
  show z ∈ xsort (W ++ V) ↔ z ∈ xsort (V ++ W)
  rw [mem_sort, mem_sort, List.mem_append, List.mem_append]
  constructor
  · rintro ⟨h, k⟩; exact ⟨h.symm, k⟩
  · rintro ⟨h, k⟩; exact ⟨h.symm, k⟩
/-- By With, one by one, behind the constants: what the document sorts. -/
theorem with_sorted {st v : Int} {a : List Sp} {st' v' : Int} {b : List Sp} {M : List PairT} {R : List Ru} {m : ByteArray} {l : List Item} (h : (xltN st v a st' v' b M R).1 = 0) (h2 : (msgN st v a m l).1 = 0) (he : (xerr b R l).1 = 0) : xwith (xcon R ++ xmade b R l) = xsort (xmade b R l ++ xcon R) := by
  obtain ⟨_, hb, _⟩ := xlt_zero h
  have hR := xr_of h
  obtain ⟨_, _, hl⟩ := valid_in (msgN_told h2)
  have hg := vals_good hR hb hl he
  have hV := xvals_apart hR hb hl he
  rw [xwith_sort hb (fun y hy => hg y (by rw [List.mem_append] at hy ⊢; exact hy.symm)) (apart_swap hV), sort_swap hg hV]

/-- A map, two schemas, a message, and room for a message and a fault. -/
def TQ (w : World) (X : Option Addr) (n c : Nat) (Y : Option Addr) (n' c' : Nat) (st v : Int) (A : Option Addr) (la ca : Nat) (st' v' : Int) (A' : Option Addr) (lb cb : Nat) (m : ByteArray) (B : Option Addr) (lx cx : Nat) (u : World) : Prop :=
  MQ w X n c Y n' c' st v A la ca st' v' A' lb cb u ∧ MBox u (w.heap.size + 3) m B lx cx ∧ MBox u (w.heap.size + 4) ⟨#[]⟩ none 0 0 ∧ u.heap[w.heap.size + 5]? = some (.cells #[.int .i64 0, .int .i64 0] 44)
theorem TQ.below {w : World} {X : Option Addr} {n c : Nat} {Y : Option Addr} {n' c' : Nat} {st v : Int} {A : Option Addr} {la ca : Nat} {st' v' : Int} {A' : Option Addr} {lb cb : Nat} {m : ByteArray} {B : Option Addr} {lx cx : Nat} {u u' : World} (h : TQ w X n c Y n' c' st v A la ca st' v' A' lb cb m B lx cx u) (hb : Below u.heap.size u u') : TQ w X n c Y n' c' st v A la ca st' v' A' lb cb m B lx cx u' :=
  ⟨h.1.below hb, h.2.1.below hb, h.2.2.1.below hb, obj_below h.2.2.2 hb⟩
theorem TQ.drew {w : World} {X : Option Addr} {n c : Nat} {Y : Option Addr} {n' c' : Nat} {st v : Int} {A : Option Addr} {la ca : Nat} {st' v' : Int} {A' : Option Addr} {lb cb : Nat} {m : ByteArray} {B : Option Addr} {lx cx : Nat} {u : World} (h : TQ w X n c Y n' c' st v A la ca st' v' A' lb cb m B lx cx u) : TQ w X n c Y n' c' st v A la ca st' v' A' lb cb m B lx cx u.drew :=
  ⟨h.1.drew, h.2.1, h.2.2.1, h.2.2.2⟩
theorem TQ.set {w : World} {X : Option Addr} {n c : Nat} {Y : Option Addr} {n' c' : Nat} {st v : Int} {A : Option Addr} {la ca : Nat} {st' v' : Int} {A' : Option Addr} {lb cb : Nat} {m : ByteArray} {B : Option Addr} {lx cx : Nat} {u : World} (h : TQ w X n c Y n' c' st v A la ca st' v' A' lb cb m B lx cx u) {g : Nat} (hg : w.heap.size + 6 ≤ g) (x y : Value) : TQ w X n c Y n' c' st v A la ca st' v' A' lb cb m B lx cx ((u.setCell ⟨g, 0, none⟩ x).setCell ⟨g, 1, none⟩ y) :=
  ⟨⟨below_set2 h.1.1 (by omega) _ _, obj_set_other h.1.2.1 (by omega) _ _, obj_set_other h.1.2.2.1 (by omega) _ _, obj_set_other h.1.2.2.2 (by omega) _ _⟩, obj_set_other h.2.1 (by omega) _ _, obj_set_other h.2.2.1 (by omega) _ _, obj_set_other h.2.2.2 (by omega) _ _⟩
theorem tq_new (w : World) (X : Option Addr) (n c : Nat) (Y : Option Addr) (n' c' : Nat) (st v : Int) (A : Option Addr) (la ca : Nat) (st' v' : Int) (A' : Option Addr) (lb cb : Nat) (m : ByteArray) (B : Option Addr) (lx cx : Nat) :
    TQ w X n c Y n' c' st v A la ca st' v' A' lb cb m B lx cx ((((((w.alloc (.cells #[.slice X n c, .slice Y n' c'] 25)).alloc (.cells #[.int .i64 st, .int .i64 v, .slice A la ca] 28)).alloc (.cells #[.int .i64 st', .int .i64 v', .slice A' lb cb] 28)).alloc (.cells #[.string m, .slice B lx cx] 41)).alloc (.cells #[.string ⟨#[]⟩, .slice none 0 0] 41)).alloc (.cells #[.int .i64 0, .int .i64 0] 44)) :=
  ⟨(mq_new w X n c Y n' c' st v A la ca st' v' A' lb cb).below (hbt (hbt (below_al _ _) (below_al _ _)) (below_al _ _)), obj_below (obj_below (heap_al _ _ _ (by simp)) (below_al _ _)) (below_al _ _), obj_below (heap_al _ _ _ (by simp)) (below_al _ _), heap_al _ _ _ (by simp)⟩
/-- What is stored last: a message and a fault. -/
theorem TQ.put {w : World} {X : Option Addr} {n c : Nat} {Y : Option Addr} {n' c' : Nat} {st v : Int} {A : Option Addr} {la ca : Nat} {st' v' : Int} {A' : Option Addr} {lb cb : Nat} {m : ByteArray} {B : Option Addr} {lx cx : Nat} {u : World} (h : TQ w X n c Y n' c' st v A la ca st' v' A' lb cb m B lx cx u) (a b c2 d : Value) :
    ((((u.setCell ⟨w.heap.size + 4, 0, none⟩ a).setCell ⟨w.heap.size + 4, 1, none⟩ b).setCell ⟨w.heap.size + 5, 0, none⟩ c2).setCell ⟨w.heap.size + 5, 1, none⟩ d).heap[w.heap.size + 4]? = some (.cells #[a, b] 41) ∧
    ((((u.setCell ⟨w.heap.size + 4, 0, none⟩ a).setCell ⟨w.heap.size + 4, 1, none⟩ b).setCell ⟨w.heap.size + 5, 0, none⟩ c2).setCell ⟨w.heap.size + 5, 1, none⟩ d).heap[w.heap.size + 5]? = some (.cells #[c2, d] 44) ∧
    Below w.heap.size w ((((u.setCell ⟨w.heap.size + 4, 0, none⟩ a).setCell ⟨w.heap.size + 4, 1, none⟩ b).setCell ⟨w.heap.size + 5, 0, none⟩ c2).setCell ⟨w.heap.size + 5, 1, none⟩ d) :=
  two_set (w := w) h.2.2.1 h.2.2.2 (by omega) (by omega) (by omega) h.1.1 a b c2 d

set_option maxRecDepth 100000 in
set_option maxHeartbeats 25600000 in
theorem xtrans_any (hchk : RChk) (happ : RApp) (X : Option Addr) (cM : Nat) (M : List PairT) (Y : Option Addr) (cR : Nat) (R : List Ru) (st v : Int) (A : Option Addr) (ca : Nat) (a : List Sp) (st' v' : Int) (A' : Option Addr) (cb : Nat) (b : List Sp) (m : ByteArray) (B : Option Addr) (cx : Nat) (l : List Item) (w : World) (hK : Kinds w) (hM : Prs w X M) (hR : Rls w Y R) (hA : Spl w A a) (hB : Spl w A' b) (hI : Tlvs w B l) (hla : a.length ≤ 1000) (hlb : b.length ≤ 1000) (hlM : M.length ≤ maxLen) (hcM : M.length ≤ cM) (hlR : R.length ≤ maxLen) (hf4 : Fit4 R) (hl : l.length ≤ 499) (hs : ∀ x ∈ l, x.2.size ≤ maxLen) :
    Calls Tryd.prog 18 #[.agg #[.slice X M.length cM, .slice Y R.length cR], .agg #[.int .i64 st, .int .i64 v, .slice A a.length ca], .agg #[.int .i64 st', .int .i64 v', .slice A' b.length cb], .agg #[.string m, .slice B l.length cx]] w fun e w' => DecTo (xltT st v a st' v' b M R m l) w w' e := by
  have HCK := Lib.hid (fun W k0 k1 k2 k3 k4 => xchk_any hchk X cM M Y cR R st v A ca a st' v' A' cb b W k0 k1 k2 k3 k4 hla hlb hlM hcM hlR hf4)
  have HMC := Lib.hid (fun W k0 k1 k2 => mcheck_any st v A ca a m B cx l W k0 k1 k2 hla (by omega) hs)
  have HLK := Lib.hid (fun W k h => xlook_any X cM M m W k h)
  have HCN := Lib.hid (fun (mo : ByteArray) W k h h2 => xconst_any Y cR R mo W k h h2)
  have HBC := Lib.hid (fun no s W k0 k1 k2 k3 => xbecome_any happ Y cR R st' v' A' cb b no s W k0 k1 k2 hlb hlR hf4 k3)
  have HX1 := Lib.hid (@xt_arg st v a st' v' b M R m l)
  have HX2 := Lib.hid (@xt_msg st v a st' v' b M R m l)
  have HX3 := Lib.hid (@xt_mti st v a st' v' b M R m l)
  have HX4 := Lib.hid (@xt_field st v a st' v' b M R m l)
  have HX5 := Lib.hid (@xt_ok st v a st' v' b M R m l)
  have HWS := Lib.hid (@with_sorted st v a st' v' b M R m l)
  have HXZ := Lib.hid (@xlt_zero st v a st' v' b M R)
  have HXR := Lib.hid (@xr_of st v a st' v' b M R)
  have HMZ := Lib.hid (@msgN_told st v a m l)
  have HQ0 := Lib.hid (tq_new w X M.length cM Y R.length cR st v A a.length ca st' v' A' b.length cb m B l.length cx)
  have HSZ : Hid (((((((w.alloc (.cells #[.slice X M.length cM, .slice Y R.length cR] 25)).alloc (.cells #[.int .i64 st, .int .i64 v, .slice A a.length ca] 28)).alloc (.cells #[.int .i64 st', .int .i64 v', .slice A' b.length cb] 28)).alloc (.cells #[.string m, .slice B l.length cx] 41)).alloc (.cells #[.string ⟨#[]⟩, .slice none 0 0] 41)).alloc (.cells #[.int .i64 0, .int .i64 0] 44)).heap.size = w.heap.size + 6) := by show _ = _; simp
  have HK := Lib.hid hK
  have HM := Lib.hid hM
  have HR := Lib.hid hR
  have HA := Lib.hid hA
  have HB := Lib.hid hB
  have HI := Lib.hid hI
  have HS := Lib.hid hs
  generalize xltT st v a st' v' b M R m l = T at *
  generalize (xltN st v a st' v' b M R).1 = z1 at *
  generalize (xltN st v a st' v' b M R).2.1 = z2 at *
  generalize (xltN st v a st' v' b M R).2.2 = z3 at *
  generalize msgN st v a m l = F at *
  obtain ⟨f1, f2⟩ := F
  dsimp only at HMC HMZ HX2 HX3 HX4 HX5 HWS
  generalize hap : appB M m = ap at *
  generalize hmo : appS M m = mo at *
  generalize hln : l.length = n at *
  generalize hrm : R.length = nr at *
  generalize M.length = nm at *
  generalize a.length = la at *
  generalize b.length = lb at *
  have HLN := Lib.hid hln
  have HRM := Lib.hid hrm
  clear hK hM hR hA hB hI hs hla hlb hlM hcM hlR hf4 hchk happ hap hmo hln hrm
  go_enter Tryd.func18, Tryd.ntmps18
  go_wp2_with fail
  generalize (((((w.alloc (.cells #[.slice X nm cM, .slice Y nr cR] 25)).alloc (.cells #[.int .i64 st, .int .i64 v, .slice A la ca] 28)).alloc (.cells #[.int .i64 st', .int .i64 v', .slice A' lb cb] 28)).alloc (.cells #[.string m, .slice B n cx] 41)).alloc (.cells #[.string ⟨#[]⟩, .slice none 0 0] 41)).alloc (.cells #[.int .i64 0, .int .i64 0] 44) = U at *
  refine (HCK.out _ (HK.out.below HQ0.out.1.1) (HM.out.below HQ0.out.1.1) (HR.out.below HQ0.out.1.1) (HA.out.below HQ0.out.1.1) (HB.out.below HQ0.out.1.1)).mono ?_
  rintro e w1 ⟨rfl, hb1⟩
  have HQ1 := Lib.hid (HQ0.out.below hb1)
  have HZ1 : Hid (w.heap.size + 6 ≤ w1.heap.size) := by have := hb1.size; have := HSZ.out; show _ ≤ _; omega
  clear hb1 HQ0 HCK HSZ
  by_cases hz : z1 = 0
  · have HZ := Lib.hid hz
    subst hz
    obtain ⟨⟨m0, m1⟩, ⟨a0, a1, a2⟩, b0, b1, b2⟩ := HQ1.out.1.cells
    obtain ⟨x0, x1, _, _⟩ := obj_cells HQ1.out.2.1
    go_wp2_with fail
    clear m0 m1 a0 a1 a2 b0 b1 b2 x0 x1
    refine (HMC.out _ (HK.out.below HQ1.out.1.1) (HA.out.below HQ1.out.1.1) (HI.out.below HQ1.out.1.1)).mono ?_
    rintro e w2 ⟨rfl, hb2⟩
    have HQ2 := Lib.hid ((HQ1.out.below hb2).below (below_al w2 (.cells #[.int .i64 f1, .int .i64 f2] 44)))
    have HG2 : Hid ((w2.alloc (.cells #[.int .i64 f1, .int .i64 f2] 44)).heap[w2.heap.size]? = some (.cells #[.int .i64 f1, .int .i64 f2] 44)) := heap_alloc_new _ _
    have HZ2 : Hid (w.heap.size + 6 ≤ w2.heap.size) := by have := hb2.size; have := HZ1.out; show _ ≤ _; omega
    have HZ3 : Hid (w.heap.size + 6 ≤ (w2.alloc (.cells #[.int .i64 f1, .int .i64 f2] 44)).heap.size) := by have := HZ2.out; show _ ≤ _; simp; omega
    clear hb2 HQ1 HMC HZ1
    by_cases hf : f1 = 0
    · obtain ⟨_, rfl⟩ : f1 = 0 ∧ f2 = 0 := by have := HMZ.out hf; simpa using this
      have HF := Lib.hid hf
      subst hf
      obtain ⟨⟨m0, m1⟩, ⟨a0, a1, a2⟩, b0, b1, b2⟩ := HQ2.out.1.cells
      obtain ⟨x0, x1, _, _⟩ := obj_cells HQ2.out.2.1
      obtain ⟨h1, h2, h3, h4, h5, h6⟩ := HXZ.out HZ.out
      have HBZ := Lib.hid h2
      have HM5 := Lib.hid h3
      have HR5 := Lib.hid h5
      clear h1 h2 h3 h4 h5 h6
      go_wp2_with fail
      clear m0 m1 a0 a1 a2 b0 b1 b2 x0 x1
      generalize w2.alloc (.cells #[.int .i64 0, .int .i64 0] 44) = W2 at *
      generalize w2.heap.size = g2 at *
      refine (HLK.out _ (HM.out.below HQ2.out.1.1) (by have := HM5.out; omega)).mono ?_
      rintro e w3 ⟨rfl, hb3⟩
      have HQ3 := Lib.hid (HQ2.out.below hb3)
      have HZ4 : Hid (w.heap.size + 6 ≤ w3.heap.size) := by have := hb3.size; have := HZ3.out; show _ ≤ _; omega
      clear hb3 HQ2 HLK HG2 HZ2 HZ3
      cases ap
      · have HE := Lib.hid (HX3.out HZ.out HF.out rfl)
        obtain ⟨c0, c1, c2, c3⟩ := obj_cells HQ3.out.2.2.1
        obtain ⟨d0, d1, d2, d3⟩ := obj_cells HQ3.out.2.2.2
        go_wp2
        obtain ⟨k1, k2, k3⟩ := HQ3.out.put (.string ⟨#[]⟩) (.slice none 0 0) (.int .i64 7) (.int .i64 0)
        refine bodyPost_ret (results_two rfl _ _ (w.heap.size + 4) (w.heap.size + 5) _ _ _ _ _ _ _ _ rfl k1 rfl k2 Tryd.underlying41 rfl (by kernel_rfl) Tryd.underlying44 rfl (by kernel_rfl)) rfl ?_
        rw [HE.out]
        exact ⟨none, 0, rfl, tlvs_nil _ _, k3⟩
      · have HRZ : Hid (∀ j, j < R.length → (ruAt R j).1 = 3 → (ruAt R j).2.2.1 ≠ 0) := fun j hj h3 e => by
          have h := (ru_const ((HXR.out HZ.out).1 j hj) h3).2
          have := okV_range HBZ.out h
          dsimp only at this
          omega
        rw [HRM.out] at HRZ
        have HC := Lib.hid (fun W k => HCN.out mo W k (by have := HR5.out; omega) HRZ.out)
        obtain ⟨⟨m0, m1⟩, _⟩ := HQ3.out.1.cells
        go_wp2_with fail
        clear m0 m1
        refine (HC.out _ (HR.out.below HQ3.out.1.1)).mono ?_
        rintro e w4 ⟨A4, c4, rfl, ht4, hb4⟩
        have HL4 : Hid (xwith (xcon R ++ xmade b R (l.take 0)) = xwith (xcon R)) := by show _ = _; simp [xmade]
        have HQ5 := Lib.hid ((HQ3.out.below hb4).below (below_al w4 (.cells #[.string mo, .slice A4 (xwith (xcon R)).length c4] 41)))
        have HT5 := Lib.hid (ht4.below (below_al w4 (.cells #[.string mo, .slice A4 (xwith (xcon R)).length c4] 41)))
        have HG5 := Lib.hid (mbox_new w4 mo A4 (xwith (xcon R)).length c4)
        have HZ5 : Hid (w.heap.size + 6 ≤ w4.heap.size) := by have := hb4.size; have := HZ4.out; show _ ≤ _; omega
        rw [← HL4.out] at HQ5 HT5 HG5 ⊢
        clear ht4 hb4 HQ3 HC HCN HRZ HZ4 HL4
        generalize hrl : (xwith (xcon R ++ xmade b R (l.take 0))).length = r0 at *
        have HRL := Lib.hid hrl
        clear hrl
        obtain ⟨x0, x1, _, _⟩ := obj_cells HQ5.out.2.1
        go_wp2_with fail
        clear x0 x1
        generalize w4.alloc (.cells #[.string mo, .slice A4 r0 c4] 41) = U5 at *
        generalize w4.heap.size = g at *
        go_loopw [60] (fun i wr => ∃ (q : Nat) (A6 : Option Addr) (c6 : Nat), q ≤ n ∧ i = .int .i64 (q : Int) ∧ TQ w X nm cM Y nr cR st v A la ca st' v' A' lb cb m B n cx wr ∧ MBox wr g mo A6 (xwith (xcon R ++ xmade b R (l.take q))).length c6 ∧ Tlvs wr A6 (xwith (xcon R ++ xmade b R (l.take q))) ∧ xerr b R l = xerr b R (l.drop q)) (fun i _ => n - (intOf i).toNat)
        case atStart => exact ⟨0, A4, c4, Nat.zero_le _, rfl, HQ5.out, by rw [HRL.out]; exact HG5.out, HT5.out, rfl⟩
        case round =>
          obtain ⟨q, A6, c6, hq, rfl, hQ, hg, ht, he⟩ := hrel
          have HQ6 := Lib.hid hQ
          have HG6 := Lib.hid hg
          have HT6 := Lib.hid ht
          have HER := Lib.hid he
          clear hQ hg ht he HQ5 HG5 HT5 HRL
          by_cases hlt : q < n
          · have hql : q < l.length := by have := HLN.out; omega
            obtain ⟨aB, no, s, rfl, hx, z0, z1⟩ := (HI.out.below HQ6.out.1.1).at_ hql
            have HGZ : Hid (w.heap.size + 6 ≤ wr.heap.size) := by have := obj_lt HQ6.out.2.2.2; show _ ≤ _; omega
            have hsz : s.size ≤ maxLen := by
              have := HS.out _ (by rw [itemAt_get hql]; exact List.getElem_mem hql : itemAt l q ∈ l)
              rw [hx] at this; exact this
            have HMT := Lib.hid (made_take (b := b) (R := R) hql)
            have HEB := Lib.hid (err_bad (b := b) (R := R) hql)
            have HEO := Lib.hid (err_ok (b := b) (R := R) hql)
            have hlen : (xwith (xcon R ++ xmade b R (l.take q))).length ≤ 999 := by
              refine Nat.le_trans (xwith_length _) ?_
              rw [List.length_append, made_len, List.length_take]
              have := con_len R
              have := HR5.out
              have := HRM.out
              omega
            unfold xval at HMT
            rw [hx] at HMT HEB HEO
            have HQ7 := Lib.hid (HQ6.out.below (below_al wr (.cells #[.int .i64 no, .string s] 81)))
            have HG7 := Lib.hid (HG6.out.below (below_al wr (.cells #[.int .i64 no, .string s] 81)))
            have HT7 := Lib.hid (HT6.out.below (below_al wr (.cells #[.int .i64 no, .string s] 81)))
            have HV7 : Hid ((wr.alloc (.cells #[.int .i64 no, .string s] 81)).heap[wr.heap.size]? = some (.cells #[.int .i64 no, .string s] 81)) := heap_alloc_new _ _
            have HB7 := Lib.hid (HBC.out no s _ (HK.out.below HQ7.out.1.1) (HR.out.below HQ7.out.1.1) (HB.out.below HQ7.out.1.1) hsz)
            obtain ⟨⟨m0, m1⟩, ⟨a0, a1, a2⟩, b0, b1, b2⟩ := HQ7.out.1.cells
            obtain ⟨v0, v1, _, _⟩ := obj_cells HV7.out
            clear hx hql hsz
            generalize hV : xwith (xcon R ++ xmade b R (l.take q)) = V at *
            generalize hvl : V.length = vl at *
            have HVV := Lib.hid hV
            have HVL := Lib.hid hvl
            have HLE := Lib.hid hlen
            clear hV hvl hlen
            generalize xone b R (no, s) = Z at *
            obtain ⟨y1, y2, y3⟩ := Z
            dsimp only at HB7 HMT HEB HEO
            go_wp2_with fail
            clear m0 m1 a0 a1 a2 b0 b1 b2 v0 v1 z0 z1
            generalize wr.alloc (.cells #[.int .i64 no, .string s] 81) = W7 at *
            generalize wr.heap.size = g7 at *
            refine HB7.out.mono ?_
            rintro e w8 ⟨rfl, hb8⟩
            have HQ8 := Lib.hid ((HQ7.out.below hb8).below (below_al w8 (.cells #[.int .i64 y1, .string y2] 81)))
            have HG8 := Lib.hid ((HG7.out.below hb8).below (below_al w8 (.cells #[.int .i64 y1, .string y2] 81)))
            have HT8 := Lib.hid ((HT7.out.below hb8).below (below_al w8 (.cells #[.int .i64 y1, .string y2] 81)))
            have HV8 := Lib.hid (obj_below (obj_below HV7.out hb8) (below_al w8 (.cells #[.int .i64 y1, .string y2] 81)))
            have HN8 : Hid ((w8.alloc (.cells #[.int .i64 y1, .string y2] 81)).heap[w8.heap.size]? = some (.cells #[.int .i64 y1, .string y2] 81)) := heap_alloc_new _ _
            clear hb8 HQ7 HG7 HT7 HV7 HB7 HQ6 HG6 HT6
            by_cases hy : y3 = 0
            · have HED := Lib.hid (HER.out.trans (HEO.out hy))
              subst hy
              obtain ⟨n0, n1, _, _⟩ := obj_cells HN8.out
              by_cases hn : y1 = 0
              · subst hn
                have HNX : Hid (xwith (xcon R ++ xmade b R (l.take (q + 1))) = V) := by show _ = _; rw [HMT.out, ← List.append_assoc, xwith_snoc, if_pos rfl, HVV.out]
                go_wp2
                go_roundw
                case rel => exact ⟨q + 1, A6, c6, by omega, by go_num, HQ8.out, by rw [HNX.out, HVL.out]; exact HG8.out, by rw [HNX.out]; exact HT8.out, HED.out⟩
                case measure => simp [intOf]; omega
              · have tn : (y1 != 0) = true := by simpa using hn
                have HNX : Hid (xwith (xcon R ++ xmade b R (l.take (q + 1))) = withL y1 y2 V) := by show _ = _; rw [HMT.out, ← List.append_assoc, xwith_snoc, if_neg hn, HVV.out]
                have HC := Lib.hid (mwith_any mo A6 c6 V y1 y2 _ HT8.out (by rw [HVL.out]; exact HLE.out))
                rw [HVL.out] at HC
                obtain ⟨e0, e1, _, _⟩ := obj_cells HG8.out
                clear hn
                go_wp2_with fail
                clear n0 n1 e0 e1
                generalize w8.alloc (.cells #[.int .i64 y1, .string y2] 81) = W8 at *
                generalize w8.heap.size = g8 at *
                refine HC.out.mono ?_
                rintro e w9 ⟨A9, c9, rfl, ht9, hb9⟩
                have HQ9 := Lib.hid (HQ8.out.below hb9)
                have HG9 := Lib.hid (HG8.out.below hb9)
                have HT9 := Lib.hid ht9
                clear ht9 hb9 HQ8 HG8 HT8 HV8 HN8 HC
                obtain ⟨e0, e1, _, _⟩ := obj_cells HG9.out
                generalize hwl : (withL y1 y2 V).length = wl at *
                have HWL := Lib.hid hwl
                clear hwl
                go_wp2
                go_roundw
                case rel => exact ⟨q + 1, A9, c9, by omega, by go_num, HQ9.out.set HZ5.out _ _, by rw [HNX.out, HWL.out]; exact obj_set2 HG9.out _ _, by rw [HNX.out]; exact vals_store2 HT9.out HG9.out _ _ _ _, HED.out⟩
                case measure => simp [intOf]; omega
            · have HED := Lib.hid (HER.out.trans (HEB.out hy))
              have HE := Lib.hid (HX4.out HZ.out HF.out (by trivial) (by rw [HED.out]; exact hy))
              rw [HED.out] at HE
              have ty : (y3 != 0) = true := by simpa using hy
              clear hy
              go_wp2_with fail
              generalize w8.alloc (.cells #[.int .i64 y1, .string y2] 81) = W8 at *
              generalize w8.heap.size = g8 at *
              have hne : w.heap.size + 6 ≤ g7 := HGZ.out
              refine wp_region_noPanic ?_
              refine wp_region_held_drew (S := (fun u => u.heap[g7]? = some (.cells #[.int .i64 no, .string s] 81))) (by kernel_rfl) (HV8.out) (fun hS => ?_)
              refine gv 0 (v := ?_) (fun u hu => ?_) hS ?_
              rotate_left
              · ((obtain ⟨v0, v1, _, _⟩ := obj_cells hu); go_simp; try (with_reducible rfl))
              try simp only [puts]
              refine gv 1 (v := ?_) (fun u hu => ?_) hS ?_
              rotate_left
              · ((obtain ⟨v0, v1, _, _⟩ := obj_cells hu); go_simp; try (with_reducible rfl))
              try simp only [puts]
              refine gv 2 (v := ?_) (fun u hu => ?_) hS ?_
              rotate_left
              · ((obtain ⟨v0, v1, _, _⟩ := obj_cells hu); go_simp; try (with_reducible rfl))
              try simp only [puts]
              refine gv 3 (v := ?_) (fun u hu => ?_) hS ?_
              rotate_left
              · ((obtain ⟨v0, v1, _, _⟩ := obj_cells hu); go_simp; try (with_reducible rfl))
              try simp only [puts]
              refine gv 4 (v := ?_) (fun u hu => ?_) hS ?_
              rotate_left
              · ((obtain ⟨v0, v1, _, _⟩ := obj_cells hu); go_simp; try (with_reducible rfl))
              try simp only [puts]
              obtain ⟨c0, c1, c2, c3⟩ := obj_cells HQ8.out.2.2.1
              have k1 := obj_set_other HV8.out (show g7 ≠ w.heap.size + 4 by omega) (.string ⟨#[]⟩) (.slice none 0 0)
              refine only (i := 5) rfl (by kernel_rfl) (by rfl) (fun K hK => ?_)
              go_simp
              refine hK.out _ _ k1 ?_
              clear hK
              try simp only [puts]
              obtain ⟨d0, d1, d2, d3⟩ := obj_cells (obj_set_other HQ8.out.2.2.2 (show w.heap.size + 5 ≠ w.heap.size + 4 by omega) (.string ⟨#[]⟩) (.slice none 0 0))
              have k2 := obj_set_other k1 (show g7 ≠ w.heap.size + 5 by omega) (.int .i64 y3) (.int .i64 no)
              refine only (i := 6) rfl (by kernel_rfl) (by rfl) (fun K hK => ?_)
              go_simp
              refine hK.out _ _ k2 ?_
              clear hK
              try simp only [puts]
              refine wpAnyH_done (by kernel_rfl) (NoPanic.normal ?_) _
              go_wp2
              obtain ⟨k1, k2, k3⟩ := HQ8.out.put (.string ⟨#[]⟩) (.slice none 0 0) (.int .i64 y3) (.int .i64 no)
              refine bodyPost_ret (results_two rfl _ _ (w.heap.size + 4) (w.heap.size + 5) _ _ _ _ _ _ _ _ rfl k1 rfl k2 Tryd.underlying41 rfl (by kernel_rfl) Tryd.underlying44 rfl (by kernel_rfl)) rfl ?_
              rw [HE.out]
              exact ⟨none, 0, rfl, tlvs_nil _ _, k3.drew⟩
          · have hall : l.take q = l := items_all (by have := HLN.out; omega)
            have HED := Lib.hid (HER.out.trans (err_end (b := b) (R := R) (l := l) (i := q) (by have := HLN.out; omega)))
            have hez : (xerr b R l).1 = 0 := by rw [HED.out]
            have HE := Lib.hid (HX5.out HZ.out HF.out (by trivial) hez)
            have HW := Lib.hid (HWS.out HZ.out HF.out hez)
            rw [hall, HW.out] at HG6 HT6
            clear hall hez
            generalize xsort (xmade b R l ++ xcon R) = V at *
            generalize hvl : V.length = vl at *
            have HVL := Lib.hid hvl
            clear hvl
            obtain ⟨e0, e1, _, _⟩ := obj_cells HG6.out
            obtain ⟨c0, c1, c2, c3⟩ := obj_cells HQ6.out.2.2.1
            obtain ⟨d0, d1, d2, d3⟩ := obj_cells HQ6.out.2.2.2
            go_wp2
            obtain ⟨k1, k2, k3⟩ := HQ6.out.put (.string mo) (.slice A6 vl c6) (.int .i64 0) (.int .i64 0)
            have HTT := Lib.hid (vals_by_fault (vals_by_msg HT6.out HQ6.out.2.2.1 (.string mo) (.slice A6 vl c6)) (obj_set_other HQ6.out.2.2.2 (show w.heap.size + 5 ≠ w.heap.size + 4 by omega) (.string mo) (.slice A6 vl c6)) (.int .i64 0) (.int .i64 0))
            refine bodyPost_ret (results_two rfl _ _ (w.heap.size + 4) (w.heap.size + 5) _ _ _ _ _ _ _ _ rfl k1 rfl k2 Tryd.underlying41 rfl (by kernel_rfl) Tryd.underlying44 rfl (by kernel_rfl)) rfl ?_
            rw [HE.out]
            exact ⟨A6, c6, by dsimp only; rw [HVL.out], HTT.out, k3⟩
    · have HE := Lib.hid (HX2.out HZ.out hf)
      have tf : (f1 == 0) = false := by simpa using hf
      clear hf
      go_wp2_with fail
      generalize w2.alloc (.cells #[.int .i64 f1, .int .i64 f2] 44) = W2 at *
      generalize w2.heap.size = g2 at *
      go_wp2_with fail
      refine wp_region_noPanic ?_
      refine wp_region_held_drew (S := (fun u => u.heap[g2]? = some (.cells #[.int .i64 f1, .int .i64 f2] 44))) (by kernel_rfl) (HG2.out) (fun hS => ?_)
      refine gv 0 (v := ?_) (fun u hu => ?_) hS ?_
      rotate_left
      · ((obtain ⟨v0, v1, _, _⟩ := obj_cells hu); go_simp; try (with_reducible rfl))
      try simp only [puts]
      refine gv 1 (v := ?_) (fun u hu => ?_) hS ?_
      rotate_left
      · ((obtain ⟨v0, v1, _, _⟩ := obj_cells hu); go_simp; try (with_reducible rfl))
      try simp only [puts]
      obtain ⟨c0, c1, c2, c3⟩ := obj_cells HQ2.out.2.2.1
      have k1 := obj_set_other HG2.out (show g2 ≠ w.heap.size + 4 by have := HZ2.out; omega) (.string ⟨#[]⟩) (.slice none 0 0)
      refine only (i := 2) rfl (by kernel_rfl) (by rfl) (fun K hK => ?_)
      go_simp
      refine hK.out _ _ k1 ?_
      clear hK
      try simp only [puts]
      obtain ⟨d0, d1, d2, d3⟩ := obj_cells (obj_set_other HQ2.out.2.2.2 (show w.heap.size + 5 ≠ w.heap.size + 4 by omega) (.string ⟨#[]⟩) (.slice none 0 0))
      have k2 := obj_set_other k1 (show g2 ≠ w.heap.size + 5 by have := HZ2.out; omega) (.int .i64 f1) (.int .i64 f2)
      refine only (i := 3) rfl (by kernel_rfl) (by rfl) (fun K hK => ?_)
      go_simp
      refine hK.out _ _ k2 ?_
      clear hK
      try simp only [puts]
      refine wpAnyH_done (by kernel_rfl) (NoPanic.normal ?_) _
      go_wp2
      obtain ⟨k1, k2, k3⟩ := HQ2.out.put (.string ⟨#[]⟩) (.slice none 0 0) (.int .i64 f1) (.int .i64 f2)
      refine bodyPost_ret (results_two rfl _ _ (w.heap.size + 4) (w.heap.size + 5) _ _ _ _ _ _ _ _ rfl k1 rfl k2 Tryd.underlying41 rfl (by kernel_rfl) Tryd.underlying44 rfl (by kernel_rfl)) rfl ?_
      rw [HE.out]
      exact ⟨none, 0, rfl, tlvs_nil _ _, k3.drew⟩
  · have HE := Lib.hid (HX1.out hz)
    have tz : (z1 != 0) = true := by simpa using hz
    clear hz
    obtain ⟨c0, c1, c2, c3⟩ := obj_cells HQ1.out.2.2.1
    obtain ⟨d0, d1, d2, d3⟩ := obj_cells HQ1.out.2.2.2
    go_wp2
    obtain ⟨k1, k2, k3⟩ := HQ1.out.put (.string ⟨#[]⟩) (.slice none 0 0) (.int .i64 1) (.int .i64 (-1))
    refine bodyPost_ret (results_two rfl _ _ (w.heap.size + 4) (w.heap.size + 5) _ _ _ _ _ _ _ _ rfl k1 rfl k2 Tryd.underlying41 rfl (by kernel_rfl) Tryd.underlying44 rfl (by kernel_rfl)) rfl ?_
    rw [HE.out]
    exact ⟨none, 0, rfl, tlvs_nil _ _, k3⟩

end Go.Proofs.YtbhlennolghjmaaDoor
