/-
  What the document's Build answers: for every side of up to 300 numbers and codes, every message of up to 1000 fields, in every world.
-/
import Derived.Test.YtnbllngljgmebaaDoorRejBuild
import Derived.Test.YtnbllngljgmebaaDoorPackMsg
import Derived.Test.YtnbllngljgmebaaDoorPackMti
import Derived.Test.YtnbllngljgmebaaDoorPackBase
namespace Go.Proofs.YtnbllngljgmebaaDoor
open Go.RowKit

section
variable {w u u' : World} {st v : Int} {A : Option Addr} {n cA : Nat} {X : Option Addr} {nM cM : Nat} {Y : Option Addr} {nR cR : Nat} {B : Option Addr} {nE cB : Nat} {D : Option Addr} {nC cD : Nat} {m : ByteArray} {F : Option Addr} {nF cF : Nat} {er fd : Int}
theorem RB.store (h : RB w st v A n cA X nM cM Y nR cR B nE cB D nC cD m F nF cF er fd u) {g : Nat} (hg : w.heap.size + 3 < g) (x y : Value) : RB w st v A n cA X nM cM Y nR cR B nE cB D nC cD m F nF cF er fd ((u.setCell ⟨g, 0, none⟩ x).setCell ⟨g, 1, none⟩ y) := by
  obtain ⟨h1, h2, h3, h4, h5⟩ := h
  exact ⟨below_set2 h1 (by omega) _ _, obj_set_other h2 (by omega) _ _, obj_set_other h3 (by omega) _ _, obj_set_other h4 (by omega) _ _, obj_set_other h5 (by omega) _ _⟩
end

set_option maxRecDepth 100000 in
set_option maxHeartbeats 6400000 in
theorem rjrefb_no (st v : Int) (A : Option Addr) (n cA : Nat) (X : Option Addr) (nM cM : Nat) (Y : Option Addr) (nR cR : Nat) (B : Option Addr) (nE cB : Nat) (D : Option Addr) (nC cD : Nat) (m : ByteArray) (F : Option Addr) (nF cF : Nat) (er fd : Int) (w : World) (h : askB m.data.toList = false) (hm : m.size ≤ maxLen) :
    Calls Tryd.prog 18 #[.agg #[.int .i64 st, .int .i64 v, .slice A n cA, .slice X nM cM, .slice Y nR cR, .slice B nE cB, .slice D nC cD], .agg #[.string m, .slice F nF cF], .agg #[.int .i64 er, .int .i64 fd]] w fun e w' => e = .returned (.tuple #[.agg #[.string ⟨#[]⟩, .slice none 0 0], .bool false]) ∧ Below w.heap.size w w' := by
  have HR := Lib.hid (fun W => mrefReq_any m W hm)
  rw [h] at HR
  have HQ : Hid (RB w st v A n cA X nM cM Y nR cR B nE cB D nC cD m F nF cF er fd ((((w.alloc (.cells #[.int .i64 st, .int .i64 v, .slice A n cA, .slice X nM cM, .slice Y nR cR, .slice B nE cB, .slice D nC cD] 32)).alloc (.cells #[.string m, .slice F nF cF] 45)).alloc (.cells #[.int .i64 er, .int .i64 fd] 47)).alloc (.cells #[.string ⟨#[]⟩, .slice none 0 0] 45))) := rb_new
  clear h hm
  go_enter Tryd.func18, Tryd.ntmps18
  go_upto_region 1 with fail
  generalize ((((w.alloc (.cells #[.int .i64 st, .int .i64 v, .slice A n cA, .slice X nM cM, .slice Y nR cR, .slice B nE cB, .slice D nC cD] 32)).alloc (.cells #[.string m, .slice F nF cF] 45)).alloc (.cells #[.int .i64 er, .int .i64 fd] 47)).alloc (.cells #[.string ⟨#[]⟩, .slice none 0 0] 45)) = U at *
  obtain ⟨m0, m1, _, _⟩ := obj_cells HQ.out.2.2.1
  go_wp2_with fail
  clear m0 m1
  refine (HR.out _).mono ?_
  rintro e w1 ⟨rfl, rfl⟩
  have HQ1 := HQ
  obtain ⟨r0, r1, f0, f1⟩ := obj_cells HQ1.out.2.2.2.2
  clear HQ HR
  go_wp2
  refine bodyPost_ret (results_cell_row1 rfl _ _ (w.heap.size + 3) _ _ _ _ rfl (obj_set2 HQ1.out.2.2.2.2 _ _) Tryd.underlying45 rfl (by kernel_rfl)) rfl ?_
  exact ⟨rfl, below_set2 HQ1.out.1 (by omega) _ _⟩

set_option maxRecDepth 100000 in
set_option maxHeartbeats 25600000 in
theorem rjrefb_yes (st v : Int) (A : Option Addr) (n cA : Nat) (X : Option Addr) (nM cM : Nat) (Y : Option Addr) (nR cR : Nat) (B : Option Addr) (cB : Nat) (E : List Int) (D : Option Addr) (cD : Nat) (C : List Item) (m : ByteArray) (F : Option Addr) (cF : Nat) (l : List Item) (er fd : Int) (w : World) (h : askB m.data.toList = true) (hm : m.size ≤ maxLen) (hE : Ints w B E) (hC : Tlvs w D C) (hF : Tlvs w F l)
    (hne : E.length ≤ 300) (hnc : C.length ≤ 300) (hnl : l.length ≤ 1000) :
    Calls Tryd.prog 18 #[.agg #[.int .i64 st, .int .i64 v, .slice A n cA, .slice X nM cM, .slice Y nR cR, .slice B E.length cB, .slice D C.length cD], .agg #[.string m, .slice F l.length cF], .agg #[.int .i64 er, .int .i64 fd]] w fun e w' => ∃ A' c', e = .returned (.tuple #[.agg #[.string (respM m), .slice A' (ansL E C er l).length c'], .bool true]) ∧ Tlvs w' A' (ansL E C er l) ∧ Below w.heap.size w w' := by
  have HRQ := Lib.hid (fun W => mrefReq_any m W hm)
  rw [h] at HRQ
  obtain ⟨a, b, c, d, rfl, ha, hb, hc, hd⟩ := ask_of h
  have HR := Lib.hid (fun W => mrefResp_yes a b c d W ha hb hc hd)
  have HRM : Hid (respM (T4 a b c d) = T4 a b (c + 1) d) := rfl
  have HCD := Lib.hid (fun W h0 => refCode_any st v A n cA X nM cM Y nR cR B E.length cB D cD C er W h0 hnc)
  have HFI := Lib.hid (fun z W h0 => mfind_any (T4 a b c d) F cF l z W h0 hnl)
  have HRL := Lib.hid (fun z => vfind_rel z l 0)
  have HWI : Hid (∀ A' c' (L : List Item) z s W, L.length ≤ 999 → Tlvs W A' L → Calls Tryd.prog 43 #[.agg #[.string (T4 a b (c + 1) d), .slice A' L.length c'], .int .i64 z, .string s] W fun e w' => ∃ x, e = .returned x ∧ ∃ B' d', x = .agg #[.string (T4 a b (c + 1) d), .slice B' (withL z s L).length d'] ∧ Tlvs w' B' (withL z s L) ∧ Below W.heap.size W w') := fun A' c' L z s W hle hW => (mrwith_any (T4 a b (c + 1) d) A' c' L z s W hW hle).mono fun e w' ⟨B', d', he, ht, hb⟩ => ⟨_, he, B', d', rfl, ht, hb⟩
  have HQ : Hid (RB w st v A n cA X nM cM Y nR cR B E.length cB D C.length cD (T4 a b c d) F l.length cF er fd ((((w.alloc (.cells #[.int .i64 st, .int .i64 v, .slice A n cA, .slice X nM cM, .slice Y nR cR, .slice B E.length cB, .slice D C.length cD] 32)).alloc (.cells #[.string (T4 a b c d), .slice F l.length cF] 45)).alloc (.cells #[.int .i64 er, .int .i64 fd] 47)).alloc (.cells #[.string ⟨#[]⟩, .slice none 0 0] 45))) := rb_new
  have HEL := Lib.hid (fun k hk => @echo_len E l k hk)
  have HES := Lib.hid (fun k (hk : k < E.length) => @echo_step E k hk l)
  have HEA := Lib.hid (echo_all E l)
  have HAN : Hid (withL 39 (codeS C er) (echoL E l) = ansL E C er l) := rfl
  have HE := Lib.hid hE
  have HC := Lib.hid hC
  have HF := Lib.hid hF
  clear h hE hC hF ha hb hc hd hnc hm
  generalize T4 a b c d = t at *
  generalize T4 a b (c + 1) d = t' at *
  generalize hRL : ansL E C er l = RL at *
  clear hRL
  generalize codeS C er = cs at *
  generalize hen : E.length = ne at *
  have HNE := Lib.hid hen
  generalize C.length = nc at *
  generalize hln : l.length = nl at *
  have HNL := Lib.hid hln
  clear hen hln
  go_enter Tryd.func18, Tryd.ntmps18
  go_upto_region 1 with fail
  generalize ((((w.alloc (.cells #[.int .i64 st, .int .i64 v, .slice A n cA, .slice X nM cM, .slice Y nR cR, .slice B ne cB, .slice D nc cD] 32)).alloc (.cells #[.string t, .slice F nl cF] 45)).alloc (.cells #[.int .i64 er, .int .i64 fd] 47)).alloc (.cells #[.string ⟨#[]⟩, .slice none 0 0] 45)) = U at *
  obtain ⟨m0, m1, _, _⟩ := obj_cells HQ.out.2.2.1
  go_wp2_with fail
  clear m0 m1
  refine (HRQ.out _).mono ?_
  rintro e w1 ⟨rfl, rfl⟩
  have HQ1 := HQ
  obtain ⟨m0, m1, _, _⟩ := obj_cells HQ1.out.2.2.1
  clear HQ HRQ
  go_wp2_with fail
  clear m0 m1
  refine (HR.out _).mono ?_
  rintro e w2 ⟨rfl, hb2⟩
  have hbn := below_al w2 (.cells #[.string t', .slice none 0 0] 45)
  have HQ2 := Lib.hid (HQ1.out.below (hbt hb2 hbn))
  have HX2 : Hid (MBox (w2.alloc (.cells #[.string t', .slice none 0 0] 45)) w2.heap.size t' none 0 0) := mbox_new _ _ _ _ _
  have HG : Hid (w.heap.size + 3 < w2.heap.size) := obj_lt (HQ1.out.below hb2).2.2.2.2
  clear hb2 hbn HQ1 HR
  go_upto_region 4 with fail
  generalize w2.alloc (.cells #[.string t', .slice none 0 0] 45) = W2 at *
  generalize w2.heap.size = g at *
  go_wp2
  go_loopw [9] (fun i wr => ∃ k : Nat, k ≤ ne ∧ i = .int .i64 (k : Int) ∧ RB w st v A n cA X nM cM Y nR cR B ne cB D nc cD t F nl cF er fd wr ∧ ∃ X' c', MBox wr g t' X' (echoL (E.take k) l).length c' ∧ Tlvs wr X' (echoL (E.take k) l)) (fun i _ => ne - (intOf i).toNat)
  case atStart => exact ⟨0, Nat.zero_le _, rfl, HQ2.out, none, 0, HX2.out, tlvs_nil _ _⟩
  case round =>
    clear HQ2 HX2
    obtain ⟨k, hk, rfl, hq, X', c', hx, ht⟩ := hrel
    have HQ := Lib.hid hq
    have HX := Lib.hid hx
    have HT := Lib.hid ht
    have hLL : (echoL (E.take k) l).length ≤ 999 := Nat.le_trans (HEL.out k (by have := HNE.out; omega)) (by omega)
    clear hq hx ht
    obtain ⟨c0, c1, c2, c3, c4, c5, c6⟩ := HQ.out.2.1.cells
    by_cases hlt : k < ne
    · have hke : k < E.length := by have := HNE.out; omega
      have HST := Lib.hid (HES.out k (by omega))
      obtain ⟨aE, rfl, _⟩ := HE.out k hke
      have HEC : Hid (∀ u, Ints u (some aE) E → u.cell? (aE.add k) = some (.int .i64 (E.getD k 0))) := fun u hu => by
        obtain ⟨a, ha, h⟩ := hu k hke
        injection ha with ha
        subst ha
        exact h
      have HBW := Lib.hid HQ.out.1
      generalize E.getD k 0 = z at *
      generalize echoL (E.take k) l = L at *
      generalize hLn : L.length = nL at *
      have HLN := Lib.hid hLn
      clear hLn hke
      have HFZ := Lib.hid (fun W h => HFI.out z W h)
      have hrl := HRL.out z
      generalize vfI z 0 l = fz at *
      go_wp2_with fail
      clear c0 c1 c2 c3 c4 c5 c6
      refine wp_region_noPanic ?_
      refine wp_region_held_drew (S := (fun u => Below wr.heap.size wr u)) (by kernel_rfl) ((Below.refl _ _).drew) (fun hS => ?_)
      refine gv 0 (v := ?_) (fun u hu => ?_) hS ?_
      rotate_left
      · ((obtain ⟨c0, c1, c2, c3, c4, c5, c6⟩ := (HQ.out.below hu).2.1.cells; obtain ⟨m0, m1, _, _⟩ := obj_cells (HQ.out.below hu).2.2.1; have e0 := HEC.out _ (HE.out.below (hbt HBW.out hu))); go_simp; try (with_reducible rfl))
      try simp only [puts]
      refine gv 1 (v := ?_) (fun u hu => ?_) hS ?_
      rotate_left
      · ((obtain ⟨c0, c1, c2, c3, c4, c5, c6⟩ := (HQ.out.below hu).2.1.cells; obtain ⟨m0, m1, _, _⟩ := obj_cells (HQ.out.below hu).2.2.1; have e0 := HEC.out _ (HE.out.below (hbt HBW.out hu))); go_simp; try (with_reducible rfl))
      try simp only [puts]
      refine gv 2 (v := ?_) (fun u hu => ?_) hS ?_
      rotate_left
      · ((obtain ⟨c0, c1, c2, c3, c4, c5, c6⟩ := (HQ.out.below hu).2.1.cells; obtain ⟨m0, m1, _, _⟩ := obj_cells (HQ.out.below hu).2.2.1; have e0 := HEC.out _ (HE.out.below (hbt HBW.out hu))); go_simp; try (with_reducible rfl))
      try simp only [puts]
      refine gv 3 (v := ?_) (fun u hu => ?_) hS ?_
      rotate_left
      · ((obtain ⟨c0, c1, c2, c3, c4, c5, c6⟩ := (HQ.out.below hu).2.1.cells; obtain ⟨m0, m1, _, _⟩ := obj_cells (HQ.out.below hu).2.2.1; have e0 := HEC.out _ (HE.out.below (hbt HBW.out hu))); go_simp; try (with_reducible rfl))
      try simp only [puts]
      refine gv 4 (v := ?_) (fun u hu => ?_) hS ?_
      rotate_left
      · ((obtain ⟨c0, c1, c2, c3, c4, c5, c6⟩ := (HQ.out.below hu).2.1.cells; obtain ⟨m0, m1, _, _⟩ := obj_cells (HQ.out.below hu).2.2.1; have e0 := HEC.out _ (HE.out.below (hbt HBW.out hu))); go_simp; try (with_reducible rfl))
      try simp only [puts]
      refine gv 5 (v := ?_) (fun u hu => ?_) hS ?_
      rotate_left
      · ((obtain ⟨c0, c1, c2, c3, c4, c5, c6⟩ := (HQ.out.below hu).2.1.cells; obtain ⟨m0, m1, _, _⟩ := obj_cells (HQ.out.below hu).2.2.1; have e0 := HEC.out _ (HE.out.below (hbt HBW.out hu))); go_simp; try (with_reducible rfl))
      try simp only [puts]
      refine only_call (i := 6) 42 #[.agg #[.string t, .slice F nl cF], .int .i64 z] rfl (by kernel_rfl) (by rfl) ((HFZ.out _ (HF.out.below (hbt HBW.out hS))).mono fun e w' he => ⟨he.1, hbt hS he.2⟩) ?_ ?_
      · (go_simp; try (with_reducible rfl))
      clear hS
      intro w6 hS
      try simp only [puts]
      refine gv 7 (v := ?_) (fun u hu => ?_) hS ?_
      rotate_left
      · ((obtain ⟨c0, c1, c2, c3, c4, c5, c6⟩ := (HQ.out.below hu).2.1.cells; obtain ⟨m0, m1, _, _⟩ := obj_cells (HQ.out.below hu).2.2.1; have e0 := HEC.out _ (HE.out.below (hbt HBW.out hu))); go_simp; try (with_reducible rfl))
      try simp only [puts]
      refine wpAnyH_done (by kernel_rfl) (NoPanic.normal ?_) _
      rename World => W1
      have HQ1 := Lib.hid (HQ.out.below hS)
      have HX1 := Lib.hid (HX.out.below hS)
      have HT1 := Lib.hid (HT.out.below hS)
      clear hS
      rcases hrl with ⟨h1, _, rfl⟩ | ⟨kk, hkk, rfl, h2, h3⟩
      · have HS1 := Lib.hid (HST.out.trans (if_neg (by rw [h1]; decide)))
        clear h1
        go_wp2
        go_roundw
        case rel => exact ⟨k + 1, by omega, by go_num, HQ1.out, X', c', by rw [HS1.out, HLN.out]; exact HX1.out, by rw [HS1.out]; exact HT1.out⟩
        case measure => simp [intOf]; omega
      · have HS1 := Lib.hid (HST.out.trans (if_pos h2))
        rw [h3] at HS1
        obtain ⟨aF, n0, s, rfl, hx, _, _⟩ := HF.out.at_ (show kk < l.length by have := HNL.out; omega)
        have HFC : Hid (∀ u, Tlvs u (some aF) l → u.cell? (aF.add (kk * 2)) = some (.int .i64 n0) ∧ u.cell? ⟨(aF.add (kk * 2)).block, (aF.add (kk * 2)).off + 1, none⟩ = some (.string s)) := fun u hu => by
          obtain ⟨a, z', s', ha, hx', h⟩ := hu.at_ (show kk < l.length by have := HNL.out; omega)
          injection ha with ha
          subst ha
          rw [hx] at hx'
          injection hx' with e1 e2
          subst e1 e2
          exact h
        rw [hx] at HS1
        have HS1 : Hid (echoL (E.take (k + 1)) l = withL z s L) := HS1.out
        have hkk' : kk < nl := by have := HNL.out; omega
        have tge : decide (((0 + kk : Nat) : Int) ≥ 0) = true := by simp
        clear hx h2 h3 hkk
        rw [Nat.zero_add] at *
        have HWI := Lib.hid (fun W h => HWI.out X' c' L z s W (by rw [HLN.out]; exact hLL) h)
        rw [HLN.out] at HWI
        generalize hWL : withL z s L = WL at *
        generalize hwn : WL.length = wn at *
        have HWN := Lib.hid hwn
        clear hwn hWL
        go_wp2_with fail
        refine wp_region_noPanic ?_
        refine wp_region_late (fun u => Below W1.heap.size W1 u) 13 (by kernel_rfl) ((Below.refl _ _).drew) (fun hT => ?_)
        refine lv 0 (v := ?_) (fun u hu => ?_) hT ?_
        rotate_left
        · ((obtain ⟨c0, c1, c2, c3, c4, c5, c6⟩ := (HQ1.out.below hu).2.1.cells; obtain ⟨m0, m1, _, _⟩ := obj_cells (HQ1.out.below hu).2.2.1; have e0 := HEC.out _ (HE.out.below (HQ1.out.below hu).1); obtain ⟨x0, x1, _, _⟩ := obj_cells (HX1.out.below hu); obtain ⟨d0, d1⟩ := HFC.out _ (HF.out.below (HQ1.out.below hu).1)); go_simp; try (with_reducible rfl))
        try simp only [puts]
        refine lv 1 (v := ?_) (fun u hu => ?_) hT ?_
        rotate_left
        · ((obtain ⟨c0, c1, c2, c3, c4, c5, c6⟩ := (HQ1.out.below hu).2.1.cells; obtain ⟨m0, m1, _, _⟩ := obj_cells (HQ1.out.below hu).2.2.1; have e0 := HEC.out _ (HE.out.below (HQ1.out.below hu).1); obtain ⟨x0, x1, _, _⟩ := obj_cells (HX1.out.below hu); obtain ⟨d0, d1⟩ := HFC.out _ (HF.out.below (HQ1.out.below hu).1)); go_simp; try (with_reducible rfl))
        try simp only [puts]
        refine lv 2 (v := ?_) (fun u hu => ?_) hT ?_
        rotate_left
        · ((obtain ⟨c0, c1, c2, c3, c4, c5, c6⟩ := (HQ1.out.below hu).2.1.cells; obtain ⟨m0, m1, _, _⟩ := obj_cells (HQ1.out.below hu).2.2.1; have e0 := HEC.out _ (HE.out.below (HQ1.out.below hu).1); obtain ⟨x0, x1, _, _⟩ := obj_cells (HX1.out.below hu); obtain ⟨d0, d1⟩ := HFC.out _ (HF.out.below (HQ1.out.below hu).1)); go_simp; try (with_reducible rfl))
        try simp only [puts]
        refine lv 3 (v := ?_) (fun u hu => ?_) hT ?_
        rotate_left
        · ((obtain ⟨c0, c1, c2, c3, c4, c5, c6⟩ := (HQ1.out.below hu).2.1.cells; obtain ⟨m0, m1, _, _⟩ := obj_cells (HQ1.out.below hu).2.2.1; have e0 := HEC.out _ (HE.out.below (HQ1.out.below hu).1); obtain ⟨x0, x1, _, _⟩ := obj_cells (HX1.out.below hu); obtain ⟨d0, d1⟩ := HFC.out _ (HF.out.below (HQ1.out.below hu).1)); go_simp; try (with_reducible rfl))
        try simp only [puts]
        refine lv 4 (v := ?_) (fun u hu => ?_) hT ?_
        rotate_left
        · ((obtain ⟨c0, c1, c2, c3, c4, c5, c6⟩ := (HQ1.out.below hu).2.1.cells; obtain ⟨m0, m1, _, _⟩ := obj_cells (HQ1.out.below hu).2.2.1; have e0 := HEC.out _ (HE.out.below (HQ1.out.below hu).1); obtain ⟨x0, x1, _, _⟩ := obj_cells (HX1.out.below hu); obtain ⟨d0, d1⟩ := HFC.out _ (HF.out.below (HQ1.out.below hu).1)); go_simp; try (with_reducible rfl))
        try simp only [puts]
        refine lv 5 (v := ?_) (fun u hu => ?_) hT ?_
        rotate_left
        · ((obtain ⟨c0, c1, c2, c3, c4, c5, c6⟩ := (HQ1.out.below hu).2.1.cells; obtain ⟨m0, m1, _, _⟩ := obj_cells (HQ1.out.below hu).2.2.1; have e0 := HEC.out _ (HE.out.below (HQ1.out.below hu).1); obtain ⟨x0, x1, _, _⟩ := obj_cells (HX1.out.below hu); obtain ⟨d0, d1⟩ := HFC.out _ (HF.out.below (HQ1.out.below hu).1)); go_simp; try (with_reducible rfl))
        try simp only [puts]
        refine lv 6 (v := ?_) (fun u hu => ?_) hT ?_
        rotate_left
        · ((obtain ⟨c0, c1, c2, c3, c4, c5, c6⟩ := (HQ1.out.below hu).2.1.cells; obtain ⟨m0, m1, _, _⟩ := obj_cells (HQ1.out.below hu).2.2.1; have e0 := HEC.out _ (HE.out.below (HQ1.out.below hu).1); obtain ⟨x0, x1, _, _⟩ := obj_cells (HX1.out.below hu); obtain ⟨d0, d1⟩ := HFC.out _ (HF.out.below (HQ1.out.below hu).1)); go_simp; try (with_reducible rfl))
        try simp only [puts]
        refine lv 7 (v := ?_) (fun u hu => ?_) hT ?_
        rotate_left
        · ((obtain ⟨c0, c1, c2, c3, c4, c5, c6⟩ := (HQ1.out.below hu).2.1.cells; obtain ⟨m0, m1, _, _⟩ := obj_cells (HQ1.out.below hu).2.2.1; have e0 := HEC.out _ (HE.out.below (HQ1.out.below hu).1); obtain ⟨x0, x1, _, _⟩ := obj_cells (HX1.out.below hu); obtain ⟨d0, d1⟩ := HFC.out _ (HF.out.below (HQ1.out.below hu).1)); go_simp; try (with_reducible rfl))
        try simp only [puts]
        refine lv 8 (v := ?_) (fun u hu => ?_) hT ?_
        rotate_left
        · ((obtain ⟨c0, c1, c2, c3, c4, c5, c6⟩ := (HQ1.out.below hu).2.1.cells; obtain ⟨m0, m1, _, _⟩ := obj_cells (HQ1.out.below hu).2.2.1; have e0 := HEC.out _ (HE.out.below (HQ1.out.below hu).1); obtain ⟨x0, x1, _, _⟩ := obj_cells (HX1.out.below hu); obtain ⟨d0, d1⟩ := HFC.out _ (HF.out.below (HQ1.out.below hu).1)); go_simp; try (with_reducible rfl))
        try simp only [puts]
        refine lv 9 (v := ?_) (fun u hu => ?_) hT ?_
        rotate_left
        · ((obtain ⟨c0, c1, c2, c3, c4, c5, c6⟩ := (HQ1.out.below hu).2.1.cells; obtain ⟨m0, m1, _, _⟩ := obj_cells (HQ1.out.below hu).2.2.1; have e0 := HEC.out _ (HE.out.below (HQ1.out.below hu).1); obtain ⟨x0, x1, _, _⟩ := obj_cells (HX1.out.below hu); obtain ⟨d0, d1⟩ := HFC.out _ (HF.out.below (HQ1.out.below hu).1)); go_simp; try (with_reducible rfl))
        try simp only [puts]
        refine lv 10 (v := ?_) (fun u hu => ?_) hT ?_
        rotate_left
        · ((obtain ⟨c0, c1, c2, c3, c4, c5, c6⟩ := (HQ1.out.below hu).2.1.cells; obtain ⟨m0, m1, _, _⟩ := obj_cells (HQ1.out.below hu).2.2.1; have e0 := HEC.out _ (HE.out.below (HQ1.out.below hu).1); obtain ⟨x0, x1, _, _⟩ := obj_cells (HX1.out.below hu); obtain ⟨d0, d1⟩ := HFC.out _ (HF.out.below (HQ1.out.below hu).1)); go_simp; try (with_reducible rfl))
        try simp only [puts]
        refine lv 11 (v := ?_) (fun u hu => ?_) hT ?_
        rotate_left
        · ((obtain ⟨c0, c1, c2, c3, c4, c5, c6⟩ := (HQ1.out.below hu).2.1.cells; obtain ⟨m0, m1, _, _⟩ := obj_cells (HQ1.out.below hu).2.2.1; have e0 := HEC.out _ (HE.out.below (HQ1.out.below hu).1); obtain ⟨x0, x1, _, _⟩ := obj_cells (HX1.out.below hu); obtain ⟨d0, d1⟩ := HFC.out _ (HF.out.below (HQ1.out.below hu).1)); go_simp; try (with_reducible rfl))
        try simp only [puts]
        refine late_lone (i := 12) rfl (by kernel_rfl) (by rfl) (fun K hK => ?_)
        refine wp_enters_some 43 #[.agg #[.string t', .slice X' nL c'], .int .i64 z, .string s] (HWI.out _ (HT1.out.below hT)) (by go_simp; try (with_reducible rfl)) ?_
        intro v12 w12 h12
        obtain ⟨A12, c12, rfl, ht12, hb12⟩ := h12
        refine hK.out _ _ ((hbt hT hb12)) ?_
        clear hK
        try simp only [puts]
        replace hT := hbt hT hb12
        have HQ3 := Lib.hid (HQ1.out.below hT)
        have HX3 := Lib.hid (HX1.out.below hT)
        have HT3 := Lib.hid ht12
        clear hb12 ht12
        refine late_only rfl (by kernel_rfl) (by rfl) (fun K hK => ?_)
        obtain ⟨x0, x1, f0, f1⟩ := obj_cells HX3.out
        go_simp
        refine hK.out _ _ ?_
        clear hK
        try simp only [puts]
        refine late_done (by kernel_rfl) (NoPanic.normal ?_) _
        clear x0 x1 f0 f1 hT
        have HQ4 := Lib.hid (HQ3.out.store HG.out (.string t') (.slice A12 wn c12))
        have HX4 := Lib.hid (obj_set2 HX3.out (.string t') (.slice A12 wn c12))
        have HT4 := Lib.hid (vals_store2 HT3.out HX3.out t' A12 wn c12)
        generalize (w12.setCell _ _).setCell _ _ = W4 at *
        go_wp2
        go_roundw
        case rel => exact ⟨k + 1, by omega, by go_num, HQ4.out, A12, c12, by rw [HS1.out, HWN.out]; exact HX4.out, by rw [HS1.out]; exact HT4.out⟩
        case measure => simp [intOf]; omega
    · have hkn : E.take k = E.take ne := by rw [show k = ne by omega]
      rw [hkn, HEA.out] at HX HT hLL
      clear hkn
      have HWI := Lib.hid (fun W h => HWI.out X' c' _ 39 cs W hLL h)
      rw [HAN.out] at HWI
      generalize echoL E l = L at *
      generalize L.length = nL at *
      generalize hrn : RL.length = rn at *
      have HRN := Lib.hid hrn
      clear hrn
      go_wp2_with fail
      clear c0 c1 c2 c3 c4 c5 c6
      have HS0 : Hid (RS w st v A n cA X nM cM Y nR cR B ne cB D nc cD er fd g t' X' L nL c' wr) := ⟨HQ.out.1, HQ.out.2.1, HQ.out.2.2.2.1, HX.out, HT.out, _, _, _, _, HQ.out.2.2.2.2⟩
      refine wp_region_noPanic ?_
      refine wp_region_held_drew (S := (RS w st v A n cA X nM cM Y nR cR B ne cB D nc cD er fd g t' X' L nL c')) (by kernel_rfl) ((HS0.out.below (Below.refl _ _).drew)) (fun hS => ?_)
      refine gv 0 (v := ?_) (fun u hu => ?_) hS ?_
      rotate_left
      · ((obtain ⟨c0, c1, c2, c3, c4, c5, c6⟩ := hu.2.1.cells; obtain ⟨x0, x1, _, _⟩ := obj_cells hu.2.2.2.1; obtain ⟨f0, f1, _, _⟩ := obj_cells hu.2.2.1); go_simp; try (with_reducible rfl))
      try simp only [puts]
      refine gv 1 (v := ?_) (fun u hu => ?_) hS ?_
      rotate_left
      · ((obtain ⟨c0, c1, c2, c3, c4, c5, c6⟩ := hu.2.1.cells; obtain ⟨x0, x1, _, _⟩ := obj_cells hu.2.2.2.1; obtain ⟨f0, f1, _, _⟩ := obj_cells hu.2.2.1); go_simp; try (with_reducible rfl))
      try simp only [puts]
      refine gv 2 (v := ?_) (fun u hu => ?_) hS ?_
      rotate_left
      · ((obtain ⟨c0, c1, c2, c3, c4, c5, c6⟩ := hu.2.1.cells; obtain ⟨x0, x1, _, _⟩ := obj_cells hu.2.2.2.1; obtain ⟨f0, f1, _, _⟩ := obj_cells hu.2.2.1); go_simp; try (with_reducible rfl))
      try simp only [puts]
      refine gv 3 (v := ?_) (fun u hu => ?_) hS ?_
      rotate_left
      · ((obtain ⟨c0, c1, c2, c3, c4, c5, c6⟩ := hu.2.1.cells; obtain ⟨x0, x1, _, _⟩ := obj_cells hu.2.2.2.1; obtain ⟨f0, f1, _, _⟩ := obj_cells hu.2.2.1); go_simp; try (with_reducible rfl))
      try simp only [puts]
      refine only_call (i := 4) 14 #[.agg #[.int .i64 st, .int .i64 v, .slice A n cA, .slice X nM cM, .slice Y nR cR, .slice B ne cB, .slice D nc cD], .int .i64 er] rfl (by kernel_rfl) (by rfl) ((HCD.out _ (HC.out.below hS.1)).mono fun e w' he => ⟨he.1, hS.below he.2⟩) ?_ ?_
      · (go_simp; try (with_reducible rfl))
      clear hS
      intro w4 hS
      try simp only [puts]
      refine only_some (i := 5) 43 #[.agg #[.string t', .slice X' nL c'], .int .i64 39, .string cs] rfl (by kernel_rfl) (by rfl) (HWI.out _ hS.2.2.2.2.1) ?_ ?_
      · (go_simp; try (with_reducible rfl))
      intro v5 w5 hT
      obtain ⟨A5, k5, rfl, ht5, hb5⟩ := hT
      have hS' := hS.below hb5
      refine ⟨hS', ?_⟩
      clear hS
      have hS := hS'; clear hS'
      try simp only [puts]
      have HT5 := Lib.hid ht5
      have HS5 := Lib.hid hS
      clear ht5 hb5
      obtain ⟨_, _, _, _, _, m', X2, n', c2, h6⟩ := id hS
      have HX5 := Lib.hid h6
      refine only (i := 6) rfl (by kernel_rfl) (by rfl) (fun K hK => ?_)
      obtain ⟨r0, r1, f0, f1⟩ := obj_cells h6
      go_simp
      have hS6 := hS.store HG.out t' A5 rn k5
      refine hK.out _ _ hS6 ?_
      clear hK
      try simp only [puts]
      clear hS
      have hS := hS6
      clear hS6
      refine gv 7 (v := ?_) (fun u hu => ?_) hS ?_
      rotate_left
      · ((obtain ⟨c0, c1, c2, c3, c4, c5, c6⟩ := hu.2.1.cells; obtain ⟨x0, x1, _, _⟩ := obj_cells hu.2.2.2.1; obtain ⟨f0, f1, _, _⟩ := obj_cells hu.2.2.1); go_simp; try (with_reducible rfl))
      try simp only [puts]
      refine wpAnyH_done (by kernel_rfl) (NoPanic.normal ?_) _
      have HR5 := Lib.hid (obj_set2 HX5.out (.string t') (.slice A5 rn k5))
      have HB5 := Lib.hid (below_set2 HS5.out.1 (Nat.le_add_right _ 3) (.string t') (.slice A5 rn k5))
      have HT6 := Lib.hid (vals_store2 HT5.out HX5.out t' A5 rn k5)
      clear r0 r1 f0 f1 h6 hS
      generalize ((w5.setCell _ _).setCell _ _) = w6 at *
      go_wp2
      refine bodyPost_ret (results_cell_row1 rfl _ _ (w.heap.size + 3) _ _ _ _ rfl HR5.out Tryd.underlying45 rfl (by kernel_rfl)) rfl ?_
      exact ⟨A5, k5, by rw [HRM.out, HRN.out]; rfl, HT6.out, HB5.out⟩

end Go.Proofs.YtnbllngljgmebaaDoor
