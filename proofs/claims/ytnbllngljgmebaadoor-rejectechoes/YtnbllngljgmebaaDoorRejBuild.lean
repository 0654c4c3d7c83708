/-
  What the program's Build answers: for every side, message and fault that the machine can hold, in every world.
-/
import Derived.Test.YtnbllngljgmebaaDoorRejText
import Derived.Test.YtnbllngljgmebaaDoorRejEcho
import Derived.Test.YtnbllngljgmebaaDoorPackMti
import Derived.Test.YtnbllngljgmebaaDoorPackMsg
import Derived.Test.YtnbllngljgmebaaDoorPackBase
import Derived.Deep.DeepCutAuto
namespace Go.Proofs.YtnbllngljgmebaaDoor
open Go.RowKit

/-- What stands in the first blocks: a side, a message, a fault, and the answer's own. -/
def RB (w : World) (st v : Int) (A : Option Addr) (n cA : Nat) (X : Option Addr) (nM cM : Nat) (Y : Option Addr) (nR cR : Nat) (B : Option Addr) (nE cB : Nat) (D : Option Addr) (nC cD : Nat) (m : ByteArray) (F : Option Addr) (nF cF : Nat) (er fd : Int) (u : World) : Prop :=
  Below w.heap.size w u ∧ SBox u w.heap.size st v A n cA X nM cM Y nR cR B nE cB D nC cD ∧ MBox u (w.heap.size + 1) m F nF cF ∧ u.heap[w.heap.size + 2]? = some (.cells #[.int .i64 er, .int .i64 fd] 47) ∧ MBox u (w.heap.size + 3) ⟨#[]⟩ none 0 0
section
variable {w u u' : World} {st v : Int} {A : Option Addr} {n cA : Nat} {X : Option Addr} {nM cM : Nat} {Y : Option Addr} {nR cR : Nat} {B : Option Addr} {nE cB : Nat} {D : Option Addr} {nC cD : Nat} {m : ByteArray} {F : Option Addr} {nF cF : Nat} {er fd : Int}
theorem RB.below (h : RB w st v A n cA X nM cM Y nR cR B nE cB D nC cD m F nF cF er fd u) (hb : Below u.heap.size u u') : RB w st v A n cA X nM cM Y nR cR B nE cB D nC cD m F nF cF er fd u' :=
  ⟨hbt h.1 hb, h.2.1.below hb, h.2.2.1.below hb, obj_below h.2.2.2.1 hb, h.2.2.2.2.below hb⟩
theorem rb_new : RB w st v A n cA X nM cM Y nR cR B nE cB D nC cD m F nF cF er fd ((((w.alloc (.cells #[.int .i64 st, .int .i64 v, .slice A n cA, .slice X nM cM, .slice Y nR cR, .slice B nE cB, .slice D nC cD] 32)).alloc (.cells #[.string m, .slice F nF cF] 45)).alloc (.cells #[.int .i64 er, .int .i64 fd] 47)).alloc (.cells #[.string ⟨#[]⟩, .slice none 0 0] 45)) :=
  ⟨hbt (hbt (hbt (below_al _ _) (below_al _ _)) (below_al _ _)) (below_al _ _), ((sbox_new.below (below_al _ _)).below (below_al _ _)).below (below_al _ _), obj_below (obj_below (heap_al _ _ _ (by simp)) (below_al _ _)) (below_al _ _), obj_below (heap_al _ _ _ (by simp)) (below_al _ _), heap_al _ _ _ (by simp)⟩
end

/-- What a region keeps that stores into the answer's own block: a side, a fault, what is to be answered, with its fields. -/
def RS (w : World) (st v : Int) (A : Option Addr) (n cA : Nat) (X : Option Addr) (nM cM : Nat) (Y : Option Addr) (nR cR : Nat) (B : Option Addr) (nE cB : Nat) (D : Option Addr) (nC cD : Nat) (er fd : Int) (g : Nat) (t : ByteArray) (F : Option Addr) (L : List Item) (nL k : Nat) (u : World) : Prop :=
  Below w.heap.size w u ∧ SBox u w.heap.size st v A n cA X nM cM Y nR cR B nE cB D nC cD ∧ u.heap[w.heap.size + 2]? = some (.cells #[.int .i64 er, .int .i64 fd] 47) ∧ MBox u g t F nL k ∧ Tlvs u F L ∧ ∃ m' X' n' c', MBox u (w.heap.size + 3) m' X' n' c'
section
variable {w u u' : World} {st v : Int} {A : Option Addr} {n cA : Nat} {X : Option Addr} {nM cM : Nat} {Y : Option Addr} {nR cR : Nat} {B : Option Addr} {nE cB : Nat} {D : Option Addr} {nC cD : Nat} {er fd : Int} {g : Nat} {t : ByteArray} {F : Option Addr} {L : List Item} {nL k : Nat}
theorem RS.below (h : RS w st v A n cA X nM cM Y nR cR B nE cB D nC cD er fd g t F L nL k u) (hb : Below u.heap.size u u') : RS w st v A n cA X nM cM Y nR cR B nE cB D nC cD er fd g t F L nL k u' := by
  obtain ⟨h1, h2, h3, h4, h5, m', X', n', c', h6⟩ := h
  exact ⟨hbt h1 hb, h2.below hb, obj_below h3 hb, h4.below hb, h5.below hb, m', X', n', c', h6.below hb⟩
theorem RS.store (h : RS w st v A n cA X nM cM Y nR cR B nE cB D nC cD er fd g t F L nL k u) (hg : w.heap.size + 3 < g) (m' : ByteArray) (X' : Option Addr) (n' c' : Nat) : RS w st v A n cA X nM cM Y nR cR B nE cB D nC cD er fd g t F L nL k ((u.setCell ⟨w.heap.size + 3, 0, none⟩ (.string m')).setCell ⟨w.heap.size + 3, 1, none⟩ (.slice X' n' c')) := by
  obtain ⟨h1, h2, h3, h4, h5, _, _, _, _, h6⟩ := h
  exact ⟨below_set2 h1 (Nat.le_add_right _ 3) _ _, obj_set_other h2 (by omega) _ _, obj_set_other h3 (by omega) _ _, obj_set_other h4 (by omega) _ _, vals_store2 h5 h6 _ _ _ _, _, _, _, _, obj_set2 h6 _ _⟩
end

set_option maxRecDepth 100000 in
set_option maxHeartbeats 6400000 in
theorem rjbuild_no (st v : Int) (A : Option Addr) (n cA : Nat) (X : Option Addr) (nM cM : Nat) (Y : Option Addr) (nR cR : Nat) (B : Option Addr) (nE cB : Nat) (D : Option Addr) (nC cD : Nat) (m : ByteArray) (F : Option Addr) (nF cF : Nat) (er fd : Int) (w : World) (h : askB m.data.toList = false) :
    Calls Tryd.prog 16 #[.agg #[.int .i64 st, .int .i64 v, .slice A n cA, .slice X nM cM, .slice Y nR cR, .slice B nE cB, .slice D nC cD], .agg #[.string m, .slice F nF cF], .agg #[.int .i64 er, .int .i64 fd]] w fun e w' => e = .returned (.tuple #[.agg #[.string ⟨#[]⟩, .slice none 0 0], .bool false]) ∧ Below w.heap.size w w' := by
  have HR := Lib.hid (fun W => mresp_no m W h)
  have HQ : Hid (RB w st v A n cA X nM cM Y nR cR B nE cB D nC cD m F nF cF er fd ((((w.alloc (.cells #[.int .i64 st, .int .i64 v, .slice A n cA, .slice X nM cM, .slice Y nR cR, .slice B nE cB, .slice D nC cD] 32)).alloc (.cells #[.string m, .slice F nF cF] 45)).alloc (.cells #[.int .i64 er, .int .i64 fd] 47)).alloc (.cells #[.string ⟨#[]⟩, .slice none 0 0] 45))) := rb_new
  clear h
  go_enter Tryd.func16, Tryd.ntmps16
  go_upto_region 1 with fail
  generalize ((((w.alloc (.cells #[.int .i64 st, .int .i64 v, .slice A n cA, .slice X nM cM, .slice Y nR cR, .slice B nE cB, .slice D nC cD] 32)).alloc (.cells #[.string m, .slice F nF cF] 45)).alloc (.cells #[.int .i64 er, .int .i64 fd] 47)).alloc (.cells #[.string ⟨#[]⟩, .slice none 0 0] 45)) = U at *
  obtain ⟨m0, m1, _, _⟩ := obj_cells HQ.out.2.2.1
  go_wp2_with fail
  clear m0 m1
  refine (HR.out _).mono ?_
  rintro e w1 ⟨rfl, hb1⟩
  have HQ1 := Lib.hid (HQ.out.below hb1)
  obtain ⟨r0, r1, f0, f1⟩ := obj_cells HQ1.out.2.2.2.2
  clear hb1 HQ HR
  go_wp2
  refine bodyPost_ret (results_cell_row1 rfl _ _ (w.heap.size + 3) _ _ _ _ rfl (obj_set2 HQ1.out.2.2.2.2 _ _) Tryd.underlying45 rfl (by kernel_rfl)) rfl ?_
  exact ⟨rfl, below_set2 HQ1.out.1 (by omega) _ _⟩

set_option maxRecDepth 100000 in
set_option maxHeartbeats 12800000 in
theorem rjbuild_yes (st v : Int) (A : Option Addr) (n cA : Nat) (X : Option Addr) (nM cM : Nat) (Y : Option Addr) (nR cR : Nat) (B : Option Addr) (cB : Nat) (E : List Int) (D : Option Addr) (cD : Nat) (C : List Item) (m : ByteArray) (F : Option Addr) (cF : Nat) (l : List Item) (er fd : Int) (w : World) (h : askB m.data.toList = true) (hE : Ints w B E) (hC : Tlvs w D C) (hF : Tlvs w F l)
    (hne : E.length ≤ 20000000000000) (hnc : C.length ≤ maxLen) (hnl : l.length ≤ 5864062014700) (hwe : ∀ z ∈ E, (Lit.int .i64 z).wf = true) (hwl : ∀ x ∈ l, (Lit.int .i64 x.1).wf = true) :
    Calls Tryd.prog 16 #[.agg #[.int .i64 st, .int .i64 v, .slice A n cA, .slice X nM cM, .slice Y nR cR, .slice B E.length cB, .slice D C.length cD], .agg #[.string m, .slice F l.length cF], .agg #[.int .i64 er, .int .i64 fd]] w fun e w' => ∃ A' c', e = .returned (.tuple #[.agg #[.string (respM m), .slice A' (ansL E C er l).length c'], .bool true]) ∧ Tlvs w' A' (ansL E C er l) ∧ Below w.heap.size w w' := by
  obtain ⟨a, b, c, d, rfl, ha, hb, hc, hd⟩ := ask_of h
  have HR := Lib.hid (fun W => mresp_yes a b c d W ha hb hc hd)
  have HRM : Hid (respM (T4 a b c d) = T4 a b (c + 1) d) := rfl
  have HEC := Lib.hid (fun W h0 h1 => echoed_any B cB E F cF l W h0 h1 hne hnl hwe hwl)
  have HCD := Lib.hid (fun W h0 => code_any st v A n cA X nM cM Y nR cR B E.length cB D cD C er W h0 hnc)
  have HWI : Hid (∀ A' c' W, (echoL E l).length ≤ l.length → Tlvs W A' (echoL E l) → Calls Tryd.prog 39 #[.agg #[.string (T4 a b (c + 1) d), .slice A' (echoL E l).length c'], .int .i64 39, .string (codeS C er)] W fun e w' => ∃ x, e = .returned x ∧ ∃ B' d', x = .agg #[.string (T4 a b (c + 1) d), .slice B' (ansL E C er l).length d'] ∧ Tlvs w' B' (ansL E C er l) ∧ Below W.heap.size W w') := fun A' c' W hle hW => (mwith_any (T4 a b (c + 1) d) A' c' (echoL E l) 39 (codeS C er) W hW (by omega)).mono fun e w' ⟨B', d', he, ht, hb⟩ => ⟨_, he, B', d', rfl, ht, hb⟩
  have HQ : Hid (RB w st v A n cA X nM cM Y nR cR B E.length cB D C.length cD (T4 a b c d) F l.length cF er fd ((((w.alloc (.cells #[.int .i64 st, .int .i64 v, .slice A n cA, .slice X nM cM, .slice Y nR cR, .slice B E.length cB, .slice D C.length cD] 32)).alloc (.cells #[.string (T4 a b c d), .slice F l.length cF] 45)).alloc (.cells #[.int .i64 er, .int .i64 fd] 47)).alloc (.cells #[.string ⟨#[]⟩, .slice none 0 0] 45))) := rb_new
  have HE := Lib.hid hE
  have HC := Lib.hid hC
  have HF := Lib.hid hF
  clear h hE hC hF ha hb hc hd hwe hwl hne hnc hnl
  generalize T4 a b c d = t at *
  generalize T4 a b (c + 1) d = t' at *
  generalize ansL E C er l = RL at *
  generalize echoL E l = EL at *
  generalize codeS C er = cs at *
  generalize RL.length = rn at *
  generalize EL.length = en at *
  generalize E.length = ne at *
  generalize C.length = nc at *
  generalize l.length = nl at *
  go_enter Tryd.func16, Tryd.ntmps16
  go_upto_region 1 with fail
  generalize ((((w.alloc (.cells #[.int .i64 st, .int .i64 v, .slice A n cA, .slice X nM cM, .slice Y nR cR, .slice B ne cB, .slice D nc cD] 32)).alloc (.cells #[.string t, .slice F nl cF] 45)).alloc (.cells #[.int .i64 er, .int .i64 fd] 47)).alloc (.cells #[.string ⟨#[]⟩, .slice none 0 0] 45)) = U at *
  obtain ⟨m0, m1, _, _⟩ := obj_cells HQ.out.2.2.1
  go_wp2_with fail
  clear m0 m1
  refine (HR.out _).mono ?_
  rintro e w1 ⟨rfl, hb1⟩
  have HQ1 := Lib.hid (HQ.out.below hb1)
  obtain ⟨c0, c1, c2, c3, c4, c5, c6⟩ := HQ1.out.2.1.cells
  obtain ⟨m0, m1, _, _⟩ := obj_cells HQ1.out.2.2.1
  clear hb1 HQ HR
  go_wp2_with fail
  clear c0 c1 c2 c3 c4 c5 c6 m0 m1
  refine (HEC.out _ (HE.out.below HQ1.out.1) (HF.out.below HQ1.out.1)).mono ?_
  rintro e w2 ⟨A2, k2, rfl, hle, ht2, hb2⟩
  have hbn := below_al w2 (.cells #[.string t', .slice A2 en k2] 45)
  have HLE := Lib.hid hle
  have HQ2 := Lib.hid (HQ1.out.below (hbt hb2 hbn))
  have HT2 := Lib.hid (ht2.below hbn)
  have HX2 : Hid (MBox (w2.alloc (.cells #[.string t', .slice A2 en k2] 45)) w2.heap.size t' A2 en k2) := mbox_new _ _ _ _ _
  have HG2 : Hid (w.heap.size + 3 < w2.heap.size) := obj_lt (HQ1.out.below hb2).2.2.2.2
  clear hb2 hbn ht2 hle HQ1 HEC
  go_upto_region 5 with fail
  generalize w2.alloc (.cells #[.string t', .slice A2 en k2] 45) = W2 at *
  generalize w2.heap.size = g2 at *
  obtain ⟨c0, c1, c2, c3, c4, c5, c6⟩ := HQ2.out.2.1.cells
  obtain ⟨x0, x1, _, _⟩ := obj_cells HX2.out
  obtain ⟨f0, f1, _, _⟩ := obj_cells HQ2.out.2.2.2.1
  go_wp2_with fail
  clear c0 c1 c2 c3 c4 c5 c6 x0 x1 f0 f1
  have HS0 : Hid (RS w st v A n cA X nM cM Y nR cR B ne cB D nc cD er fd g2 t' A2 EL en k2 W2) := ⟨HQ2.out.1, HQ2.out.2.1, HQ2.out.2.2.2.1, HX2.out, HT2.out, _, _, _, _, HQ2.out.2.2.2.2⟩
  refine wp_region_noPanic ?_
  refine wp_region_held_drew (S := (RS w st v A n cA X nM cM Y nR cR B ne cB D nc cD er fd g2 t' A2 EL en k2)) (by kernel_rfl) ((HS0.out.below (Below.refl _ _).drew)) (fun hS => ?_)
  refine gv 0 (v := ?_) (fun u hu => ?_) hS ?_
  rotate_left
  · ((obtain ⟨c0, c1, c2, c3, c4, c5, c6⟩ := hu.2.1.cells; obtain ⟨x0, x1, _, _⟩ := obj_cells hu.2.2.2.1; obtain ⟨f0, f1, _, _⟩ := obj_cells hu.2.2.1); go_simp; try (with_reducible rfl))
  try simp only [puts]
  refine gv 1 (v := ?_) (fun u hu => ?_) hS ?_
  rotate_left
  · ((obtain ⟨c0, c1, c2, c3, c4, c5, c6⟩ := hu.2.1.cells; obtain ⟨x0, x1, _, _⟩ := obj_cells hu.2.2.2.1; obtain ⟨f0, f1, _, _⟩ := obj_cells hu.2.2.1); go_simp; try (with_reducible rfl))
  try simp only [puts]
  refine gv 2 (v := ?_) (fun u hu => ?_) hS ?_
  rotate_left
  · ((obtain ⟨c0, c1, c2, c3, c4, c5, c6⟩ := hu.2.1.cells; obtain ⟨x0, x1, _, _⟩ := obj_cells hu.2.2.2.1; obtain ⟨f0, f1, _, _⟩ := obj_cells hu.2.2.1); go_simp; try (with_reducible rfl))
  try simp only [puts]
  refine gv 3 (v := ?_) (fun u hu => ?_) hS ?_
  rotate_left
  · ((obtain ⟨c0, c1, c2, c3, c4, c5, c6⟩ := hu.2.1.cells; obtain ⟨x0, x1, _, _⟩ := obj_cells hu.2.2.2.1; obtain ⟨f0, f1, _, _⟩ := obj_cells hu.2.2.1); go_simp; try (with_reducible rfl))
  try simp only [puts]
  refine only_call (i := 4) 13 #[.agg #[.int .i64 st, .int .i64 v, .slice A n cA, .slice X nM cM, .slice Y nR cR, .slice B ne cB, .slice D nc cD], .int .i64 er] rfl (by kernel_rfl) (by rfl) ((HCD.out _ (HC.out.below hS.1)).mono fun e w' he => ⟨he.1, hS.below he.2⟩) ?_ ?_
  · (go_simp; try (with_reducible rfl))
  clear hS
  intro w4 hS
  try simp only [puts]
  refine only_some (i := 5) 39 #[.agg #[.string t', .slice A2 en k2], .int .i64 39, .string cs] rfl (by kernel_rfl) (by rfl) (HWI.out A2 k2 _ HLE.out hS.2.2.2.2.1) ?_ ?_
  · (go_simp; try (with_reducible rfl))
  intro v5 w5 hT
  obtain ⟨A5, k5, rfl, ht5, hb5⟩ := hT
  have hS' := hS.below hb5
  refine ⟨hS', ?_⟩
  clear hS
  have hS := hS'; clear hS'
  try simp only [puts]
  have HT5 := Lib.hid ht5
  have HS5 := Lib.hid hS
  clear ht5 hb5
  obtain ⟨_, _, _, _, _, m', X', n', c', h6⟩ := id hS
  have HX5 := Lib.hid h6
  refine only (i := 6) rfl (by kernel_rfl) (by rfl) (fun K hK => ?_)
  obtain ⟨r0, r1, f0, f1⟩ := obj_cells h6
  go_simp
  have hS6 := hS.store HG2.out t' A5 rn k5
  refine hK.out _ _ hS6 ?_
  clear hK
  try simp only [puts]
  clear hS
  have hS := hS6
  clear hS6
  refine gv 7 (v := ?_) (fun u hu => ?_) hS ?_
  rotate_left
  · ((obtain ⟨c0, c1, c2, c3, c4, c5, c6⟩ := hu.2.1.cells; obtain ⟨x0, x1, _, _⟩ := obj_cells hu.2.2.2.1; obtain ⟨f0, f1, _, _⟩ := obj_cells hu.2.2.1); go_simp; try (with_reducible rfl))
  try simp only [puts]
  refine wpAnyH_done (by kernel_rfl) (NoPanic.normal ?_) _
  have HR5 := Lib.hid (obj_set2 HX5.out (.string t') (.slice A5 rn k5))
  have HB5 := Lib.hid (below_set2 HS5.out.1 (Nat.le_add_right _ 3) (.string t') (.slice A5 rn k5))
  have HT6 := Lib.hid (vals_store2 HT5.out HX5.out t' A5 rn k5)
  clear r0 r1 f0 f1 h6 hS
  generalize ((w5.setCell _ _).setCell _ _) = w6 at *
  go_wp2
  refine bodyPost_ret (results_cell_row1 rfl _ _ (w.heap.size + 3) _ _ _ _ rfl HR5.out Tryd.underlying45 rfl (by kernel_rfl)) rfl ?_
  exact ⟨A5, k5, by rw [HRM.out]; rfl, HT6.out, HB5.out⟩

end Go.Proofs.YtnbllngljgmebaaDoor
