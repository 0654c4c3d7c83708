/-
  What the laws of sides share.
-/
import Derived.Test.YtnbllngljgmebaaDoorRejCopy
import Derived.Test.YtnbllngljgmebaaDoorRejRefB
import Derived.Test.YtnbllngljgmebaaDoorRejGreat
import Derived.Test.YtnbllngljgmebaaDoorRejAwk
namespace Go.Proofs.YtnbllngljgmebaaDoor
open Go.RowKit

/-- Where a copied side's lists stand. -/
def ScAt (sl : List Sp) (E : List Int) (C : List Item) (A : Option Addr × Option Addr × Option Addr) (c : Nat × Nat × Nat) (u : World) : Prop := Spl u A.1 sl ∧ Ints u A.2.1 E ∧ E.length ≤ c.2.1 ∧ Tlvs u A.2.2 C ∧ C.length ≤ c.2.2
theorem ScAt.below {sl : List Sp} {E : List Int} {C : List Item} {A : Option Addr × Option Addr × Option Addr} {c : Nat × Nat × Nat} {u u' : World} (h : ScAt sl E C A c u) (hb : Below u.heap.size u u') : ScAt sl E C A c u' := ⟨h.1.below hb, h.2.1.below hb, h.2.2.1, h.2.2.2.1.below hb, h.2.2.2.2⟩
theorem rjcopy_some (st v : Int) (A : Option Addr) (cA : Nat) (sl : List Sp) (X : Option Addr) (nM cM : Nat) (Y : Option Addr) (nR cR : Nat) (B : Option Addr) (cB : Nat) (E : List Int) (D : Option Addr) (cD : Nat) (C : List Item) (w : World) (hA : Spl w A sl) (hE : Ints w B E) (hC : Tlvs w D C) (hl : sl.length ≤ 1000) (hle : E.length ≤ 1000) (hlc : C.length ≤ 1000) :
    Calls Tryd.prog 11 #[.agg #[.int .i64 st, .int .i64 v, .slice A sl.length cA, .slice X nM cM, .slice Y nR cR, .slice B E.length cB, .slice D C.length cD]] w fun e w' => ∃ x, e = .returned x ∧ ∃ (A' : Option Addr × Option Addr × Option Addr) (c' : Nat × Nat × Nat), x = .agg #[.int .i64 st, .int .i64 v, .slice A'.1 sl.length c'.1, .slice X nM cM, .slice Y nR cR, .slice A'.2.1 E.length c'.2.1, .slice A'.2.2 C.length c'.2.2] ∧ ScAt sl E C A' c' w' ∧ Below w.heap.size w w' :=
  (rjcopy_any st v A cA sl X nM cM Y nR cR B cB E D cD C w hA hE hC hl hle hlc).mono fun _ _ ⟨A', cA', B', cB', D', cD', he, k1, k2, k3, k4, k5, k6⟩ => ⟨_, he, (A', B', D'), (cA', cB', cD'), rfl, ⟨k1, k2, k3, k4, k5⟩, k6⟩

/-- The answer: its MTI, its fields, whether there is one. -/
def rbM (m : ByteArray) : ByteArray := if askB m.data.toList = true then respM m else ⟨#[]⟩
def rbL (E : List Int) (C : List Item) (er : Int) (m : ByteArray) (l : List Item) : List Item := if askB m.data.toList = true then ansL E C er l else []
theorem rjbuild_some (st v : Int) (A : Option Addr) (n cA : Nat) (X : Option Addr) (nM cM : Nat) (Y : Option Addr) (nR cR : Nat) (B : Option Addr) (cB : Nat) (E : List Int) (D : Option Addr) (cD : Nat) (C : List Item) (m : ByteArray) (F : Option Addr) (cF : Nat) (l : List Item) (er fd : Int) (w : World) (hE : Ints w B E) (hC : Tlvs w D C) (hF : Tlvs w F l)
    (hne : E.length ≤ 20000000000000) (hnc : C.length ≤ maxLen) (hnl : l.length ≤ 5864062014700) (hwe : ∀ z ∈ E, (Lit.int .i64 z).wf = true) (hwl : ∀ x ∈ l, (Lit.int .i64 x.1).wf = true) :
    Calls Tryd.prog 16 #[.agg #[.int .i64 st, .int .i64 v, .slice A n cA, .slice X nM cM, .slice Y nR cR, .slice B E.length cB, .slice D C.length cD], .agg #[.string m, .slice F l.length cF], .agg #[.int .i64 er, .int .i64 fd]] w fun e w' => ∃ x, e = .returned x ∧ ∃ A' c', x = .tuple #[.agg #[.string (rbM m), .slice A' (rbL E C er m l).length c'], .bool (askB m.data.toList)] ∧ Tlvs w' A' (rbL E C er m l) ∧ Below w.heap.size w w' := by
  unfold rbM rbL
  cases h : askB m.data.toList
  · rw [if_neg (by decide), if_neg (by decide)]
    exact (rjbuild_no st v A n cA X nM cM Y nR cR B _ cB D _ cD m F _ cF er fd w h).mono fun _ _ ⟨he, hb⟩ => ⟨_, he, none, 0, rfl, tlvs_nil _ _, hb⟩
  · rw [if_pos rfl, if_pos rfl]
    exact (rjbuild_yes st v A n cA X nM cM Y nR cR B cB E D cD C m F cF l er fd w h hE hC hF hne hnc hnl hwe hwl).mono fun _ _ ⟨A', c', he, ht, hb⟩ => ⟨_, he, A', c', rfl, ht, hb⟩
theorem rjrefb_some (st v : Int) (A : Option Addr) (n cA : Nat) (X : Option Addr) (nM cM : Nat) (Y : Option Addr) (nR cR : Nat) (B : Option Addr) (cB : Nat) (E : List Int) (D : Option Addr) (cD : Nat) (C : List Item) (m : ByteArray) (F : Option Addr) (cF : Nat) (l : List Item) (er fd : Int) (w : World) (hm : m.size ≤ maxLen) (hE : Ints w B E) (hC : Tlvs w D C) (hF : Tlvs w F l)
    (hne : E.length ≤ 300) (hnc : C.length ≤ 300) (hnl : l.length ≤ 1000) :
    Calls Tryd.prog 18 #[.agg #[.int .i64 st, .int .i64 v, .slice A n cA, .slice X nM cM, .slice Y nR cR, .slice B E.length cB, .slice D C.length cD], .agg #[.string m, .slice F l.length cF], .agg #[.int .i64 er, .int .i64 fd]] w fun e w' => ∃ x, e = .returned x ∧ ∃ A' c', x = .tuple #[.agg #[.string (rbM m), .slice A' (rbL E C er m l).length c'], .bool (askB m.data.toList)] ∧ Tlvs w' A' (rbL E C er m l) ∧ Below w.heap.size w w' := by
  unfold rbM rbL
  cases h : askB m.data.toList
  · rw [if_neg (by decide), if_neg (by decide)]
    exact (rjrefb_no st v A n cA X nM cM Y nR cR B _ cB D _ cD m F _ cF er fd w h hm).mono fun _ _ ⟨he, hb⟩ => ⟨_, he, none, 0, rfl, tlvs_nil _ _, hb⟩
  · rw [if_pos rfl, if_pos rfl]
    exact (rjrefb_yes st v A n cA X nM cM Y nR cR B cB E D cD C m F cF l er fd w h hm hE hC hF hne hnc hnl).mono fun _ _ ⟨A', c', he, ht, hb⟩ => ⟨_, he, A', c', rfl, ht, hb⟩
theorem ans_len (E : List Int) (C : List Item) (er : Int) (l : List Item) : (ansL E C er l).length ≤ E.length + 1 := by
  have h := echo_len (E := E) l E.length (Nat.le_refl _)
  rw [echo_all] at h
  have := with_length 39 (codeS C er) (echoL E l)
  unfold ansL
  omega
theorem rbL_len (E : List Int) (C : List Item) (er : Int) (m : ByteArray) (l : List Item) : (rbL E C er m l).length ≤ E.length + 1 := by
  unfold rbL
  by_cases h : askB m.data.toList = true
  · rw [if_pos h]; exact ans_len E C er l
  · rw [if_neg h]; simp

/-- What stands in a law's first blocks: a side, a message, a fault. -/
def LB (w : World) (st v : Int) (A : Option Addr) (n cA : Nat) (X : Option Addr) (nM cM : Nat) (Y : Option Addr) (nR cR : Nat) (B : Option Addr) (nE cB : Nat) (D : Option Addr) (nC cD : Nat) (m : ByteArray) (F : Option Addr) (nF cF : Nat) (er fd : Int) (u : World) : Prop :=
  Below w.heap.size w u ∧ SBox u w.heap.size st v A n cA X nM cM Y nR cR B nE cB D nC cD ∧ MBox u (w.heap.size + 1) m F nF cF ∧ u.heap[w.heap.size + 2]? = some (.cells #[.int .i64 er, .int .i64 fd] 47)
section
variable {w u u' : World} {st v : Int} {A : Option Addr} {n cA : Nat} {X : Option Addr} {nM cM : Nat} {Y : Option Addr} {nR cR : Nat} {B : Option Addr} {nE cB : Nat} {D : Option Addr} {nC cD : Nat} {m : ByteArray} {F : Option Addr} {nF cF : Nat} {er fd : Int}
theorem LB.below (h : LB w st v A n cA X nM cM Y nR cR B nE cB D nC cD m F nF cF er fd u) (hb : Below u.heap.size u u') : LB w st v A n cA X nM cM Y nR cR B nE cB D nC cD m F nF cF er fd u' :=
  ⟨hbt h.1 hb, h.2.1.below hb, h.2.2.1.below hb, obj_below h.2.2.2 hb⟩
theorem lb_new : LB w st v A n cA X nM cM Y nR cR B nE cB D nC cD m F nF cF er fd (((w.alloc (.cells #[.int .i64 st, .int .i64 v, .slice A n cA, .slice X nM cM, .slice Y nR cR, .slice B nE cB, .slice D nC cD] 32)).alloc (.cells #[.string m, .slice F nF cF] 45)).alloc (.cells #[.int .i64 er, .int .i64 fd] 47)) :=
  ⟨hbt (hbt (below_al _ _) (below_al _ _)) (below_al _ _), (sbox_new.below (below_al _ _)).below (below_al _ _), obj_below (heap_al _ _ _ (by simp)) (below_al _ _), heap_al _ _ _ (by simp)⟩
end

end Go.Proofs.YtnbllngljgmebaaDoor
