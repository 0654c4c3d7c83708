/-
  What the document's Copy of a side answers: for every side of up to 1000 specs, numbers and codes, in every world.
-/
import Derived.Test.YtnbllngljgmebaaDoorRejOf
import Derived.Test.YtnbllngljgmebaaDoorPackSch
import Derived.Test.YtnbllngljgmebaaDoorPackBase
import Derived.Deep.DeepCutAuto
import Derived.ArgAppend
namespace Go.Proofs.YtnbllngljgmebaaDoor
open Go.RowKit

section
variable {P : Program} {ops : Array Oper} {Q : Exit → Act → World → Prop} {md : Region.Mode} {S : World → Prop}
/-- One of those that may come up, by a law of its own. -/
theorem arm_op {i : Nat} {oi : Oper} {T : Value → World → Prop} {fuel : Nat} {listed : Array Bool} {a : Act} {w : World} {rs : List Nat} (hi : ops.toList[i]? = some oi)
    (hw : Region.wanted oi (yielded ops a.tmps) = true) (hc : ∀ K : Act → World → Prop, (∀ v w', T v w' → K (a.put oi.dst v) w') → Oper.wp P oi a w K Q)
    (h : ∀ v w', T v w' → S w' ∧ wpAnyH P md ops Q S fuel (listed.setIfInBounds i true) (a.put oi.dst v) w') (hs : AllReadyH P md ops Q S fuel listed a w rs) : AllReadyH P md ops Q S fuel listed a w (i :: rs) := by
  refine AllReadyH.cons (at_list hi) (fun K hK => ?_) hs
  rw [if_pos hw]
  exact hc K fun v w' hT => hK.out _ _ (h v w' hT).1 fun _ => (h v w' hT).2
end

/-- Numbers, codes in a slice of some room that lies behind block p. -/
def IntsW (w : World) (A : Option Addr) (E : List Int) (n c p : Nat) : Prop := Ints w A E ∧ n ≤ c ∧ ∀ a, A = some a → p ≤ a.block
def TlvsW (w : World) (A : Option Addr) (C : List Item) (n c p : Nat) : Prop := Tlvs w A C ∧ n ≤ c ∧ ∀ a, A = some a → p ≤ a.block
theorem IntsW.below {w w' : World} {A : Option Addr} {E : List Int} {n c p : Nat} (h : IntsW w A E n c p) (hb : Below w.heap.size w w') : IntsW w' A E n c p := ⟨h.1.below hb, h.2⟩
theorem TlvsW.below {w w' : World} {A : Option Addr} {C : List Item} {n c p : Nat} (h : TlvsW w A C n c p) (hb : Below w.heap.size w w') : TlvsW w' A C n c p := ⟨h.1.below hb, h.2⟩

/-- 'append([]int{}, l...)', 'append([]api.Code{}, l...)' behind a literal's row: where the row lies is all the same. -/
theorem app_ints {o : Oper} {a : Act} {U : World} {K : Act → World → Prop} {Q : Exit → Act → World → Prop} (s x : Operand)
    (ho : o.op = .call { callee := .builtin .append, args := #[s, x], argTypes := #[29, 29] }) (g p : Nat) (hs : a.eval s = .slice (some ⟨g, 0, none⟩) 0 0) (hg : p ≤ g) (hp : p ≤ U.heap.size)
    (A : Option Addr) (c len : Nat) (hx : a.eval x = .slice A len c) (E : List Int) (hlen : E.length = len) (hE : Ints U A E) (hl : len ≤ 5000000)
    (h : ∀ v w', (∃ A' c', v = .slice A' len c' ∧ IntsW w' A' E len c' p ∧ Below U.heap.size U w') → K (a.put o.dst v) w') : o.wp Tryd.prog a U K Q := by
  obtain ⟨i0, hi, hz0, hz1, hz2⟩ := info_parts Tryd.infoInt
  by_cases h0 : len = 0
  · subst h0
    have hnil : E = [] := List.eq_nil_of_length_eq_zero hlen
    subst hnil
    have hr : (Builtin.append_ #[29, 29] o.type #[.slice (some ⟨g, 0, none⟩) 0 0, .slice A 0 c]).run Tryd.prog U = .ok (.slice (some ⟨g, 0, none⟩) 0 0) U := by
      cases A <;> simp [Builtin.append_, run_underlying Tryd.underlying29, sizeOf, typeInfo, hi, Builtin.lenOf, Builtin.firstCells, storeCells, loadCells, loadCellsFrom]
    unfold Oper.wp execOp
    simp only [ho, resolve, invoke, builtin, Sem.run_bind, Sem.run_pure, Result.andThen_ok, List.map_toArray, List.map_cons, List.map_nil, hs, hx, hr]
    exact h _ _ ⟨_, _, rfl, ⟨ints_nil _ _, Nat.le_refl _, fun b hb => by injection hb with hb; subst hb; exact hg⟩, Below.refl _ _⟩
  · obtain ⟨a', rfl, _⟩ := hE 0 (by omega)
    obtain ⟨v', w', hr, hown, hgrow⟩ := run_append_arg_grows (P := Tryd.prog) U 29 o.type 3 i0 _ 1 8 Tryd.underlying29 hi hz0 hz1 hz2 rfl (by omega) ⟨g, 0, none⟩ 0 0 [] rfl (by simp) a' len c (E.map fun z => .int .i64 z) (by simp [hlen]) (ints_news hE) (by omega) (by unfold maxLen; omega) (by omega)
    rw [List.nil_append, Nat.zero_add] at hown
    obtain ⟨g', cap, rfl, hgb, _⟩ := hown.form (by omega)
    have hT := ints_copy hown hlen
    have hcap : len ≤ cap := by
      rcases hown.2 with ⟨h1, _⟩ | ⟨_, _, _, h1, _, _, h2, _⟩
      · cases h1
      · injection h1 with _ _ h3; omega
    unfold Oper.wp execOp
    simp only [ho, resolve, invoke, builtin, Sem.run_bind, Sem.run_pure, Result.andThen_ok, List.map_toArray, List.map_cons, List.map_nil, hs, hx, hr]
    exact h _ _ ⟨_, _, rfl, ⟨hT, hcap, fun b hb => by injection hb with hb; subst hb; exact Nat.le_trans hp hgb⟩, (Below.refl _ _).grown hgrow (Nat.le_refl _) (by simp)⟩
theorem app_codes {o : Oper} {a : Act} {U : World} {K : Act → World → Prop} {Q : Exit → Act → World → Prop} (s x : Operand)
    (ho : o.op = .call { callee := .builtin .append, args := #[s, x], argTypes := #[30, 30] }) (g p : Nat) (hs : a.eval s = .slice (some ⟨g, 0, none⟩) 0 0) (hg : p ≤ g) (hp : p ≤ U.heap.size)
    (A : Option Addr) (c len : Nat) (hx : a.eval x = .slice A len c) (C : List Item) (hlen : C.length = len) (hC : Tlvs U A C) (hl : len ≤ 5000000)
    (h : ∀ v w', (∃ A' c', v = .slice A' len c' ∧ TlvsW w' A' C len c' p ∧ Below U.heap.size U w') → K (a.put o.dst v) w') : o.wp Tryd.prog a U K Q := by
  obtain ⟨i0, hi, hz0, hz1, hz2⟩ := info_parts Tryd.infoCode
  by_cases h0 : len = 0
  · subst h0
    have hnil : C = [] := List.eq_nil_of_length_eq_zero hlen
    subst hnil
    have hr : (Builtin.append_ #[30, 30] o.type #[.slice (some ⟨g, 0, none⟩) 0 0, .slice A 0 c]).run Tryd.prog U = .ok (.slice (some ⟨g, 0, none⟩) 0 0) U := by
      cases A <;> simp [Builtin.append_, run_underlying Tryd.underlying30, sizeOf, typeInfo, hi, Builtin.lenOf, Builtin.firstCells, storeCells, loadCells, loadCellsFrom]
    unfold Oper.wp execOp
    simp only [ho, resolve, invoke, builtin, Sem.run_bind, Sem.run_pure, Result.andThen_ok, List.map_toArray, List.map_cons, List.map_nil, hs, hx, hr]
    exact h _ _ ⟨_, _, rfl, ⟨tlvs_nil _ _, Nat.le_refl _, fun b hb => by injection hb with hb; subst hb; exact hg⟩, Below.refl _ _⟩
  · obtain ⟨a', rfl, _⟩ := hC 0 (by omega)
    obtain ⟨v', w', hr, hown, hgrow⟩ := run_append_arg_grows (P := Tryd.prog) U 30 o.type 61 i0 _ 2 24 Tryd.underlying30 hi hz0 hz1 hz2 rfl (by omega) ⟨g, 0, none⟩ 0 0 [] rfl (by simp) a' len c (itemsC C) (by rw [itemsC_length, hlen]) (tlvs_news hC) (by omega) (by unfold maxLen; omega) (by omega)
    rw [List.nil_append, Nat.zero_add] at hown
    obtain ⟨g', cap, rfl, hgb, _⟩ := hown.form (by omega)
    have hT : Tlvs w' (some ⟨g', 0, none⟩) C := vals_own_at hown hlen.symm
    have hcap : len ≤ cap := by
      rcases hown.2 with ⟨h1, _⟩ | ⟨_, _, _, h1, _, _, h2, _⟩
      · cases h1
      · injection h1 with _ _ h3; omega
    unfold Oper.wp execOp
    simp only [ho, resolve, invoke, builtin, Sem.run_bind, Sem.run_pure, Result.andThen_ok, List.map_toArray, List.map_cons, List.map_nil, hs, hx, hr]
    exact h _ _ ⟨_, _, rfl, ⟨hT, hcap, fun b hb => by injection hb with hb; subst hb; exact Nat.le_trans hp hgb⟩, (Below.refl _ _).grown hgrow (Nat.le_refl _) (by simp)⟩

/-- All blocks but p are as they were. -/
def Off (p : Nat) (u u' : World) : Prop := ∀ q, q ≠ p → u'.heap[q]? = u.heap[q]?
theorem Off.cell {p : Nat} {u u' : World} (h : Off p u u') {q : Addr} (hq : q.block ≠ p) : u'.cell? q = u.cell? q := World.cell?_of_block (h _ hq)
theorem off_add (a : Addr) (i : Nat) : (a.add i).block = a.block := by unfold Addr.add; split <;> rfl
theorem ints_off {p : Nat} {u u' : World} {A : Option Addr} {E : List Int} (h : Ints u A E) (hp : ∀ a, A = some a → a.block ≠ p) (ho : Off p u u') : Ints u' A E := fun i hi => by
  obtain ⟨a, ha, h0⟩ := h i hi
  exact ⟨a, ha, (ho.cell (by rw [off_add]; exact hp a ha)).trans h0⟩
theorem tlvs_off {p : Nat} {u u' : World} {A : Option Addr} {C : List Item} (h : Tlvs u A C) (hp : ∀ a, A = some a → a.block ≠ p) (ho : Off p u u') : Tlvs u' A C := fun i hi => by
  obtain ⟨a, ha, h0, h1⟩ := h i hi
  have hb : (a.add (i * 2)).block ≠ p := by rw [off_add]; exact hp a ha
  exact ⟨a, ha, (ho.cell hb).trans h0, (ho.cell (q := ⟨_, _, none⟩) hb).trans h1⟩
/-- A slice of specs lies in no side's block. -/
theorem spl_off {p : Nat} {u u' : World} {A : Option Addr} {l : List Sp} {st v : Int} {a1 a2 a3 a4 a5 : Option Addr} {n1 n2 n3 n4 n5 c1 c2 c3 c4 c5 : Nat} {t : TypeId} (h : Spl u A l)
    (hg : u.heap[p]? = some (.cells #[.int .i64 st, .int .i64 v, .slice a1 n1 c1, .slice a2 n2 c2, .slice a3 n3 c3, .slice a4 n4 c4, .slice a5 n5 c5] t)) (ho : Off p u u') : Spl u' A l := by
  intro i hi
  obtain ⟨a, ha, h0, h1, h2, h3, h4⟩ := h i hi
  have hb : (a.add (i * 5)).block ≠ p := by
    intro e
    have hc := h2
    rw [e, cell_of_row _ _ _ _ _ _ hg] at hc
    generalize (a.add (i * 5)).off = z at hc
    match z, hc with
    | 0, hc => simp at hc
    | 1, hc => simp at hc
    | 2, hc => simp at hc
    | 3, hc => simp at hc
    | 4, hc => simp at hc
    | z + 5, hc => simp at hc
  exact ⟨a, ha, (ho.cell hb).trans h0, (ho.cell (q := ⟨_, _, none⟩) hb).trans h1, (ho.cell (q := ⟨_, _, none⟩) hb).trans h2, (ho.cell (q := ⟨_, _, none⟩) hb).trans h3, (ho.cell (q := ⟨_, _, none⟩) hb).trans h4⟩
theorem off_set7 (u : World) (p : Nat) (a b c d e f g : Value) : Off p u (((((((u.setCell ⟨p, 0, none⟩ a).setCell ⟨p, 1, none⟩ b).setCell ⟨p, 2, none⟩ c).setCell ⟨p, 3, none⟩ d).setCell ⟨p, 4, none⟩ e).setCell ⟨p, 5, none⟩ f).setCell ⟨p, 6, none⟩ g) := fun q hq => by
  rw [heap_setCell_other _ _ _ _ hq, heap_setCell_other _ _ _ _ hq, heap_setCell_other _ _ _ _ hq, heap_setCell_other _ _ _ _ hq, heap_setCell_other _ _ _ _ hq, heap_setCell_other _ _ _ _ hq, heap_setCell_other _ _ _ _ hq]
theorem below_set7 {w u : World} {p : Nat} (h : Below w.heap.size w u) (hp : w.heap.size ≤ p) (a b c d e f g : Value) : Below w.heap.size w (((((((u.setCell ⟨p, 0, none⟩ a).setCell ⟨p, 1, none⟩ b).setCell ⟨p, 2, none⟩ c).setCell ⟨p, 3, none⟩ d).setCell ⟨p, 4, none⟩ e).setCell ⟨p, 5, none⟩ f).setCell ⟨p, 6, none⟩ g) :=
  ((((((h.setCell (p := ⟨p, 0, none⟩) hp a).setCell (p := ⟨p, 1, none⟩) hp b).setCell (p := ⟨p, 2, none⟩) hp c).setCell (p := ⟨p, 3, none⟩) hp d).setCell (p := ⟨p, 4, none⟩) hp e).setCell (p := ⟨p, 5, none⟩) hp f).setCell (p := ⟨p, 6, none⟩) hp g
theorem obj_set7 {u : World} {p : Nat} {a b c d e f g : Value} {t : TypeId} (h : u.heap[p]? = some (.cells #[a, b, c, d, e, f, g] t)) (a' b' c' d' e' f' g' : Value) :
    (((((((u.setCell ⟨p, 0, none⟩ a').setCell ⟨p, 1, none⟩ b').setCell ⟨p, 2, none⟩ c').setCell ⟨p, 3, none⟩ d').setCell ⟨p, 4, none⟩ e').setCell ⟨p, 5, none⟩ f').setCell ⟨p, 6, none⟩ g').heap[p]? = some (.cells #[a', b', c', d', e', f', g'] t) := by
  have h0 : (u.setCell ⟨p, 0, none⟩ a').heap[p]? = some (.cells #[a', b, c, d, e, f, g] t) := heap_setCell_same u p 0 _ t a' h
  generalize u.setCell ⟨p, 0, none⟩ a' = u0 at *
  have h1 : (u0.setCell ⟨p, 1, none⟩ b').heap[p]? = some (.cells #[a', b', c, d, e, f, g] t) := heap_setCell_same u0 p 1 _ t b' h0
  generalize u0.setCell ⟨p, 1, none⟩ b' = u1 at *
  have h2 : (u1.setCell ⟨p, 2, none⟩ c').heap[p]? = some (.cells #[a', b', c', d, e, f, g] t) := heap_setCell_same u1 p 2 _ t c' h1
  generalize u1.setCell ⟨p, 2, none⟩ c' = u2 at *
  have h3 : (u2.setCell ⟨p, 3, none⟩ d').heap[p]? = some (.cells #[a', b', c', d', e, f, g] t) := heap_setCell_same u2 p 3 _ t d' h2
  generalize u2.setCell ⟨p, 3, none⟩ d' = u3 at *
  have h4 : (u3.setCell ⟨p, 4, none⟩ e').heap[p]? = some (.cells #[a', b', c', d', e', f, g] t) := heap_setCell_same u3 p 4 _ t e' h3
  generalize u3.setCell ⟨p, 4, none⟩ e' = u4 at *
  have h5 : (u4.setCell ⟨p, 5, none⟩ f').heap[p]? = some (.cells #[a', b', c', d', e', f', g] t) := heap_setCell_same u4 p 5 _ t f' h4
  generalize u4.setCell ⟨p, 5, none⟩ f' = u5 at *
  exact heap_setCell_same u5 p 6 _ t g' h5

/-- What a region keeps: the side, and the block of its copy. -/
def RC (w : World) (st v : Int) (A : Option Addr) (n cA : Nat) (X : Option Addr) (nM cM : Nat) (Y : Option Addr) (nR cR : Nat) (B : Option Addr) (nE cB : Nat) (D : Option Addr) (nC cD : Nat) (u : World) : Prop :=
  Below w.heap.size w u ∧ SBox u w.heap.size st v A n cA X nM cM Y nR cR B nE cB D nC cD ∧ ∃ a b a1 n1 c1 a2 n2 c2 a3 n3 c3 a4 n4 c4 a5 n5 c5, SBox u (w.heap.size + 1) a b a1 n1 c1 a2 n2 c2 a3 n3 c3 a4 n4 c4 a5 n5 c5
section
variable {w u u' : World} {st v : Int} {A : Option Addr} {n cA : Nat} {X : Option Addr} {nM cM : Nat} {Y : Option Addr} {nR cR : Nat} {B : Option Addr} {nE cB : Nat} {D : Option Addr} {nC cD : Nat}
theorem RC.below (h : RC w st v A n cA X nM cM Y nR cR B nE cB D nC cD u) (hb : Below u.heap.size u u') : RC w st v A n cA X nM cM Y nR cR B nE cB D nC cD u' := by
  obtain ⟨h1, h2, _, _, _, _, _, _, _, _, _, _, _, _, _, _, _, _, _, h3⟩ := h
  exact ⟨hbt h1 hb, h2.below hb, _, _, _, _, _, _, _, _, _, _, _, _, _, _, _, _, _, h3.below hb⟩
theorem rc_new : RC w st v A n cA X nM cM Y nR cR B nE cB D nC cD ((w.alloc (.cells #[.int .i64 st, .int .i64 v, .slice A n cA, .slice X nM cM, .slice Y nR cR, .slice B nE cB, .slice D nC cD] 32)).alloc (.cells #[.int .i64 0, .int .i64 0, .slice none 0 0, .slice none 0 0, .slice none 0 0, .slice none 0 0, .slice none 0 0] 32)) :=
  ⟨hbt (below_al _ _) (below_al _ _), obj_below (heap_alloc_new _ _) (below_al _ _), _, _, _, _, _, _, _, _, _, _, _, _, _, _, _, _, _, heap_al _ _ _ (by simp)⟩
end

set_option maxRecDepth 100000 in
set_option maxHeartbeats 12800000 in
theorem rjcopy_any (st v : Int) (A : Option Addr) (cA : Nat) (sl : List Sp) (X : Option Addr) (nM cM : Nat) (Y : Option Addr) (nR cR : Nat) (B : Option Addr) (cB : Nat) (E : List Int) (D : Option Addr) (cD : Nat) (C : List Item) (w : World) (hA : Spl w A sl) (hE : Ints w B E) (hC : Tlvs w D C) (hl : sl.length ≤ 1000) (hle : E.length ≤ 1000) (hlc : C.length ≤ 1000) :
    Calls Tryd.prog 11 #[.agg #[.int .i64 st, .int .i64 v, .slice A sl.length cA, .slice X nM cM, .slice Y nR cR, .slice B E.length cB, .slice D C.length cD]] w fun e w' => ∃ A' cA' B' cB' D' cD', e = .returned (.agg #[.int .i64 st, .int .i64 v, .slice A' sl.length cA', .slice X nM cM, .slice Y nR cR, .slice B' E.length cB', .slice D' C.length cD']) ∧ Spl w' A' sl ∧ Ints w' B' E ∧ E.length ≤ cB' ∧ Tlvs w' D' C ∧ C.length ≤ cD' ∧ Below w.heap.size w w' := by
  have HSC : Hid (∀ W, Spl W A sl → Calls Tryd.prog 31 #[.agg #[.int .i64 st, .int .i64 v, .slice A sl.length cA]] W fun e w' => ∃ x, e = .returned x ∧ ∃ A' c', x = .agg #[.int .i64 st, .int .i64 v, .slice A' sl.length c'] ∧ Spl w' A' sl ∧ Below W.heap.size W w') := fun W h => (scopy_any st v A cA sl W h hl).mono fun e w' ⟨A', c', he, ht, hb⟩ => ⟨_, he, A', c', rfl, ht, hb⟩
  have HQ0 : Hid (RC w st v A sl.length cA X nM cM Y nR cR B E.length cB D C.length cD ((w.alloc (.cells #[.int .i64 st, .int .i64 v, .slice A sl.length cA, .slice X nM cM, .slice Y nR cR, .slice B E.length cB, .slice D C.length cD] 32)).alloc (.cells #[.int .i64 0, .int .i64 0, .slice none 0 0, .slice none 0 0, .slice none 0 0, .slice none 0 0, .slice none 0 0] 32))) := rc_new
  have HA := Lib.hid hA
  have HE := Lib.hid hE
  have HC := Lib.hid hC
  clear hA hE hC
  generalize sl.length = la at *
  generalize hne : E.length = ne at *
  generalize hnc : C.length = nc at *
  have HNE := Lib.hid hne
  have HNC := Lib.hid hnc
  clear hne hnc
  go_enter Tryd.func11, Tryd.ntmps11
  go_upto_region 1 with fail
  generalize ((w.alloc (.cells #[.int .i64 st, .int .i64 v, .slice A la cA, .slice X nM cM, .slice Y nR cR, .slice B ne cB, .slice D nc cD] 32)).alloc (.cells #[.int .i64 0, .int .i64 0, .slice none 0 0, .slice none 0 0, .slice none 0 0, .slice none 0 0, .slice none 0 0] 32)) = U at *
  obtain ⟨c0, c1, c2, c3, c4, c5, c6⟩ := HQ0.out.2.1.cells
  go_wp2_with fail
  clear c0 c1 c2 c3 c4 c5 c6
  have HPU : Hid (w.heap.size + 2 ≤ U.heap.size) := by
    obtain ⟨_, _, _, _, _, _, _, _, _, _, _, _, _, _, _, _, _, _, _, h3⟩ := HQ0.out
    exact obj_lt h3
  refine wp_region_noPanic ?_
  refine wp_region_held_drew (S := (fun u => RC w st v A la cA X nM cM Y nR cR B ne cB D nc cD u ∧ w.heap.size + 2 ≤ u.heap.size)) (by kernel_rfl) (⟨HQ0.out.below (Below.refl _ _).drew, HPU.out⟩) (fun hS => ?_)
  refine gv 0 (v := ?_) (fun u hu => ?_) hS ?_
  rotate_left
  · ((obtain ⟨c0, c1, c2, c3, c4, c5, c6⟩ := hu.1.2.1.cells); go_simp; try (with_reducible rfl))
  try simp only [puts]
  refine gv 1 (v := ?_) (fun u hu => ?_) hS ?_
  rotate_left
  · ((obtain ⟨c0, c1, c2, c3, c4, c5, c6⟩ := hu.1.2.1.cells); go_simp; try (with_reducible rfl))
  try simp only [puts]
  refine gv 3 (v := ?_) (fun u hu => ?_) hS ?_
  rotate_left
  · ((obtain ⟨c0, c1, c2, c3, c4, c5, c6⟩ := hu.1.2.1.cells); go_simp; try (with_reducible rfl))
  try simp only [puts]
  refine gv 4 (v := ?_) (fun u hu => ?_) hS ?_
  rotate_left
  · ((obtain ⟨c0, c1, c2, c3, c4, c5, c6⟩ := hu.1.2.1.cells); go_simp; try (with_reducible rfl))
  try simp only [puts]
  refine gv 6 (v := ?_) (fun u hu => ?_) hS ?_
  rotate_left
  · ((obtain ⟨c0, c1, c2, c3, c4, c5, c6⟩ := hu.1.2.1.cells); go_simp; try (with_reducible rfl))
  try simp only [puts]
  refine gv 7 (v := ?_) (fun u hu => ?_) hS ?_
  rotate_left
  · ((obtain ⟨c0, c1, c2, c3, c4, c5, c6⟩ := hu.1.2.1.cells); go_simp; try (with_reducible rfl))
  try simp only [puts]
  refine gv 10 (v := ?_) (fun u hu => ?_) hS ?_
  rotate_left
  · ((obtain ⟨c0, c1, c2, c3, c4, c5, c6⟩ := hu.1.2.1.cells); go_simp; try (with_reducible rfl))
  try simp only [puts]
  refine gv 11 (v := ?_) (fun u hu => ?_) hS ?_
  rotate_left
  · ((obtain ⟨c0, c1, c2, c3, c4, c5, c6⟩ := hu.1.2.1.cells); go_simp; try (with_reducible rfl))
  try simp only [puts]
  refine wpAnyH_ready (rs := [2, 5, 9]) (by decide +kernel) (by simp) (arm_some (i := 2) 31 #[.agg #[.int .i64 st, .int .i64 v, .slice A la cA]] rfl (by rfl) (HSC.out _ (HA.out.below hS.1.1)) ?_ ?_ (arm_slice (i := 5) (.cells #[] 3) 0 rfl (by rfl) ?_ ?_ (arm_slice (i := 9) (.cells #[] 61) 0 rfl (by rfl) ?_ ?_ AllReadyH.nil)))
  · (go_simp; try (with_reducible rfl))
  intro v2 u' hT
  obtain ⟨A2, c2, rfl, ht2, hb⟩ := hT
  have hS' : (fun u => RC w st v A la cA X nM cM Y nR cR B ne cB D nc cD u ∧ w.heap.size + 2 ≤ u.heap.size) u' := ⟨hS.1.below hb, Nat.le_trans hS.2 hb.size⟩
  refine ⟨hS', ?_⟩
  clear hS hb; have hS := hS'; clear hS'; rename World => u; try simp only [puts]
  rotate_left
  · (go_simp; try (with_reducible rfl))
  intro p5 u' hb ho5 hp5
  clear ho5; replace hp5 := Nat.le_trans (hS.2) hp5
  have hS' : (fun u => RC w st v A la cA X nM cM Y nR cR B ne cB D nc cD u ∧ w.heap.size + 2 ≤ u.heap.size) u' := ⟨hS.1.below hb, Nat.le_trans hS.2 hb.size⟩
  refine ⟨hS', ?_⟩
  clear hS hb; have hS := hS'; clear hS'; rename World => u; try simp only [puts]
  rotate_left
  · (go_simp; try (with_reducible rfl))
  intro p9 u' hb ho9 hp9
  clear ho9; replace hp9 := Nat.le_trans (hS.2) hp9
  have hS' : (fun u => RC w st v A la cA X nM cM Y nR cR B ne cB D nc cD u ∧ w.heap.size + 2 ≤ u.heap.size) u' := ⟨hS.1.below hb, Nat.le_trans hS.2 hb.size⟩
  refine ⟨hS', ?_⟩
  clear hS hb; have hS := hS'; clear hS'; rename World => u; try simp only [puts]
  rotate_left
  all_goals first
    |
      refine wpAnyH_ready (rs := [5, 9]) (by decide +kernel) (by simp) (arm_slice (i := 5) (.cells #[] 3) 0 rfl (by rfl) ?_ ?_ (arm_slice (i := 9) (.cells #[] 61) 0 rfl (by rfl) ?_ ?_ AllReadyH.nil))
      · (go_simp; try (with_reducible rfl))
      intro p5 u' hb ho5 hp5
      clear ho5; replace hp5 := Nat.le_trans (hS.2) hp5
      have hS' : (fun u => RC w st v A la cA X nM cM Y nR cR B ne cB D nc cD u ∧ w.heap.size + 2 ≤ u.heap.size) u' := ⟨hS.1.below hb, Nat.le_trans hS.2 hb.size⟩
      refine ⟨hS', ?_⟩
      replace ht2 := ht2.below hb
      clear hS hb; have hS := hS'; clear hS'; rename World => u; try simp only [puts]
      rotate_left
      · (go_simp; try (with_reducible rfl))
      intro p9 u' hb ho9 hp9
      clear ho9; replace hp9 := Nat.le_trans (hS.2) hp9
      have hS' : (fun u => RC w st v A la cA X nM cM Y nR cR B ne cB D nc cD u ∧ w.heap.size + 2 ≤ u.heap.size) u' := ⟨hS.1.below hb, Nat.le_trans hS.2 hb.size⟩
      refine ⟨hS', ?_⟩
      replace ht2 := ht2.below hb
      clear hS hb; have hS := hS'; clear hS'; rename World => u; try simp only [puts]
      rotate_left
    |
      refine wpAnyH_ready (rs := [2, 9]) (by decide +kernel) (by simp) (arm_some (i := 2) 31 #[.agg #[.int .i64 st, .int .i64 v, .slice A la cA]] rfl (by rfl) (HSC.out _ (HA.out.below hS.1.1)) ?_ ?_ (arm_slice (i := 9) (.cells #[] 61) 0 rfl (by rfl) ?_ ?_ AllReadyH.nil))
      · (go_simp; try (with_reducible rfl))
      intro v2 u' hT
      obtain ⟨A2, c2, rfl, ht2, hb⟩ := hT
      have hS' : (fun u => RC w st v A la cA X nM cM Y nR cR B ne cB D nc cD u ∧ w.heap.size + 2 ≤ u.heap.size) u' := ⟨hS.1.below hb, Nat.le_trans hS.2 hb.size⟩
      refine ⟨hS', ?_⟩
      clear hS hb; have hS := hS'; clear hS'; rename World => u; try simp only [puts]
      rotate_left
      · (go_simp; try (with_reducible rfl))
      intro p9 u' hb ho9 hp9
      clear ho9; replace hp9 := Nat.le_trans (hS.2) hp9
      have hS' : (fun u => RC w st v A la cA X nM cM Y nR cR B ne cB D nc cD u ∧ w.heap.size + 2 ≤ u.heap.size) u' := ⟨hS.1.below hb, Nat.le_trans hS.2 hb.size⟩
      refine ⟨hS', ?_⟩
      clear hS hb; have hS := hS'; clear hS'; rename World => u; try simp only [puts]
      rotate_left
    |
      refine wpAnyH_ready (rs := [2, 5]) (by decide +kernel) (by simp) (arm_some (i := 2) 31 #[.agg #[.int .i64 st, .int .i64 v, .slice A la cA]] rfl (by rfl) (HSC.out _ (HA.out.below hS.1.1)) ?_ ?_ (arm_slice (i := 5) (.cells #[] 3) 0 rfl (by rfl) ?_ ?_ AllReadyH.nil))
      · (go_simp; try (with_reducible rfl))
      intro v2 u' hT
      obtain ⟨A2, c2, rfl, ht2, hb⟩ := hT
      have hS' : (fun u => RC w st v A la cA X nM cM Y nR cR B ne cB D nc cD u ∧ w.heap.size + 2 ≤ u.heap.size) u' := ⟨hS.1.below hb, Nat.le_trans hS.2 hb.size⟩
      refine ⟨hS', ?_⟩
      clear hS hb; have hS := hS'; clear hS'; rename World => u; try simp only [puts]
      rotate_left
      · (go_simp; try (with_reducible rfl))
      intro p5 u' hb ho5 hp5
      clear ho5; replace hp5 := Nat.le_trans (hS.2) hp5
      have hS' : (fun u => RC w st v A la cA X nM cM Y nR cR B ne cB D nc cD u ∧ w.heap.size + 2 ≤ u.heap.size) u' := ⟨hS.1.below hb, Nat.le_trans hS.2 hb.size⟩
      refine ⟨hS', ?_⟩
      clear hS hb; have hS := hS'; clear hS'; rename World => u; try simp only [puts]
      rotate_left
  all_goals first
    |
      refine wpAnyH_ready (rs := [8, 9]) (by decide +kernel) (by simp) (arm_op (i := 8) (T := (fun v w' => ∃ A' c', v = .slice A' ne c' ∧ IntsW w' A' E ne c' (w.heap.size + 2) ∧ Below u.heap.size u w')) rfl (by rfl) (fun K h => app_ints _ _ (by rfl) p5 (w.heap.size + 2) (by rfl) hp5 hS.2 B cB ne (by rfl) E HNE.out (HE.out.below hS.1.1) (by omega) h) ?_ (arm_slice (i := 9) (.cells #[] 61) 0 rfl (by rfl) ?_ ?_ AllReadyH.nil))
      intro v8 u' hT
      obtain ⟨A8, c8, rfl, ht8, hb⟩ := hT
      have hS' : (fun u => RC w st v A la cA X nM cM Y nR cR B ne cB D nc cD u ∧ w.heap.size + 2 ≤ u.heap.size) u' := ⟨hS.1.below hb, Nat.le_trans hS.2 hb.size⟩
      refine ⟨hS', ?_⟩
      replace ht2 := ht2.below hb
      clear hS hb; have hS := hS'; clear hS'; rename World => u; try simp only [puts]
      rotate_left
      · (go_simp; try (with_reducible rfl))
      intro p9 u' hb ho9 hp9
      clear ho9; replace hp9 := Nat.le_trans (hS.2) hp9
      have hS' : (fun u => RC w st v A la cA X nM cM Y nR cR B ne cB D nc cD u ∧ w.heap.size + 2 ≤ u.heap.size) u' := ⟨hS.1.below hb, Nat.le_trans hS.2 hb.size⟩
      refine ⟨hS', ?_⟩
      replace ht2 := ht2.below hb
      clear hS hb; have hS := hS'; clear hS'; rename World => u; try simp only [puts]
      rotate_left
    |
      refine wpAnyH_ready (rs := [5]) (by decide +kernel) (by simp) (arm_slice (i := 5) (.cells #[] 3) 0 rfl (by rfl) ?_ ?_ AllReadyH.nil)
      · (go_simp; try (with_reducible rfl))
      intro p5 u' hb ho5 hp5
      clear ho5; replace hp5 := Nat.le_trans (hS.2) hp5
      have hS' : (fun u => RC w st v A la cA X nM cM Y nR cR B ne cB D nc cD u ∧ w.heap.size + 2 ≤ u.heap.size) u' := ⟨hS.1.below hb, Nat.le_trans hS.2 hb.size⟩
      refine ⟨hS', ?_⟩
      replace ht2 := ht2.below hb
      clear hS hb; have hS := hS'; clear hS'; rename World => u; try simp only [puts]
    |
      refine wpAnyH_ready (rs := [2]) (by decide +kernel) (by simp) (arm_some (i := 2) 31 #[.agg #[.int .i64 st, .int .i64 v, .slice A la cA]] rfl (by rfl) (HSC.out _ (HA.out.below hS.1.1)) ?_ ?_ AllReadyH.nil)
      · (go_simp; try (with_reducible rfl))
      intro v2 u' hT
      obtain ⟨A2, c2, rfl, ht2, hb⟩ := hT
      have hS' : (fun u => RC w st v A la cA X nM cM Y nR cR B ne cB D nc cD u ∧ w.heap.size + 2 ≤ u.heap.size) u' := ⟨hS.1.below hb, Nat.le_trans hS.2 hb.size⟩
      refine ⟨hS', ?_⟩
      clear hS hb; have hS := hS'; clear hS'; rename World => u; try simp only [puts]
  all_goals first
    |
      refine wpAnyH_ready (rs := [8]) (by decide +kernel) (by simp) (arm_op (i := 8) (T := (fun v w' => ∃ A' c', v = .slice A' ne c' ∧ IntsW w' A' E ne c' (w.heap.size + 2) ∧ Below u.heap.size u w')) rfl (by rfl) (fun K h => app_ints _ _ (by rfl) p5 (w.heap.size + 2) (by rfl) hp5 hS.2 B cB ne (by rfl) E HNE.out (HE.out.below hS.1.1) (by omega) h) ?_ AllReadyH.nil)
      intro v8 u' hT
      obtain ⟨A8, c8, rfl, ht8, hb⟩ := hT
      have hS' : (fun u => RC w st v A la cA X nM cM Y nR cR B ne cB D nc cD u ∧ w.heap.size + 2 ≤ u.heap.size) u' := ⟨hS.1.below hb, Nat.le_trans hS.2 hb.size⟩
      refine ⟨hS', ?_⟩
      replace ht2 := ht2.below hb
      clear hS hb; have hS := hS'; clear hS'; rename World => u; try simp only [puts]
    |
      refine wpAnyH_ready (rs := [9]) (by decide +kernel) (by simp) (arm_slice (i := 9) (.cells #[] 61) 0 rfl (by rfl) ?_ ?_ AllReadyH.nil)
      · (go_simp; try (with_reducible rfl))
      intro p9 u' hb ho9 hp9
      clear ho9; replace hp9 := Nat.le_trans (hS.2) hp9
      have hS' : (fun u => RC w st v A la cA X nM cM Y nR cR B ne cB D nc cD u ∧ w.heap.size + 2 ≤ u.heap.size) u' := ⟨hS.1.below hb, Nat.le_trans hS.2 hb.size⟩
      refine ⟨hS', ?_⟩
      replace ht2 := ht2.below hb
      replace ht8 := ht8.below hb
      clear hS hb; have hS := hS'; clear hS'; rename World => u; try simp only [puts]
  all_goals
    refine wpAnyH_ready (rs := [12]) (by decide +kernel) (by simp) (arm_op (i := 12) (T := (fun v w' => ∃ A' c', v = .slice A' nc c' ∧ TlvsW w' A' C nc c' (w.heap.size + 2) ∧ Below u.heap.size u w')) rfl (by rfl) (fun K h => app_codes _ _ (by rfl) p9 (w.heap.size + 2) (by rfl) hp9 hS.2 D cD nc (by rfl) C HNC.out (HC.out.below hS.1.1) (by omega) h) ?_ AllReadyH.nil)
    intro v12 u' hT
    obtain ⟨A12, c12, rfl, ht12, hb⟩ := hT
    have hS' : (fun u => RC w st v A la cA X nM cM Y nR cR B ne cB D nc cD u ∧ w.heap.size + 2 ≤ u.heap.size) u' := ⟨hS.1.below hb, Nat.le_trans hS.2 hb.size⟩
    refine ⟨hS', ?_⟩
    replace ht2 := ht2.below hb
    replace ht8 := ht8.below hb
    clear hS hb; have hS := hS'; clear hS'; rename World => u; try simp only [puts]
  all_goals
    refine gv 13 (v := ?_) (fun u hu => ?_) hS ?_
    rotate_left
    · ((obtain ⟨c0, c1, c2, c3, c4, c5, c6⟩ := hu.1.2.1.cells); go_simp; try (with_reducible rfl))
    try simp only [puts]
    have HT2 := Lib.hid ht2
    have HT8 := Lib.hid ht8
    have HT12 := Lib.hid ht12
    have HS5 := Lib.hid hS.1
    clear ht2 ht8 ht12
    obtain ⟨_, _, _, _, _, _, _, _, _, _, _, _, _, _, _, _, _, _, _, h6⟩ := id hS.1
    have HX5 := Lib.hid h6
    refine only (i := 14) rfl (by kernel_rfl) (by rfl) (fun K hK => ?_)
    obtain ⟨r0, r1, r2, r3, r4, r5, r6⟩ := obj_seven h6
    obtain ⟨f0, f1, f2, f3, f4, f5, f6⟩ := obj_warm7 h6
    go_simp
    have hS6 : RC w st v A la cA X nM cM Y nR cR B ne cB D nc cD (((((((u.setCell ⟨w.heap.size + 1, 0, none⟩ (.int .i64 st)).setCell ⟨w.heap.size + 1, 1, none⟩ (.int .i64 v)).setCell ⟨w.heap.size + 1, 2, none⟩ (.slice A2 la c2)).setCell ⟨w.heap.size + 1, 3, none⟩ (.slice X nM cM)).setCell ⟨w.heap.size + 1, 4, none⟩ (.slice Y nR cR)).setCell ⟨w.heap.size + 1, 5, none⟩ (.slice A8 ne c8)).setCell ⟨w.heap.size + 1, 6, none⟩ (.slice A12 nc c12)) := ⟨below_set7 HS5.out.1 (by omega) _ _ _ _ _ _ _, ((off_set7 u _ _ _ _ _ _ _ _ w.heap.size (by omega)).trans HS5.out.2.1), _, _, _, _, _, _, _, _, _, _, _, _, _, _, _, _, _, obj_set7 h6 _ _ _ _ _ _ _⟩
    refine hK.out _ _ ⟨hS6, by simp; exact hS.2⟩ ?_
    clear hK
    try simp only [puts]
    refine wpAnyH_done (by kernel_rfl) (NoPanic.normal ?_) _
    have HR6 := Lib.hid (obj_set7 HX5.out (.int .i64 st) (.int .i64 v) (.slice A2 la c2) (.slice X nM cM) (.slice Y nR cR) (.slice A8 ne c8) (.slice A12 nc c12))
    have ho := off_set7 u (w.heap.size + 1) (.int .i64 st) (.int .i64 v) (.slice A2 la c2) (.slice X nM cM) (.slice Y nR cR) (.slice A8 ne c8) (.slice A12 nc c12)
    have HB6 := Lib.hid (below_set7 HS5.out.1 (Nat.le_succ _) (.int .i64 st) (.int .i64 v) (.slice A2 la c2) (.slice X nM cM) (.slice Y nR cR) (.slice A8 ne c8) (.slice A12 nc c12))
    have HA6 := Lib.hid (spl_off HT2.out HX5.out ho)
    have HE6 := Lib.hid (ints_off HT8.out.1 (fun a ha => by have := HT8.out.2.2 a ha; omega) ho)
    have HC6 := Lib.hid (tlvs_off HT12.out.1 (fun a ha => by have := HT12.out.2.2 a ha; omega) ho)
    clear r0 r1 r2 r3 r4 r5 r6 f0 f1 f2 f3 f4 f5 f6 h6 hS hS6 ho
    generalize (((((((u.setCell _ _).setCell _ _).setCell _ _).setCell _ _).setCell _ _).setCell _ _).setCell _ _) = w6 at *
    go_wp2
    refine bodyPost_ret (results_cell_row rfl _ _ (w.heap.size + 1) _ _ _ _ rfl HR6.out Tryd.underlying32 rfl (by kernel_rfl)) rfl ?_
    exact ⟨A2, c2, A8, c8, A12, c12, rfl, HA6.out, HE6.out, HT8.out.2.1, HC6.out, HT12.out.2.1, HB6.out⟩

end Go.Proofs.YtnbllngljgmebaaDoor
