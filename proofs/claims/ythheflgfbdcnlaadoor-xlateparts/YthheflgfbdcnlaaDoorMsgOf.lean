/-
  Slices of fields' values: a row of the call's own, a copy; a message's block.
-/
import Derived.Test.YthheflgfbdcnlaaDoorPackTlv
import Derived.Test.YthheflgfbdcnlaaDoorMsgMath
import Derived.Test.YthheflgfbdcnlaaDoorPackSch
namespace Go.Proofs.YthheflgfbdcnlaaDoor
open Go.RowKit

theorem Tryd.infoVal : (Tryd.prog.info? 45).map (fun i => (i.zero, i.size, i.bytes)) = some (some (.agg #[.int .i64 0, .string ⟨#[]⟩]), 2, 24) := by kernel_rfl
theorem Tlvs.at_ {w : World} {A : Option Addr} {l : List Item} (h : Tlvs w A l) {i : Nat} (hi : i < l.length) : ∃ a n s, A = some a ∧ itemAt l i = (n, s) ∧ w.cell? (a.add (i * 2)) = some (.int .i64 n) ∧ w.cell? ⟨(a.add (i * 2)).block, (a.add (i * 2)).off + 1, none⟩ = some (.string s) := by
  obtain ⟨a, ha, h0, h1⟩ := h i hi
  exact ⟨a, _, _, ha, rfl, h0, h1⟩
/-- What a row of the call's own holds, as a slice that is read. -/
theorem vals_own {w : World} {base n e : Nat} {v : Value} {l : List Item} (h : w.ownsRow base e 2 v n (itemsC l)) (hn : n = l.length) : ∃ A cap, v = .slice A l.length cap ∧ Tlvs w A l := by
  subst hn
  rcases h.2 with ⟨hv, h0⟩ | ⟨g, cap, cur, hv, _⟩
  · have : l = [] := List.eq_nil_of_length_eq_zero h0
    subst this
    exact ⟨none, 0, hv, tlvs_nil _ _⟩
  · refine ⟨some ⟨g, 0, none⟩, cap, hv, fun i hi => ⟨_, rfl, ?_⟩⟩
    subst hv
    have e1 : (⟨g, 0, none⟩ : Addr).add (i * 2) = ⟨g, i * 2, none⟩ := by rw [Addr.add_lit, Nat.zero_add]
    rw [e1]
    have hc := itemsC_at l i hi
    exact ⟨(h.cellAt (i * 2) (by omega)).trans hc.1, (h.cellAt (i * 2 + 1) (by omega)).trans hc.2⟩
theorem vals_own_at {w : World} {base n e cap : Nat} {A : Option Addr} {l : List Item} (h : w.ownsRow base e 2 (.slice A n cap) n (itemsC l)) (hn : n = l.length) : Tlvs w A l := by
  obtain ⟨A', c', hv, ht⟩ := vals_own h hn
  injection hv with h1 h2 h3
  subst h1
  exact ht
theorem vals_own_cap {w : World} {base n e : Nat} {v : Value} {l : List Item} (h : w.ownsRow base e 2 v n (itemsC l)) (hn : n = l.length) : ∃ A cap, v = .slice A l.length cap ∧ l.length ≤ cap ∧ Tlvs w A l := by
  obtain ⟨A, cap, hv, ht⟩ := vals_own h hn
  refine ⟨A, cap, hv, ?_, ht⟩
  subst hn
  rcases h.2 with ⟨_, h0⟩ | ⟨g, c, cur, h1, _, _, h4, _⟩
  · omega
  · rw [h1] at hv
    injection hv with _ _ h3
    omega
/-- A row's cells, as a slice of values. -/
theorem vals_row {u : World} {g : Nat} {cs : Array Value} {t : TypeId} {l : List Item} (h : u.heap[g]? = some (.cells cs t)) (hc : cs.toList = itemsC l) : Tlvs u (some ⟨g, 0, none⟩) l := by
  intro i hi
  refine ⟨_, rfl, ?_⟩
  rw [show (⟨g, 0, none⟩ : Addr).add (i * 2) = ⟨g, i * 2, none⟩ from by rw [Addr.add_lit, Nat.zero_add]]
  have hat := itemsC_at l i hi
  have hcell : ∀ j, u.cell? ⟨g, j, none⟩ = (itemsC l)[j]? := fun j => by rw [cell_of_row u g j _ t _ h, ← hc]; simp
  exact ⟨(hcell (i * 2)).trans hat.1, (hcell (i * 2 + 1)).trans hat.2⟩

/-- 'append([]api.Value{}, l...)', at a step of a region that draws its order: a slice of the call's own that holds the same, also where l is of none. -/
theorem wp_copy_vals {o : Oper} {a : Act} {K : Act → World → Prop} {Q : Exit → Act → World → Prop} (s x : Operand)
    (ho : o.op = .call { callee := .builtin .append, args := #[s, x], argTypes := #[30, 30] }) (U : World) (B g : Nat) (hs : a.eval s = .slice (some ⟨g, 0, none⟩) 0 0)
    (hown : U.ownsRow B 45 2 (.slice (some ⟨g, 0, none⟩) 0 0) 0 []) (hB : B ≤ U.heap.size)
    (A : Option Addr) (c len : Nat) (hx : a.eval x = .slice A len c) (l : List Item) (hlen : l.length = len) (hT : Tlvs U A l) (hl : len ≤ 5000000)
    (h : ∀ A' c' w', Tlvs w' A' l → (∀ a, A' = some a → a.block = g ∨ a.block = U.heap.size) → (∀ W : World, Below W.heap.size W U → W.heap.size ≤ g → Below W.heap.size W w') → K (a.put o.dst (.slice A' len c')) w') : o.wp Tryd.prog a U K Q := by
  obtain ⟨i0, hi, hz0, hz1, hz2⟩ := info_parts Tryd.infoVal
  by_cases h0 : len = 0
  · subst h0
    have hnil : l = [] := List.eq_nil_of_length_eq_zero hlen
    subst hnil
    have hr : (Builtin.append_ #[30, 30] o.type #[.slice (some ⟨g, 0, none⟩) 0 0, .slice A 0 c]).run Tryd.prog U = .ok (.slice (some ⟨g, 0, none⟩) 0 0) U := by
      cases A <;> simp [Builtin.append_, run_underlying Tryd.underlying30, sizeOf, typeInfo, hi, Builtin.lenOf, Builtin.firstCells, storeCells, loadCells, loadCellsFrom]
    unfold Oper.wp execOp
    simp only [ho, resolve, invoke, builtin, Sem.run_bind, Sem.run_pure, Result.andThen_ok, List.map_toArray, List.map_cons, List.map_nil, hs, hx, hr]
    exact h _ _ _ (tlvs_nil _ _) (fun a ha => by injection ha with ha; subst ha; exact .inl rfl) (fun W hW _ => hW)
  · obtain ⟨a', rfl, _⟩ := hT 0 (by omega)
    refine wp_append_lies _ s x _ ho B 45 i0 _ 2 24 Tryd.underlying30 hi hz0 hz1 hz2 rfl (by omega) (.slice (some ⟨g, 0, none⟩) 0 0) 0 [] hs hown a' len c (itemsC l) hx (by rw [itemsC_length, hlen]) (tlvs_news hT) (items_one l) (by omega) (by unfold maxLen; omega) (by omega) hB U.heap.size rfl ?_
    intro g' cap' w2 hown2 hgrow hat hlt2
    rw [Nat.zero_add] at hown2 ⊢
    have hblk : ∀ q : Addr, (some ⟨g', 0, none⟩ : Option Addr) = some q → q.block = g ∨ q.block = U.heap.size := by
      intro q hq
      injection hq with hq
      subst hq
      rcases hat with he | he
      · left; simp [Value.ownBlock] at he; exact he.symm
      · exact .inr he
    exact h _ _ _ (vals_own_at (by simpa using hown2) hlen.symm) hblk (fun W hW hg => hW.grown hgrow hW.size (by intro q hq; simp [Value.ownBlock] at hq; omega))

/-- A message in a block. -/
def MBox (u : World) (g : Nat) (m : ByteArray) (A : Option Addr) (len cap : Nat) : Prop := u.heap[g]? = some (.cells #[.string m, .slice A len cap] 32)
theorem MBox.below {u u' : World} {g : Nat} {m : ByteArray} {A : Option Addr} {len cap : Nat} (h : MBox u g m A len cap) (hb : Below u.heap.size u u') : MBox u' g m A len cap := obj_below h hb
theorem mbox_new (w : World) (m : ByteArray) (A : Option Addr) (len cap : Nat) : MBox (w.alloc (.cells #[.string m, .slice A len cap] 32)) w.heap.size m A len cap := heap_alloc_new _ _
theorem vals_set {w : World} {A : Option Addr} {l : List Item} {p : Nat} (h : Tlvs w A l) (hp : ∀ a, A = some a → a.block ≠ p) (i : Nat) (x : Value) : Tlvs (w.setCell ⟨p, i, none⟩ x) A l := by
  intro k hk
  obtain ⟨a, ha, h0, h1⟩ := h k hk
  have hab : (a.add (k * 2)).block = a.block := by unfold Addr.add; split <;> rfl
  have hc : ∀ q : Addr, q.block = a.block → (w.setCell ⟨p, i, none⟩ x).cell? q = w.cell? q := fun q hq => World.cell?_of_block (by
    have hne : q.block ≠ p := by rw [hq]; exact hp a ha
    rw [heap_setCell_other _ _ _ _ hne])
  exact ⟨a, ha, (hc _ hab).trans h0, (hc ⟨_, (a.add (k * 2)).off + 1, none⟩ hab).trans h1⟩
/-- A slice of values lies in no block of a text and a slice. -/
theorem vals_apart {w : World} {A : Option Addr} {l : List Item} {p : Nat} {m : ByteArray} {X : Option Addr} {n c : Nat} {t : TypeId} (h : Tlvs w A l) (hl : 0 < l.length) (hg : w.heap[p]? = some (.cells #[.string m, .slice X n c] t)) : ∀ a, A = some a → a.block ≠ p := by
  intro q hq e
  obtain ⟨a', ha, h0, _⟩ := h 0 hl
  rw [hq] at ha
  injection ha with ha
  subst ha
  have hz : (q.add (0 * 2)) = q := by simp [Addr.add]
  rw [hz] at h0
  obtain ⟨b, o, f⟩ := q
  dsimp only at e
  subst e
  cases f with
  | none =>
    rw [cell_of_row _ _ _ _ _ _ hg] at h0
    match o with
    | 0 => simp at h0
    | 1 => simp at h0
    | o + 2 => simp at h0
  | some f => simp [World.cell?, hg] at h0
theorem vals_store2 {w : World} {A : Option Addr} {l : List Item} {p : Nat} {m : ByteArray} {X : Option Addr} {n c : Nat} {t : TypeId} (h : Tlvs w A l) (hg : w.heap[p]? = some (.cells #[.string m, .slice X n c] t)) (m' : ByteArray) (X' : Option Addr) (n' c' : Nat) :
    Tlvs ((w.setCell ⟨p, 0, none⟩ (.string m')).setCell ⟨p, 1, none⟩ (.slice X' n' c')) A l := by
  by_cases h0 : 0 < l.length
  · exact vals_set (vals_set h (vals_apart h h0 hg) _ _) (vals_apart h h0 hg) _ _
  · intro i hi; omega
theorem vals_store1 {w : World} {A : Option Addr} {l : List Item} {p : Nat} {m : ByteArray} {X : Option Addr} {n c : Nat} {t : TypeId} (h : Tlvs w A l) (hg : w.heap[p]? = some (.cells #[.string m, .slice X n c] t)) (x : Value) :
    Tlvs (w.setCell ⟨p, 1, none⟩ x) A l := by
  by_cases h0 : 0 < l.length
  · exact vals_set h (vals_apart h h0 hg) _ _
  · intro i hi; omega
theorem owns_set1 {w : World} {base e size n p : Nat} {v : Value} {xs : List Value} (h : w.ownsRow base e size v n xs) (hp : p < base) (i : Nat) (x : Value) : (w.setCell ⟨p, i, none⟩ x).ownsRow base e size v n xs := by
  refine ⟨h.1, ?_⟩
  rcases h.2 with h1 | ⟨g', cap, cur, h1, h2, h3, h4⟩
  · exact .inl h1
  · refine .inr ⟨g', cap, cur, h1, h2, ?_, h4⟩
    rw [heap_setCell_other _ _ _ _ (show g' ≠ p by omega)]
    exact h3

end Go.Proofs.YthheflgfbdcnlaaDoor
