/-
  What known, width, halfOf, number and spell answer: for every style, number and eight bytes, in every world.
-/
import Derived.Test.YtdnckiaeeikbhaaBmpMath
import Derived.Test.YtdnckiaeeikbhaaFldSet
import Derived.Test.YtdnckiaeeikbhaaHexPut
namespace Go.Proofs.Ytdnckiaeeikbhaa
open Go.RowKit

/-- Eight cells in a block of their own. -/
theorem obj_cells8 {u : World} {g : Nat} {a b c d e f x y : Value} {t : TypeId} (h : u.heap[g]? = some (.cells #[a, b, c, d, e, f, x, y] t)) :
    (u.cell? ⟨g, 0, none⟩ = some a ∧ u.cell? ⟨g, 1, none⟩ = some b ∧ u.cell? ⟨g, 2, none⟩ = some c ∧ u.cell? ⟨g, 3, none⟩ = some d ∧ u.cell? ⟨g, 4, none⟩ = some e ∧ u.cell? ⟨g, 5, none⟩ = some f ∧ u.cell? ⟨g, 6, none⟩ = some x ∧ u.cell? ⟨g, 7, none⟩ = some y) ∧
    u.frozen? ⟨g, 0, none⟩ = false ∧ u.frozen? ⟨g, 1, none⟩ = false ∧ u.frozen? ⟨g, 2, none⟩ = false ∧ u.frozen? ⟨g, 3, none⟩ = false ∧ u.frozen? ⟨g, 4, none⟩ = false ∧ u.frozen? ⟨g, 5, none⟩ = false ∧ u.frozen? ⟨g, 6, none⟩ = false ∧ u.frozen? ⟨g, 7, none⟩ = false :=
  ⟨⟨cell_of_row u g 0 _ t _ h, cell_of_row u g 1 _ t _ h, cell_of_row u g 2 _ t _ h, cell_of_row u g 3 _ t _ h, cell_of_row u g 4 _ t _ h, cell_of_row u g 5 _ t _ h, cell_of_row u g 6 _ t _ h, cell_of_row u g 7 _ t _ h⟩,
   frozen_of_row u g 0 _ t h, frozen_of_row u g 1 _ t h, frozen_of_row u g 2 _ t h, frozen_of_row u g 3 _ t h, frozen_of_row u g 4 _ t h, frozen_of_row u g 5 _ t h, frozen_of_row u g 6 _ t h, frozen_of_row u g 7 _ t h⟩
def set8 (u : World) (g : Nat) (a b c d e f x y : Value) : World :=
  (((((((u.setCell ⟨g, 0, none⟩ a).setCell ⟨g, 1, none⟩ b).setCell ⟨g, 2, none⟩ c).setCell ⟨g, 3, none⟩ d).setCell ⟨g, 4, none⟩ e).setCell ⟨g, 5, none⟩ f).setCell ⟨g, 6, none⟩ x).setCell ⟨g, 7, none⟩ y
theorem obj_set8 {u : World} {g : Nat} {a' b' c' d' e' f' x' y' : Value} {t : TypeId} (h : u.heap[g]? = some (.cells #[a', b', c', d', e', f', x', y'] t)) (a b c d e f x y : Value) :
    (set8 u g a b c d e f x y).heap[g]? = some (.cells #[a, b, c, d, e, f, x, y] t) := by
  have k := heap_setCell_same _ g 7 _ t y (heap_setCell_same _ g 6 _ t x (heap_setCell_same _ g 5 _ t f (heap_setCell_same _ g 4 _ t e (heap_setCell_same _ g 3 _ t d (heap_setCell_same _ g 2 _ t c (heap_setCell_same _ g 1 _ t b (heap_setCell_same u g 0 _ t a h)))))))
  unfold set8
  rw [k]
  simp
theorem obj_set8_other {u : World} {p q : Nat} {O : Obj} (h : u.heap[q]? = some O) (hq : q ≠ p) (a b c d e f x y : Value) : (set8 u p a b c d e f x y).heap[q]? = some O := by
  unfold set8
  rw [heap_setCell_other _ _ _ _ hq, heap_setCell_other _ _ _ _ hq, heap_setCell_other _ _ _ _ hq, heap_setCell_other _ _ _ _ hq, heap_setCell_other _ _ _ _ hq, heap_setCell_other _ _ _ _ hq, heap_setCell_other _ _ _ _ hq, heap_setCell_other _ _ _ _ hq]
  exact h
theorem below_set8 {w u : World} {p : Nat} (h : Below w.heap.size w u) (hp : w.heap.size ≤ p) (a b c d e f x y : Value) : Below w.heap.size w (set8 u p a b c d e f x y) :=
  (((((((h.setCell (p := ⟨p, 0, none⟩) hp a).setCell (p := ⟨p, 1, none⟩) hp b).setCell (p := ⟨p, 2, none⟩) hp c).setCell (p := ⟨p, 3, none⟩) hp d).setCell (p := ⟨p, 4, none⟩) hp e).setCell (p := ⟨p, 5, none⟩) hp f).setCell (p := ⟨p, 6, none⟩) hp x).setCell (p := ⟨p, 7, none⟩) hp y

/-- A half, as a value and as a block. -/
def halfV (l : List UInt8) : Value := .agg (l.map xb).toArray
def halfO (l : List UInt8) : Obj := .cells (l.map xb).toArray 50

theorem known_any (st : Int) (w : World) : Calls Try.prog 18 #[.int .i64 st] w fun e w' => e = .returned (.bool (decide (st = 1) || decide (st = 2))) ∧ w = w' := by
  go_enter Try.func18, Try.ntmps18
  go_wp2
  · go_ret
    refine ⟨?_, rfl⟩
    rename_i h
    simp [h]
  · go_ret
    refine ⟨?_, rfl⟩
    rfl
theorem known_yes (st : Nat) (h : st = 1 ∨ st = 2) (w : World) : Calls Try.prog 18 #[.int .i64 (st : Int)] w fun e w' => e = .returned (.bool true) ∧ w = w' := by
  have := known_any (st : Int) w
  rwa [show (decide ((st : Int) = 1) || decide ((st : Int) = 2)) = true by rcases h with rfl | rfl <;> rfl] at this
theorem known_no (st : Int) (h : st ≠ 1 ∧ st ≠ 2) (w : World) : Calls Try.prog 18 #[.int .i64 st] w fun e w' => e = .returned (.bool false) ∧ w = w' := by
  have := known_any st w
  rwa [show (decide (st = 1) || decide (st = 2)) = false by simp [h.1, h.2]] at this
theorem width_any (st : Nat) (w : World) : Calls Try.prog 35 #[.int .i64 (st : Int)] w fun e w' => e = .returned (.int .i64 (wid st : Int)) ∧ w = w' := by
  unfold wid
  by_cases h : st = 1
  · subst h
    go_enter Try.func35, Try.ntmps35
    go_wp2
    go_ret
    exact ⟨rfl, rfl⟩
  · rw [if_neg h]
    have h' : ((st : Int) == 1) = false := by simp; omega
    go_enter Try.func35, Try.ntmps35
    go_wp2
    go_ret
    exact ⟨rfl, rfl⟩

def halfK (x k : Nat) : Array Value := ((List.range 8).map fun j => if 7 - j < k then .int .u8 (byN x (7 - j) : Int) else .int .u8 0).toArray
theorem halfK_at (x k : Nat) (hk : k < 8) : (halfK x k)[7 - k]? = some (.int .u8 0) := by
  match k, hk with
  | 0, _ => rfl
  | 1, _ => rfl
  | 2, _ => rfl
  | 3, _ => rfl
  | 4, _ => rfl
  | 5, _ => rfl
  | 6, _ => rfl
  | 7, _ => rfl
theorem halfK_step (x k : Nat) (hk : k < 8) : (halfK x k).setIfInBounds (7 - k) (.int .u8 ((x : Int) / 2 ^ (8 * k) % 256)) = halfK x (k + 1) := by
  have e : (x : Int) / 2 ^ (8 * k) % 256 = ((byN x k : Nat) : Int) := by unfold byN; simp
  rw [e]
  clear e
  match k, hk with
  | 0, _ => rfl
  | 1, _ => rfl
  | 2, _ => rfl
  | 3, _ => rfl
  | 4, _ => rfl
  | 5, _ => rfl
  | 6, _ => rfl
  | 7, _ => rfl
theorem halfK_end (x : Nat) : halfK x 8 = ((halfL x).map xb).toArray := by
  have e : ∀ i, Value.int .u8 (byN x i : Int) = xb (UInt8.ofNat (byN x i)) := fun i => by unfold xb; rw [of_byN]
  show #[Value.int .u8 (byN x 7 : Int), .int .u8 (byN x 6 : Int), .int .u8 (byN x 5 : Int), .int .u8 (byN x 4 : Int), .int .u8 (byN x 3 : Int), .int .u8 (byN x 2 : Int), .int .u8 (byN x 1 : Int), .int .u8 (byN x 0 : Int)] = _
  rw [e, e, e, e, e, e, e, e]
  rfl

set_option maxHeartbeats 800000 in
theorem halfOf_any (x : Nat) (w : World) : Calls Try.prog 20 #[.int .u64 (x : Int)] w fun e w' => e = .returned (halfV (halfL x)) ∧ Below w.heap.size w w' := by
  unfold halfV
  go_enter Try.func20, Try.ntmps20
  go_wp2
  go_loopw [4, 5] (fun _ i wr => ∃ k : Nat, k ≤ 8 ∧ i = .int .i64 (k : Int) ∧ wr.heap[w.heap.size + 1]? = some (.cells (halfK x k) 50) ∧ wr.heap[w.heap.size]? = some (.cells (halfK x 0) 50) ∧ Below w.heap.size w wr) (fun _ i _ => 8 - (intOf i).toNat)
  case atStart => exact ⟨0, Nat.zero_le _, rfl, heap_alloc2_new _ _ _, heap_alloc2_old _ _ _, hbt (below_al _ _) (below_al _ _)⟩
  case round =>
    obtain ⟨k, hk, rfl, h1, h0, hb⟩ := hrel
    by_cases hlt : k < 8
    · have hf := frozen_of_row wr (w.heap.size + 1) (7 - k) _ _ h1
      have hc := cell_of_row wr (w.heap.size + 1) (7 - k) _ _ _ h1
      rw [halfK_at x k hlt] at hc
      have H1 := Lib.hid h1; have H0 := Lib.hid h0; clear h1 h0
      go_wp2
      go_roundw
      case rel =>
        refine ⟨k + 1, by omega, by go_num, ?_, ?_, ?_⟩
        · rw [← halfK_step x k hlt]; exact heap_setCell_same _ _ _ _ _ _ H1.out
        · rw [heap_setCell_other _ _ _ _ (by simp)]; exact H0.out
        · exact hb.setCell (p := ⟨w.heap.size + 1, 7 - k, none⟩) (by simp) _
      case measure => simp [intOf]; omega
    · obtain rfl : k = 8 := by omega
      have h1' : wr.heap[w.heap.size + 1]? = some (.cells #[Value.int .u8 (byN x 7 : Int), .int .u8 (byN x 6 : Int), .int .u8 (byN x 5 : Int), .int .u8 (byN x 4 : Int), .int .u8 (byN x 3 : Int), .int .u8 (byN x 2 : Int), .int .u8 (byN x 1 : Int), .int .u8 (byN x 0 : Int)] 50) := h1
      have h0' : wr.heap[w.heap.size]? = some (.cells #[Value.int .u8 0, .int .u8 0, .int .u8 0, .int .u8 0, .int .u8 0, .int .u8 0, .int .u8 0, .int .u8 0] 50) := h0
      have HE := Lib.hid (halfK_end x)
      have HE' : Hid (halfK x 8 = #[Value.int .u8 (byN x 7 : Int), .int .u8 (byN x 6 : Int), .int .u8 (byN x 5 : Int), .int .u8 (byN x 4 : Int), .int .u8 (byN x 3 : Int), .int .u8 (byN x 2 : Int), .int .u8 (byN x 1 : Int), .int .u8 (byN x 0 : Int)]) := rfl
      generalize byN x 7 = y7 at *
      generalize byN x 6 = y6 at *
      generalize byN x 5 = y5 at *
      generalize byN x 4 = y4 at *
      generalize byN x 3 = y3 at *
      generalize byN x 2 = y2 at *
      generalize byN x 1 = y1 at *
      generalize byN x 0 = y0 at *
      obtain ⟨⟨c0, c1, c2, c3, c4, c5, c6, c7⟩, _⟩ := obj_cells8 h1'
      obtain ⟨⟨d0, d1, d2, d3, d4, d5, d6, d7⟩, f0, f1, f2, f3, f4, f5, f6, f7⟩ := obj_cells8 h0'
      have H0 := Lib.hid h0'
      clear h1 h0 h1' h0'
      go_wp2
      refine bodyPost_ret (results_cell_row rfl _ _ w.heap.size _ _ _ _ rfl (obj_set8 H0.out _ _ _ _ _ _ _ _) Try.underlying50 rfl (by kernel_rfl)) rfl ?_
      exact ⟨by rw [← HE.out, HE'.out], below_set8 hb (by simp) _ _ _ _ _ _ _ _⟩

theorem ix_half (cs : Array Value) (k : Nat) (hs : cs.size = 8) (h : k < 8) (w : World) : (Instr.index 50 (.agg cs) (.int .i64 (k : Int))).run Try.prog w = .ok (cs[k]'(by omega)) w := by
  have hk : k < cs.size := by omega
  simp [Instr.index, run_underlying Try.underlying50, asIntOf, h, part, isAgg, run_underlying Try.underlying5, hk]
theorem or_byte (y c : Nat) (hy : y < 72057594037927936) (hc : c < 256) : bits .or .u64 ((y : Int) * 256) (c : Int) = ((y * 256 + c : Nat) : Int) := by
  have h := u64_or_nat (y * 256) c (by omega) (by omega)
  rw [show ((y * 256 : Nat) : Int) = (y : Int) * 256 by simp] at h
  rw [h]
  congr 1
  have := Nat.two_pow_add_eq_or_of_lt (i := 8) (b := c) (by omega) y
  rw [Nat.mul_comm y 256, show 256 = 2 ^ 8 from rfl, ← this]
theorem numL_take_lt (l : List UInt8) (k : Nat) (h : l.length = 8) (hk : k < 8) : numL (l.take k) < 72057594037927936 := by
  rw [numL_cut l k (by omega), h]
  have := numL_lt h
  unfold M64 at this
  have e : 256 ≤ 256 ^ (8 - k) := by
    have : 256 ^ 1 ≤ 256 ^ (8 - k) := Nat.pow_le_pow_right (by omega) (by omega)
    omega
  have h2 : numL l / 256 ^ (8 - k) ≤ numL l / 256 := Nat.div_le_div_left e (by omega)
  omega

set_option maxRecDepth 100000 in
set_option maxHeartbeats 800000 in
theorem number_any (l : List UInt8) (w : World) (h : l.length = 8) : Calls Try.prog 28 #[halfV l] w fun e w' => e = .returned (.int .u64 (numL l : Int)) ∧ Below w.heap.size w w' := by
  have HX : Hid (∀ (k : Nat) (hk : k < 8) (W : World), (Instr.index 50 (.agg (l.map xb).toArray) (.int .i64 (k : Int))).run Try.prog W = .ok (xb (l.getD k 0)) W) := fun k hk W => by
    rw [ix_half (l.map xb).toArray k (by simp [h]) hk W]
    simp [List.getD, h, hk]
  have HN : Hid (∀ (k : Nat) (hk : k < 8), numL (l.take (k + 1)) = numL (l.take k) * 256 + (l.getD k 0).toNat) := fun k hk => by rw [List.take_succ_eq_append_getElem (by omega), numL_snoc]; simp [List.getD, h, hk]
  have HL : Hid (∀ k, k < 8 → numL (l.take k) < 72057594037927936) := fun k hk => numL_take_lt l k h hk
  have HE : Hid (numL (l.take 8) = numL l) := by show _ = _; rw [List.take_of_length_le (by omega)]
  obtain ⟨a, b, c, d, e, f, g, i, rfl⟩ := eight h
  unfold halfV
  have hlist : (List.map xb [a, b, c, d, e, f, g, i]).toArray = #[xb a, xb b, xb c, xb d, xb e, xb f, xb g, xb i] := rfl
  rw [hlist] at HX ⊢
  clear hlist h
  generalize [a, b, c, d, e, f, g, i] = l at *
  go_enter Try.func28, Try.ntmps28
  go_wp2
  go_loop [3, 5, 7] (fun n _ i => ∃ k : Nat, k ≤ 8 ∧ i = .int .i64 (k : Int) ∧ n = .int .u64 (numL (l.take k) : Int)) (fun _ _ i => 8 - (intOf i).toNat)
  case atStart => exact ⟨0, Nat.zero_le _, rfl, rfl⟩
  case round =>
    obtain ⟨k, hk, rfl, rfl⟩ := hrel
    by_cases hlt : k < 8
    · have hx : ∀ W : World, (Instr.index 50 (.agg #[xb a, xb b, xb c, xb d, xb e, xb f, xb g, xb i]) (.int .i64 (k : Int))).run Try.prog W = .ok (.int .u8 ((l.getD k 0).toNat : Int)) W := HX.out k hlt
      have hn := HN.out k hlt
      have hl := HL.out k hlt
      generalize l.getD k 0 = v at *
      generalize numL (l.take k) = y at *
      have hv := v.toNat_lt
      have ho := or_byte y v.toNat hl hv
      generalize v.toNat = z at *
      have HN' := Lib.hid hn
      generalize hq : y * 256 + z = q at *
      have HQ := Lib.hid hq
      clear hn hq
      have hw : IntKind.u64.wrap ((y : Int) * 256) = (y : Int) * 256 := by rw [IntKind.wrap_u64]; omega
      have hw2 : IntKind.u64.wrap (z : Int) = (z : Int) := by rw [IntKind.wrap_u64]; omega
      have HL' := Lib.hid hl
      clear hl hv
      go_wp2
      go_round
      case rel => exact ⟨k + 1, by omega, by go_num, by rw [HN'.out]⟩
      case measure => simp [intOf]; omega
    · obtain rfl : k = 8 := by omega
      rw [HE.out]
      go_wp2
      go_ret
      exact ⟨rfl, below_al _ _⟩

theorem cv_half (l : List UInt8) (w : World) (g : Nat) (h : l.length = 8) (ho : w.heap[g]? = some (halfO l)) : (convert 63 9 (.slice (some ⟨g, 0, none⟩) 8 8)).run Try.prog w = .ok (.string ⟨l.toArray⟩) w := by
  have hr := run_convert_bytes_back (P := Try.prog) w 63 9 5 ⟨g, 0, none⟩ 8 l Try.underlying63 Try.underlying5 Try.underlying9 (by
    intro i hi
    rw [show (⟨g, 0, none⟩ : Addr).add i = ⟨g, i, none⟩ from by rw [Addr.add_lit, Nat.zero_add], cell_of_row w g i _ _ _ ho]
    simp [xb, hi])
  rw [h] at hr
  exact hr

set_option maxHeartbeats 800000 in
theorem spell_any (st : Nat) (l : List UInt8) (w : World) (h : l.length = 8) : Calls Try.prog 21 #[halfV l, .int .i64 (st : Int)] w fun e w' => e = .returned (.string ⟨(spL st l).toArray⟩) ∧ Below w.heap.size w w' := by
  have hcv := cv_half l (w.alloc (halfO l)) w.heap.size h (heap_alloc_new _ _)
  have HP := Lib.hid (fun W => hput_any ⟨l.toArray⟩ W (by show l.toArray.size ≤ _; simp [h]))
  have HS : Hid (spL st l = if st = 1 then hputL l else l) := rfl
  unfold halfO at hcv
  obtain ⟨a, b, c, d, e, f, g, i, rfl⟩ := eight h
  unfold halfV
  clear h
  have hlist : (List.map xb [a, b, c, d, e, f, g, i]).toArray = #[xb a, xb b, xb c, xb d, xb e, xb f, xb g, xb i] := rfl
  rw [hlist] at hcv ⊢
  clear hlist
  generalize [a, b, c, d, e, f, g, i] = l at *
  by_cases hs : st = 1
  · subst hs
    go_enter Try.func21, Try.ntmps21
    go_wp2_with fail
    refine (HP.out _).mono ?_
    rintro e w1 ⟨rfl, hb⟩
    go_wp2
    go_ret
    exact ⟨by rw [HS.out]; rfl, hbt (below_al _ _) hb⟩
  · have h' : ((st : Int) == 1) = false := by simp; omega
    have HS' : Hid (spL st l = l) := by show _ = _; rw [HS.out, if_neg hs]
    go_enter Try.func21, Try.ntmps21
    go_wp2
    go_ret
    exact ⟨by rw [HS'.out]; rfl, below_al _ _⟩

end Go.Proofs.Ytdnckiaeeikbhaa
