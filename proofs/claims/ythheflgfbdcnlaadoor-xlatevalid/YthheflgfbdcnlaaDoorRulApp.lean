/-
  What the document's Apply of a rule, its Great and its Copy answer: for every rule, in every world.
-/
import Derived.Test.YthheflgfbdcnlaaDoorRulOf
import Derived.Test.YthheflgfbdcnlaaDoorPackSch
import Derived.Test.YthheflgfbdcnlaaDoorPackDig
import Derived.Test.YthheflgfbdcnlaaDoorPackCod
namespace Go.Proofs.YthheflgfbdcnlaaDoor
open Go.RowKit

/-- A rule, a schema, and a value's room. -/
def RA (w : World) (k f t : Int) (s : ByteArray) (B : Option Addr) (n c : Nat) (st v : Int) (A : Option Addr) (la ca : Nat) (u : World) : Prop :=
  Below w.heap.size w u ∧ RBox u w.heap.size k f t s B n c ∧ Box u (w.heap.size + 1) st v A la ca ∧ u.heap[w.heap.size + 2]? = some (.cells #[.int .i64 0, .string ⟨#[]⟩] 45)
theorem RA.below {w : World} {k f t : Int} {s : ByteArray} {B : Option Addr} {n c : Nat} {st v : Int} {A : Option Addr} {la ca : Nat} {u u' : World} (h : RA w k f t s B n c st v A la ca u) (hb : Below u.heap.size u u') : RA w k f t s B n c st v A la ca u' :=
  ⟨hbt h.1 hb, h.2.1.below hb, h.2.2.1.below hb, obj_below h.2.2.2 hb⟩
theorem ra_new (w : World) (k f t : Int) (s : ByteArray) (B : Option Addr) (n c : Nat) (st v : Int) (A : Option Addr) (la ca : Nat) :
    RA w k f t s B n c st v A la ca (((w.alloc (.cells #[.int .i64 k, .int .i64 f, .int .i64 t, .string s, .slice B n c] 48)).alloc (.cells #[.int .i64 st, .int .i64 v, .slice A la ca] 28)).alloc (.cells #[.int .i64 0, .string ⟨#[]⟩] 45)) :=
  ⟨hbt (hbt (below_al _ _) (below_al _ _)) (below_al _ _), obj_below (obj_below (heap_alloc_new _ _) (below_al _ _)) (below_al _ _), obj_below (heap_al _ _ _ (by simp)) (below_al _ _), heap_al _ _ _ (by simp)⟩
/-- The cells of the three. -/
theorem RA.cells {w : World} {k f t : Int} {s : ByteArray} {B : Option Addr} {n c : Nat} {st v : Int} {A : Option Addr} {la ca : Nat} {u : World} (h : RA w k f t s B n c st v A la ca u) :
    (u.cell? ⟨w.heap.size, 0, none⟩ = some (.int .i64 k) ∧ u.cell? ⟨w.heap.size, 1, none⟩ = some (.int .i64 f) ∧ u.cell? ⟨w.heap.size, 2, none⟩ = some (.int .i64 t) ∧ u.cell? ⟨w.heap.size, 3, none⟩ = some (.string s) ∧ u.cell? ⟨w.heap.size, 4, none⟩ = some (.slice B n c)) ∧
    (u.cell? ⟨w.heap.size + 1, 0, none⟩ = some (.int .i64 st) ∧ u.cell? ⟨w.heap.size + 1, 1, none⟩ = some (.int .i64 v) ∧ u.cell? ⟨w.heap.size + 1, 2, none⟩ = some (.slice A la ca)) ∧
    u.cell? ⟨w.heap.size + 2, 0, none⟩ = some (.int .i64 0) ∧ u.cell? ⟨w.heap.size + 2, 1, none⟩ = some (.string ⟨#[]⟩) ∧ u.frozen? ⟨w.heap.size + 2, 0, none⟩ = false ∧ u.frozen? ⟨w.heap.size + 2, 1, none⟩ = false := by
  obtain ⟨_, h1, h2, h3⟩ := h
  exact ⟨obj_cells5 h1, obj_cells3 h2, obj_cells h3⟩

set_option maxRecDepth 100000 in
set_option maxHeartbeats 1600000 in
theorem rgreat_long (k f t : Int) (s : ByteArray) (B : Option Addr) (n cP : Nat) (w : World) (hs : s.size ≤ maxLen) (h : 1200 < s.size) : Calls Tryd.prog 25 #[.agg #[.int .i64 k, .int .i64 f, .int .i64 t, .string s, .slice B n cP]] w fun e w' => e = .returned (.bool true) ∧ Below w.heap.size w w' := by
  unfold maxLen at hs
  go_enter Tryd.func25, Tryd.ntmps25
  go_wp2
  go_ret
  exact ⟨rfl, below_al _ _⟩
set_option maxRecDepth 100000 in
set_option maxHeartbeats 1600000 in
theorem rgreat_many (k f t : Int) (s : ByteArray) (B : Option Addr) (n cP : Nat) (w : World) (hs : s.size ≤ 1200) (hn : n ≤ maxLen) (h : 300 < n) : Calls Tryd.prog 25 #[.agg #[.int .i64 k, .int .i64 f, .int .i64 t, .string s, .slice B n cP]] w fun e w' => e = .returned (.bool true) ∧ Below w.heap.size w w' := by
  unfold maxLen at hn
  go_enter Tryd.func25, Tryd.ntmps25
  go_wp2
  go_ret
  exact ⟨rfl, below_al _ _⟩
set_option maxRecDepth 100000 in
set_option maxHeartbeats 3200000 in
theorem rgreat_short (k f t : Int) (s : ByteArray) (B : Option Addr) (cP : Nat) (P : List PairT) (w : World) (hP : Prs w B P) (hs : s.size ≤ 1200) (hn : P.length ≤ 300) (hf : Fit2 P) : Calls Tryd.prog 25 #[.agg #[.int .i64 k, .int .i64 f, .int .i64 t, .string s, .slice B P.length cP]] w fun e w' => e = .returned (.bool (rgreatB s P)) ∧ Below w.heap.size w w' := by
  have HI := Lib.hid hP
  have HF := Lib.hid hf
  have HSS := Lib.hid hs
  clear hP hf
  generalize hlen : P.length = len at *
  have HLEN := Lib.hid hlen
  have HX : Hid (RBox (w.alloc (.cells #[.int .i64 k, .int .i64 f, .int .i64 t, .string s, .slice B len cP] 48)) w.heap.size k f t s B len cP) := heap_alloc_new _ _
  have HBW := Lib.hid (below_al w (.cells #[.int .i64 k, .int .i64 f, .int .i64 t, .string s, .slice B len cP] 48))
  clear hlen
  go_enter Tryd.func25, Tryd.ntmps25
  go_wp2
  generalize w.alloc (.cells #[.int .i64 k, .int .i64 f, .int .i64 t, .string s, .slice B len cP] 48) = U at *
  have HPU := Lib.hid (HI.out.below HBW.out)
  obtain ⟨r0, r1, r2, r3, r4⟩ := obj_cells5 HX.out
  go_loop [3] (fun i => ∃ q : Nat, q ≤ len ∧ i = .int .i64 (q : Int) ∧ (∀ j, j < q → (duoAt P j).1.size ≤ 1200 ∧ (duoAt P j).2.size ≤ 1200)) (fun i => len - (intOf i).toNat)
  case atStart => exact ⟨0, Nat.zero_le _, rfl, fun j hj => by omega⟩
  case round =>
    obtain ⟨q, hq, rfl, hno⟩ := hrel
    have HNO := Lib.hid hno
    clear hno
    by_cases hlt : q < len
    · obtain ⟨a, x, y, rfl, hx, hc, hd⟩ := HPU.out.at_ (i := q) (by have := HLEN.out; omega)
      have hz := HF.out.at_ (k := q) (by have := HLEN.out; omega)
      rw [hx] at hz
      have hz1 : x.size ≤ maxLen := hz.1
      have hz2 : y.size ≤ maxLen := hz.2
      unfold maxLen at hz1 hz2
      have HXX := Lib.hid hx
      clear hx hz
      by_cases h1 : 1200 < x.size
      · have HF := Lib.hid (rgreat_hit (s := s) (P := P) (k := q) (by have := HLEN.out; omega) (by rw [HXX.out]; exact Or.inl h1))
        go_wp2
        go_ret
        exact ⟨by rw [HF.out] <;> rfl, HBW.out⟩
      · by_cases h2 : 1200 < y.size
        · have HF := Lib.hid (rgreat_hit (s := s) (P := P) (k := q) (by have := HLEN.out; omega) (by rw [HXX.out]; exact Or.inr h2))
          go_wp2
          go_ret
          exact ⟨by rw [HF.out] <;> rfl, HBW.out⟩
        · go_wp2
          go_round
          case rel =>
            refine ⟨q + 1, by omega, by go_num, fun j hj => ?_⟩
            rcases Nat.lt_or_ge j q with h | h
            · exact HNO.out j h
            · obtain rfl : j = q := by omega
              rw [HXX.out]; exact ⟨Nat.le_of_not_lt h1, Nat.le_of_not_lt h2⟩
          case measure => simp [intOf]; omega
    · have HF := Lib.hid (rgreat_miss (s := s) (P := P) HSS.out (by rw [HLEN.out]; exact hn) (fun j hj => HNO.out j (by have := HLEN.out; omega)))
      go_wp2
      go_ret
      exact ⟨by rw [HF.out] <;> rfl, HBW.out⟩
theorem rgreat_any (k f t : Int) (s : ByteArray) (B : Option Addr) (cP : Nat) (P : List PairT) (w : World) (hP : Prs w B P) (hs : s.size ≤ maxLen) (hm : P.length ≤ maxLen) (hf : Fit2 P) : Calls Tryd.prog 25 #[.agg #[.int .i64 k, .int .i64 f, .int .i64 t, .string s, .slice B P.length cP]] w fun e w' => e = .returned (.bool (rgreatB s P)) ∧ Below w.heap.size w w' := by
  by_cases h1 : 1200 < s.size
  · rw [rgreat_text h1]; exact rgreat_long k f t s B _ cP w hs h1
  · by_cases h2 : 300 < P.length
    · rw [rgreat_far h2]; exact rgreat_many k f t s B _ cP w (by omega) hm h2
    · exact rgreat_short k f t s B cP P w hP (by omega) (by omega) hf

end Go.Proofs.YthheflgfbdcnlaaDoor
