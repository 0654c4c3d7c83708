/-
  What the laws of maps and messages share: what their first blocks hold; contracts told by what the answer is.
-/
import Derived.Test.YtbhlennolghjmaaDoorXltLq
import Derived.Test.YtbhlennolghjmaaDoorXltTra
import Derived.Test.YtbhlennolghjmaaDoorPackMsg
import Derived.Test.YtbhlennolghjmaaDoorPackRul
namespace Go.Proofs.YtbhlennolghjmaaDoor
open Go.RowKit

/-- A map, an array of two schemas, and a message. -/
def LM (w : World) (X : Option Addr) (n c : Nat) (Y : Option Addr) (n' c' : Nat) (st v : Int) (A : Option Addr) (la ca : Nat) (st' v' : Int) (A' : Option Addr) (lb cb : Nat) (m : ByteArray) (B : Option Addr) (lx cx : Nat) (u : World) : Prop :=
  LQ w X n c Y n' c' st v A la ca st' v' A' lb cb u ∧ MBox u (w.heap.size + 2) m B lx cx
theorem LM.below {w : World} {X : Option Addr} {n c : Nat} {Y : Option Addr} {n' c' : Nat} {st v : Int} {A : Option Addr} {la ca : Nat} {st' v' : Int} {A' : Option Addr} {lb cb : Nat} {m : ByteArray} {B : Option Addr} {lx cx : Nat} {u u' : World} (h : LM w X n c Y n' c' st v A la ca st' v' A' lb cb m B lx cx u) (hb : Below u.heap.size u u') : LM w X n c Y n' c' st v A la ca st' v' A' lb cb m B lx cx u' :=
  ⟨h.1.below hb, h.2.below hb⟩
theorem lm_new (w : World) (X : Option Addr) (n c : Nat) (Y : Option Addr) (n' c' : Nat) (st v : Int) (A : Option Addr) (la ca : Nat) (st' v' : Int) (A' : Option Addr) (lb cb : Nat) (m : ByteArray) (B : Option Addr) (lx cx : Nat) :
    LM w X n c Y n' c' st v A la ca st' v' A' lb cb m B lx cx (((w.alloc (.cells #[.slice X n c, .slice Y n' c'] 25)).alloc (.cells #[.int .i64 st, .int .i64 v, .slice A la ca, .int .i64 st', .int .i64 v', .slice A' lb cb] 29)).alloc (.cells #[.string m, .slice B lx cx] 41)) :=
  ⟨(lq_new w X n c Y n' c' st v A la ca st' v' A' lb cb).below (below_al _ _), heap_al _ _ _ (by simp)⟩
theorem xsort_length {st v : Int} {b : List Sp} {m : ByteArray} {V : List Item} (h : msgN st v b m V = (0, 0)) : V.length ≤ 128 := by
  obtain ⟨hb, _, hl⟩ := valid_in h
  have key : ∀ (l : List Item) (a : Nat), Fits b (a : Int) l → a ≤ 128 → l.length + a ≤ 128 := by
    intro l
    induction l with
    | nil => intro a _ ha; simpa using ha
    | cons x r ih =>
      intro a hf ha
      have hr := okV_range hb hf.2.1
      have h1 := hf.1
      have h2 := ih x.1.toNat (by have := hf.2.2; rwa [show ((x.1.toNat : Nat) : Int) = x.1 by omega]) (by omega)
      rw [List.length_cons]
      omega
  have := key V 0 hl (by omega)
  omega

theorem decto_some {R : ByteArray × List Item × (Int × Int)} {w w' : World} {e : Ending} (h : DecTo R w w' e) : ∃ v, e = .returned v ∧ ∃ A' c', v = .tuple #[.agg #[.string R.1, .slice A' R.2.1.length c'], .agg #[.int .i64 R.2.2.1, .int .i64 R.2.2.2]] ∧ Tlvs w' A' R.2.1 ∧ Below w.heap.size w w' := by
  obtain ⟨A', c', he, h⟩ := h
  exact ⟨_, he, A', c', rfl, h⟩
theorem msg_some {P : Program} {f : FuncId} {args : Array Value} {W : World} {m : ByteArray} {V : List Item} (h : Calls P f args W fun e w' => ∃ A' c', e = .returned (.agg #[.string m, .slice A' V.length c']) ∧ Tlvs w' A' V ∧ Below W.heap.size W w') : Calls P f args W fun e w' => ∃ v, e = .returned v ∧ ∃ A' c', v = .agg #[.string m, .slice A' V.length c'] ∧ Tlvs w' A' V ∧ Below W.heap.size W w' :=
  h.mono fun _ _ ⟨A', c', he, k⟩ => ⟨_, he, A', c', rfl, k⟩

theorem out_none (xs : List Item) (h : ∀ y ∈ xs, y.2.size ≤ maxLen) : ∀ y ∈ xsort xs, y.2.size ≤ maxLen := fun y hy => h y (mem_sort.1 hy).1
/-- How long the texts are that a message becomes. -/
theorem xmade_sizes {b : List Sp} {R : List Ru} {l : List Item} (hf : Fit4 R) (hs : ∀ x ∈ l, x.2.size ≤ maxLen) : ∀ y ∈ xsort (xmade b R l ++ xcon R), y.2.size ≤ maxLen := by
  refine out_none _ fun y hy => ?_
  rcases List.mem_append.1 hy with hy | hy
  · simp only [xmade, List.mem_map] at hy
    obtain ⟨x, hx, rfl⟩ := hy
    show (xone b R x).2.1.size ≤ maxLen
    unfold xone
    cases hi : ruI x.1 R
    · exact Nat.zero_le _
    · rename_i i
      have h := hf.at_ (ruI_some hi).1
      exact rap_size h.2.2 h.1 (hs x hx)
  · simp only [xcon, List.mem_map, List.mem_filter] at hy
    obtain ⟨r, ⟨hr, _⟩, rfl⟩ := hy
    exact (hf r hr).1

end Go.Proofs.YtbhlennolghjmaaDoor
