/-
  What the document's Without and With answer: for every message of up to 1000 fields, in every world.
-/
import Derived.Test.YtlkpiapmdflahaaDoorMsgOf
import Derived.Test.YtlkpiapmdflahaaDoorPackBase
import Derived.Deep.DeepCutAuto
namespace Go.Proofs.YtlkpiapmdflahaaDoor
open Go.RowKit

/-- Of the elder blocks none but g has changed. -/
def KeepX (U : World) (g : Nat) (u : World) : Prop := U.heap.size ≤ u.heap.size ∧ ∀ b, b < U.heap.size → b ≠ g → u.heap[b]? = U.heap[b]?
theorem KeepX.step {U u u' : World} {g : Nat} (h : KeepX U g u) (hb : Below U.heap.size u u') : KeepX U g u' := ⟨Nat.le_trans h.1 hb.size, fun b h1 h2 => (hb.block b h1).trans (h.2 b h1 h2)⟩
theorem KeepX.obj {U u : World} {g b : Nat} {O : Obj} (h : KeepX U g u) (ho : U.heap[b]? = some O) (hne : b ≠ g) : u.heap[b]? = some O := (h.2 b (obj_lt ho) hne).trans ho
theorem KeepX.set {U u : World} {g : Nat} (h : KeepX U g u) (i : Nat) (x : Value) : KeepX U g (u.setCell ⟨g, i, none⟩ x) :=
  ⟨Nat.le_trans h.1 (by simp), fun b h1 h2 => (heap_setCell_other _ _ _ _ h2).trans (h.2 b h1 h2)⟩
theorem KeepX.vals {U u : World} {g : Nat} {A : Option Addr} {l : List Item} {m : ByteArray} {X : Option Addr} {n c : Nat} {t : TypeId} (h : KeepX U g u) (ht : Tlvs U A l) (hg : U.heap[g]? = some (.cells #[.string m, .slice X n c] t)) : Tlvs u A l := by
  intro i hi
  have hap := vals_apart ht (by omega) hg
  obtain ⟨a, ha, h0, h1⟩ := ht i hi
  have hab : (a.add (i * 2)).block = a.block := by unfold Addr.add; split <;> rfl
  have hlt : a.block < U.heap.size := by rw [← hab]; exact block_lt_of_cell h0
  have hc : ∀ q : Addr, q.block = a.block → u.cell? q = U.cell? q := fun q hq => World.cell?_of_block (by rw [hq]; exact h.2 _ hlt (hap a ha))
  exact ⟨a, ha, (hc _ hab).trans h0, (hc ⟨_, (a.add (i * 2)).off + 1, none⟩ hab).trans h1⟩
/-- What the loops keep: the list so far, in the wanted message's block and a row of the call's own. -/
def MWants (w U : World) (g : Nat) (m : ByteArray) (ks : List Item) (u : World) : Prop :=
  ∃ (Y : Option Addr) (cp : Nat), MBox u g m Y ks.length cp ∧ u.ownsRow U.heap.size 42 2 (.slice Y ks.length cp) ks.length (itemsC ks) ∧ KeepX U g u ∧ Below w.heap.size w u
theorem mwants_new {w U : World} {g : Nat} {m : ByteArray} (hg : MBox U g m none 0 0) (hb : Below w.heap.size w U) : MWants w U g m [] U :=
  ⟨none, 0, hg, World.ownsRow_nil _ _ _ _, ⟨Nat.le_refl _, fun _ _ _ => rfl⟩, hb⟩
theorem mwants_put {w U : World} {g : Nat} {m : ByteArray} {ks : List Item} {n : Int} {s : ByteArray} {g' cap' M : Nat} {u : World} {Y : Option Addr} {cp : Nat} (hg : g < U.heap.size) (hw : w.heap.size ≤ g) (hM : ks.length = M) (hx : MBox u g m Y M cp)
    (ho : u.ownsRow U.heap.size 42 2 (.slice (some ⟨g', 0, none⟩) (M + 1) cap') (M + 1) (itemsC ks ++ itemC (n, s))) (hk : KeepX U g u) (hb : Below w.heap.size w u) :
    MWants w U g m (ks ++ [(n, s)]) (u.setCell ⟨g, 1, none⟩ (.slice (some ⟨g', 0, none⟩) (M + 1) cap')) := by
  refine ⟨some ⟨g', 0, none⟩, cap', ?_, ?_, hk.set _ _, hb.setCell (p := ⟨g, 1, none⟩) hw _⟩
  · rw [List.length_append, hM]; exact heap_setCell_same _ g 1 _ _ _ hx
  · rw [itemsC_snoc, List.length_append, hM]; exact owns_set1 ho hg _ _



end Go.Proofs.YtlkpiapmdflahaaDoor
