/-
  What the document's Copy of a map answers: for every map of up to 5000 rules, each of up to 5,000,000 pairs, in every world.
-/
import Derived.Test.YtbhlennolghjmaaGreatDoorXltOf
import Derived.Test.YtbhlennolghjmaaGreatDoorXltRow
import Derived.Test.YtbhlennolghjmaaGreatDoorPackRul
import Derived.Test.YtbhlennolghjmaaGreatDoorPackCod
import Derived.Test.YtbhlennolghjmaaGreatDoorPackMsg
import Derived.Test.YtbhlennolghjmaaGreatDoorPackBase
namespace Go.Proofs.YtbhlennolghjmaaGreatDoor
open Go.RowKit

/-- Of the elder blocks none but g has changed: a slice of rules, a row of pairs, elsewhere stay. -/
theorem KeepX.prs {U u : World} {g : Nat} {A : Option Addr} {l : List PairT} (h : KeepX U g u) (hp : Prs U A l) (hg : ∀ a, A = some a → l ≠ [] → a.block ≠ g) : Prs u A l :=
  prs_same hp fun a ha hl => h.2 _ (by
    obtain ⟨a', ha', h0, _⟩ := hp 0 (List.length_pos_iff.2 hl)
    rw [ha] at ha'; injection ha' with e; subst e
    have := block_lt_of_cell h0
    rwa [add_block] at this) (hg a ha hl)
/-- What the loop keeps: the rules so far in a row of the call's own, their pairs behind U and not in the row. -/
def RWants (w U : World) (g : Nat) (X : Option Addr) (n c : Nat) (L : List RuB) (u : World) : Prop :=
  ∃ (Y : Option Addr) (cp : Nat), MpBox u g X n c Y L.length cp ∧ u.ownsRow U.heap.size 46 5 (.slice Y L.length cp) L.length (rubsC L) ∧
    (∀ x ∈ L, PrsX u U.heap.size (Value.ownBlock (.slice Y L.length cp)) x.2.1 x.1.2.2.2.2) ∧ KeepX U g u ∧ Below w.heap.size w u
theorem rwants_new {w U : World} {g : Nat} {X : Option Addr} {n c : Nat} (hg : MpBox U g X n c none 0 0) (hb : Below w.heap.size w U) : RWants w U g X n c [] U :=
  ⟨none, 0, hg, World.ownsRow_nil _ _ _ _, fun x hx => by simp at hx, ⟨Nat.le_refl _, fun _ _ _ => rfl⟩, hb⟩
/-- One more: appended (u1 out of u by a call that made its pairs, then a new block, then append), and stored into the wanted map. -/
theorem rwants_put {w U : World} {g : Nat} {X : Option Addr} {n c : Nat} {L : List RuB} {x : RuB} {g' cap' M : Nat} {u : World} {Y : Option Addr} {cp : Nat} (hg : g < U.heap.size) (hw : w.heap.size ≤ g) (hM : L.length = M) (hx : MpBox u g X n c Y M cp)
    (ho : u.ownsRow U.heap.size 46 5 (.slice (some ⟨g', 0, none⟩) (M + 1) cap') (M + 1) (rubsC L ++ rubC x)) (hp : ∀ y ∈ L ++ [x], PrsX u U.heap.size (some g') y.2.1 y.1.2.2.2.2) (hk : KeepX U g u) (hb : Below w.heap.size w u) :
    RWants w U g X n c (L ++ [x]) (u.setCell ⟨g, 1, none⟩ (.slice (some ⟨g', 0, none⟩) (M + 1) cap')) := by
  refine ⟨some ⟨g', 0, none⟩, cap', ?_, ?_, ?_, hk.set _ _, hb.setCell (p := ⟨g, 1, none⟩) hw _⟩
  · rw [List.length_append, hM]; exact heap_setCell_same _ g 1 _ _ _ hx
  · rw [rubsC_snoc, List.length_append, hM]; exact sowns_set1 ho hg _ _
  · intro y hy
    rw [List.length_append, hM]
    exact (hp y hy).set hg 1 _

theorem own_cap {w : World} {base e size n cap : Nat} {A : Option Addr} {xs : List Value} (h : w.ownsRow base e size (.slice A n cap) n xs) : n ≤ cap := by
  rcases h.2 with ⟨_, h0⟩ | ⟨g, cap', cur, hv, _, _, hc, _⟩
  · omega
  · injection hv with h1 h2 h3
    subst h3
    exact hc

end Go.Proofs.YtbhlennolghjmaaGreatDoor
