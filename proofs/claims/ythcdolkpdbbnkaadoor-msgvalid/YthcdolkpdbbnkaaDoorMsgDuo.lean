/-
  A schema and a message in the first two blocks that a law makes.
-/
import Derived.Test.YthcdolkpdbbnkaaDoorMsgAwk
import Derived.Test.YthcdolkpdbbnkaaDoorMsgRefChk
import Derived.Test.YthcdolkpdbbnkaaDoorPackSch
namespace Go.Proofs.YthcdolkpdbbnkaaDoor
open Go.RowKit

def Duo (w : World) (st v : Int) (A : Option Addr) (len cap : Nat) (m : ByteArray) (B : Option Addr) (n c : Nat) (u : World) : Prop :=
  Below w.heap.size w u ∧ Box u w.heap.size st v A len cap ∧ MBox u (w.heap.size + 1) m B n c
theorem Duo.below {w : World} {st v : Int} {A : Option Addr} {len cap : Nat} {m : ByteArray} {B : Option Addr} {n c : Nat} {u u' : World} (h : Duo w st v A len cap m B n c u) (hb : Below u.heap.size u u') : Duo w st v A len cap m B n c u' :=
  ⟨hbt h.1 hb, h.2.1.below hb, h.2.2.below hb⟩
theorem duo_new (w : World) (st v : Int) (A : Option Addr) (len cap : Nat) (m : ByteArray) (B : Option Addr) (n c : Nat) : Duo w st v A len cap m B n c ((w.alloc (.cells #[.int .i64 st, .int .i64 v, .slice A len cap] 24)).alloc (.cells #[.string m, .slice B n c] 27)) :=
  ⟨hbt (below_al _ _) (below_al _ _), (box_new _ _ _ _ _ _).below (below_al _ _), heap_al _ _ _ (by simp)⟩

end Go.Proofs.YthcdolkpdbbnkaaDoor
