/-
  Strings of a few bytes: made out of literals, a byte at a place, two of them held against each other: small facts that the walks share.
-/
import Derived.Test.YtildjjcepafhmaaByt
import Derived.IntWalk
import Derived.Laws.BitsLemmas
namespace Go.Proofs.Ytildjjcepafhmaa
open Go.RowKit

theorem ofNat_val {n : Nat} (h : n < 256) : (UInt8.ofNat n).toNat = n := by rw [UInt8.toNat_ofNat']; omega

/-- 'string([]byte{a})' and 'string([]byte{a, b})' in the world that the literal leaves. -/
theorem conv_one (a : Nat) (ha : a < 256) (w : World) :
    (convert 37 9 (.slice (some ⟨w.heap.size, 0, none⟩) 1 1)).run Try.prog (w.alloc (.cells #[.int .u8 (a : Int)] 5)) = .ok (.string ⟨#[UInt8.ofNat a]⟩) (w.alloc (.cells #[.int .u8 (a : Int)] 5)) := by
  have h := run_convert_bytes_back (P := Try.prog) (w.alloc (.cells #[.int .u8 (a : Int)] 5)) 37 9 5 ⟨w.heap.size, 0, none⟩ 1 [UInt8.ofNat a] Try.underlying37 Try.underlying5 Try.underlying9 (by
    intro j hj
    have hj0 : j = 0 := by simpa using hj
    subst hj0
    have e : ((UInt8.ofNat a).toNat : Int) = (a : Int) := by rw [UInt8.toNat_ofNat']; omega
    simp [Addr.add]
    omega)
  exact h
theorem conv_two (a b : Nat) (ha : a < 256) (hb : b < 256) (w : World) :
    (convert 37 9 (.slice (some ⟨w.heap.size, 0, none⟩) 2 2)).run Try.prog (w.alloc (.cells #[.int .u8 (a : Int), .int .u8 (b : Int)] 5)) = .ok (.string ⟨#[UInt8.ofNat a, UInt8.ofNat b]⟩) (w.alloc (.cells #[.int .u8 (a : Int), .int .u8 (b : Int)] 5)) := by
  have h := run_convert_bytes_back (P := Try.prog) (w.alloc (.cells #[.int .u8 (a : Int), .int .u8 (b : Int)] 5)) 37 9 5 ⟨w.heap.size, 0, none⟩ 2 [UInt8.ofNat a, UInt8.ofNat b] Try.underlying37 Try.underlying5 Try.underlying9 (by
    intro j hj
    have hj0 : j = 0 ∨ j = 1 := by have : j < 2 := hj; omega
    have e1 : ((UInt8.ofNat a).toNat : Int) = (a : Int) := by rw [UInt8.toNat_ofNat']; omega
    have e2 : ((UInt8.ofNat b).toNat : Int) = (b : Int) := by rw [UInt8.toNat_ofNat']; omega
    rcases hj0 with rfl | rfl
    · simp [Addr.add]
      omega
    · simp [Addr.add]
      omega)
  exact h
theorem conv_three (a b c : Nat) (ha : a < 256) (hb : b < 256) (hc : c < 256) (w : World) :
    (convert 37 9 (.slice (some ⟨w.heap.size, 0, none⟩) 3 3)).run Try.prog (w.alloc (.cells #[.int .u8 (a : Int), .int .u8 (b : Int), .int .u8 (c : Int)] 5)) = .ok (.string ⟨#[UInt8.ofNat a, UInt8.ofNat b, UInt8.ofNat c]⟩) (w.alloc (.cells #[.int .u8 (a : Int), .int .u8 (b : Int), .int .u8 (c : Int)] 5)) := by
  have h := run_convert_bytes_back (P := Try.prog) (w.alloc (.cells #[.int .u8 (a : Int), .int .u8 (b : Int), .int .u8 (c : Int)] 5)) 37 9 5 ⟨w.heap.size, 0, none⟩ 3 [UInt8.ofNat a, UInt8.ofNat b, UInt8.ofNat c] Try.underlying37 Try.underlying5 Try.underlying9 (by
    intro j hj
    have hj0 : j = 0 ∨ j = 1 ∨ j = 2 := by have : j < 3 := hj; omega
    rcases hj0 with rfl | rfl | rfl
    · simp [Addr.add]
      omega
    · simp [Addr.add]
      omega
    · simp [Addr.add]
      omega)
  exact h

theorem tag_wraps (n : Int) (h0 : 0 ≤ n) (h1 : n < 2 ^ 62) : IntKind.i64.wrap n = n := by rw [IntKind.wrap_i64]; omega
theorem tag_join (p q : Nat) (hp : p < 256) (hq : q < 256) : bits .or .i64 ((p : Int) * 256) (q : Int) = ((256 * p + q : Nat) : Int) := by
  rw [bits_join .i64 62 (by decide) tag_wraps 8 (x := (p : Int) * 256) (y := (q : Int)) (by omega) (by omega) (by omega) (by omega) (by omega) (by omega)]
  omega

/-- The byte a stands at the place p. -/
def At (s : ByteArray) (p : Int) (a : Nat) : Prop := ∀ w, (Instr.index 9 (.string s) (.int .i64 p)).run Try.prog w = .ok (.int .u8 (a : Int)) w

theorem at_str (s : ByteArray) (p : Nat) (h : p < s.size) : At s (p : Int) s[p].toNat := ix_str s p h
theorem list_at (s : ByteArray) (p : Nat) (h : p < s.size) : s.data.toList[p]? = some s[p] := by
  rw [Array.getElem?_toList]
  exact Array.getElem?_eq_getElem h

theorem str_told {x y : ByteArray} {a b : Int} (h : x = y ↔ a = b) : (x.toList == y.toList) = (a == b) := by
  rw [Bool.eq_iff_iff, beq_iff_eq, beq_iff_eq, ← h]
  constructor
  · intro g
    rw [ByteArray.toList_eq, ByteArray.toList_eq] at g
    rw [ByteArray.ext_iff]
    exact Array.toList_inj.1 g
  · rintro rfl; rfl

/-- A piece of a text, as a list. -/
theorem piece_list (s : ByteArray) (p z : Nat) : (s.extract p (p + z)).data.toList = (s.data.toList.drop p).take z := by
  rw [ByteArray.data_extract, Array.toList_extract]
  simp [List.extract]
theorem whole_piece (z : ByteArray) : z.extract 0 z.size = z := by rw [ByteArray.ext_iff]; apply Array.toList_inj.1; simp
theorem first_piece (l : List UInt8) (k : Nat) : (⟨l.toArray⟩ : ByteArray).extract 0 k = ⟨(l.take k).toArray⟩ := by
  rw [ByteArray.ext_iff]
  apply Array.toList_inj.1
  simp
theorem mk_size (l : List UInt8) : (⟨l.toArray⟩ : ByteArray).size = l.length := by show l.toArray.size = _; rw [List.size_toArray]
theorem mk_list (l : List UInt8) : (⟨l.toArray⟩ : ByteArray).data.toList = l := by simp

end Go.Proofs.Ytildjjcepafhmaa
