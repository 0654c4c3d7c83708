/-
  Strings of a few bytes: made out of literals, a byte at a place, two of them held against each other: small facts that the walks share.
-/
import Derived.Test.YtmobillfeldcjaaDoorByt
import Derived.IntWalk
import Derived.Laws.BitsLemmas
namespace Go.Proofs.YtmobillfeldcjaaDoor
open Go.RowKit

theorem ofNat_val {n : Nat} (h : n < 256) : (UInt8.ofNat n).toNat = n := by rw [UInt8.toNat_ofNat']; omega


theorem tag_wraps (n : Int) (h0 : 0 ≤ n) (h1 : n < 2 ^ 62) : IntKind.i64.wrap n = n := by rw [IntKind.wrap_i64]; omega
theorem tag_join (p q : Nat) (hp : p < 256) (hq : q < 256) : bits .or .i64 ((p : Int) * 256) (q : Int) = ((256 * p + q : Nat) : Int) := by
  rw [bits_join .i64 62 (by decide) tag_wraps 8 (x := (p : Int) * 256) (y := (q : Int)) (by omega) (by omega) (by omega) (by omega) (by omega) (by omega)]
  omega

/-- The byte a stands at the place p. -/
def At (s : ByteArray) (p : Int) (a : Nat) : Prop := ∀ w, (Instr.index 9 (.string s) (.int .i64 p)).run Tryd.prog w = .ok (.int .u8 (a : Int)) w

theorem at_str (s : ByteArray) (p : Nat) (h : p < s.size) : At s (p : Int) s[p].toNat := ix_str s p h
theorem list_at (s : ByteArray) (p : Nat) (h : p < s.size) : s.data.toList[p]? = some s[p] := by
  rw [Array.getElem?_toList]
  exact Array.getElem?_eq_getElem h

theorem str_told {x y : ByteArray} {a b : Int} (h : x = y ↔ a = b) : (x.toList == y.toList) = (a == b) := by
  rw [Bool.eq_iff_iff, beq_iff_eq, beq_iff_eq, ← h]
  constructor
  · intro g
    rw [ByteArray.toList_eq, ByteArray.toList_eq] at g
    rw [ByteArray.ext_iff]
    exact Array.toList_inj.1 g
  · rintro rfl; rfl

/-- A piece of a text, as a list. -/
theorem piece_list (s : ByteArray) (p z : Nat) : (s.extract p (p + z)).data.toList = (s.data.toList.drop p).take z := by
  rw [ByteArray.data_extract, Array.toList_extract]
  simp [List.extract]
theorem whole_piece (z : ByteArray) : z.extract 0 z.size = z := by rw [ByteArray.ext_iff]; apply Array.toList_inj.1; simp
theorem first_piece (l : List UInt8) (k : Nat) : (⟨l.toArray⟩ : ByteArray).extract 0 k = ⟨(l.take k).toArray⟩ := by
  rw [ByteArray.ext_iff]
  apply Array.toList_inj.1
  simp
theorem mk_size (l : List UInt8) : (⟨l.toArray⟩ : ByteArray).size = l.length := by show l.toArray.size = _; rw [List.size_toArray]
theorem mk_list (l : List UInt8) : (⟨l.toArray⟩ : ByteArray).data.toList = l := by simp

end Go.Proofs.YtmobillfeldcjaaDoor
