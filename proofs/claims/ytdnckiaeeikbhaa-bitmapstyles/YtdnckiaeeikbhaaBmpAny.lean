/-
  What bitmap.Get and the document's Get answer, in one: for both styles, every text and every place in it, in every world.
-/
import Derived.Test.YtdnckiaeeikbhaaBmpGets
import Derived.Test.YtdnckiaeeikbhaaBmpRefGets
namespace Go.Proofs.Ytdnckiaeeikbhaa
open Go.RowKit

/-- The bytes at a place; what is wrong with them; the set, the place behind and the error. -/
def txt (st : Nat) (s : ByteArray) (p : Nat) : List UInt8 := (s.extract p (p + wid st)).data.toList
def rdE (st : Nat) (s : ByteArray) (p : Nat) : Nat := if s.size < p + wid st then 2 else if rdB st (txt st s p) = true then 0 else 3
def rdN (st : Nat) (s : ByteArray) (p : Nat) : Nat := numL (rdL st (txt st s p))
structure Got where
  high : Nat
  low : Nat
  next : Nat
  err : Nat
def getN (st : Nat) (s : ByteArray) (p : Nat) : Got :=
  if rdE st s p ≠ 0 then ⟨0, 0, 0, rdE st s p⟩
  else if hasN (rdN st s p) 0 1 = false then ⟨rdN st s p, 0, p + wid st, 0⟩
  else if rdE st s (p + wid st) ≠ 0 then ⟨0, 0, 0, rdE st s (p + wid st)⟩
  else if rdN st s (p + wid st) = 0 then ⟨0, 0, 0, 8⟩
  else ⟨rdN st s p &&& (fullN - aH 1), rdN st s (p + wid st) &&& (fullN - aL 1), p + 2 * wid st, 0⟩

theorem txt_len {st : Nat} {s : ByteArray} {p : Nat} (h : p + wid st ≤ s.size) : (txt st s p).length = wid st := by
  unfold txt
  rw [Array.length_toList]
  show (s.extract p (p + wid st)).size = wid st
  simp
  omega
theorem rdE_zero {st : Nat} {s : ByteArray} {p : Nat} (h : rdE st s p = 0) : p + wid st ≤ s.size ∧ rdB st (txt st s p) = true := by
  unfold rdE at h
  split at h
  · cases h
  · split at h
    · exact ⟨by omega, by assumption⟩
    · cases h
theorem rd_len {st : Nat} {s : ByteArray} {p : Nat} (h : rdE st s p = 0) : (rdL st (txt st s p)).length = 8 := rdL_len st (txt_len (rdE_zero h).1)
theorem rdN_lt {st : Nat} {s : ByteArray} {p : Nat} (h : rdE st s p = 0) : rdN st s p < M64 := numL_lt (rd_len h)

theorem reads_err {st : Nat} {s : ByteArray} {p : Nat} (hst : st = 1 ∨ st = 2) (hs : s.size ≤ 1000000) (hp : p ≤ s.size) (h : rdE st s p ≠ 0) : ReadsTo st s p zeroV 0 (rdE st s p) := by
  intro W
  by_cases hc : s.size < p + wid st
  · rw [show rdE st s p = 2 by unfold rdE; rw [if_pos hc]]
    exact read_cut st s p W hs hp hc
  · cases hb : rdB st (txt st s p)
    · rw [show rdE st s p = 3 by unfold rdE; rw [if_neg hc, hb]; rfl]
      exact read_no st s p W hst hs (by omega) hb
    · exact absurd (by unfold rdE; rw [if_neg hc, hb]; rfl) h
theorem reads_ok {st : Nat} {s : ByteArray} {p : Nat} (hst : st = 1 ∨ st = 2) (hs : s.size ≤ 1000000) (h : rdE st s p = 0) : ReadsTo st s p (halfV (rdL st (txt st s p))) (p + wid st) 0 := by
  intro W
  exact read_ok st s p W hst hs (rdE_zero h).1 (rdE_zero h).2
theorem num_zero8 (a b c d e f g i : UInt8) : numL [a, b, c, d, e, f, g, i] = 0 ↔ (a.toNat = 0 ∧ b.toNat = 0 ∧ c.toNat = 0 ∧ d.toNat = 0 ∧ e.toNat = 0 ∧ f.toNat = 0 ∧ g.toNat = 0 ∧ i.toNat = 0) := by
  simp only [numL, List.foldl]
  omega

theorem get_any (st : Nat) (s : ByteArray) (p : Nat) (w : World) (hst : st = 1 ∨ st = 2) (hs : s.size ≤ 1000000) (hp : p ≤ s.size) :
    Calls Try.prog 13 #[.int .i64 (st : Int), .string s, .int .i64 (p : Int)] w fun e w' => e = .returned (.tuple #[setV (getN st s p).high (getN st s p).low, .int .i64 ((getN st s p).next : Int), .int .i64 ((getN st s p).err : Int)]) ∧ Below w.heap.size w w' := by
  unfold getN
  by_cases h1 : rdE st s p = 0
  · rw [if_neg (by omega)]
    have r1 := reads_ok hst hs h1
    have n1 := fun W => number_any (rdL st (txt st s p)) W (rd_len h1)
    have b1 := rdN_lt h1
    obtain ⟨a0, a1, a2, a3, a4, a5, a6, a7, hl⟩ := eight (rd_len h1)
    rw [show numL (rdL st (txt st s p)) = rdN st s p from rfl] at n1
    rw [hl] at r1 n1
    cases h2 : hasN (rdN st s p) 0 1
    · rw [if_pos rfl]
      exact get_short st s p (p + wid st) (rdN st s p) _ _ _ _ _ _ _ _ w hst hp r1 n1 b1 h2
    · rw [if_neg (by simp)]
      by_cases h3 : rdE st s (p + wid st) = 0
      · rw [if_neg (by omega)]
        have r2 := reads_ok hst hs h3
        by_cases h4 : rdN st s (p + wid st) = 0
        · rw [if_pos h4]
          have hz : rdL st (txt st s (p + wid st)) = halfL 0 := by
            rw [← halfL_numL (rd_len h3)]
            exact congrArg halfL h4
          rw [hz, ← zeroV_half] at r2
          exact get_zero st s p (p + wid st) (rdN st s p) (p + wid st + wid st) _ _ _ _ _ _ _ _ w hst hp r1 n1 b1 h2 r2
        · rw [if_neg h4]
          have n2 := fun W => number_any (rdL st (txt st s (p + wid st))) W (rd_len h3)
          have b2 := rdN_lt h3
          obtain ⟨c0, c1, c2, c3, c4, c5, c6, c7, hm⟩ := eight (rd_len h3)
          rw [show numL (rdL st (txt st s (p + wid st))) = rdN st s (p + wid st) from rfl] at n2
          have hz : ¬ numL [c0, c1, c2, c3, c4, c5, c6, c7] = 0 := by
            rw [← hm]
            exact h4
          rw [num_zero8] at hz
          rw [hm] at r2 n2
          have := get_long st s p (p + wid st) (rdN st s p) (p + wid st + wid st) (rdN st s (p + wid st)) _ _ _ _ _ _ _ _ w hst hp r1 n1 b1 h2 _ _ _ _ _ _ _ _ r2 hz n2 b2
          rw [show p + wid st + wid st = p + 2 * wid st by omega] at this
          exact this
      · rw [if_pos h3]
        exact get_err2 st s p (p + wid st) (rdN st s p) _ _ _ _ _ _ _ _ _ w hst hp r1 n1 b1 h2 (reads_err hst hs (rdE_zero h1).1 h3) h3
  · rw [if_pos h1]
    exact get_err1 st s p _ w hst hp (reads_err hst hs hp h1) h1

theorem parts_err {st : Nat} {s : ByteArray} {p : Nat} (f : Nat) (hst : st = 1 ∨ st = 2) (hs : s.size ≤ 1000000) (hp : p ≤ s.size) (h : rdE st s p ≠ 0) : PartE st s p f (rdE st s p) := by
  intro W
  by_cases hc : s.size < p + wid st
  · rw [show rdE st s p = 2 by unfold rdE; rw [if_pos hc]]
    exact part_cut st s p f W hst hs hp hc
  · cases hb : rdB st (txt st s p)
    · rw [show rdE st s p = 3 by unfold rdE; rw [if_neg hc, hb]; rfl]
      exact part_no st s p f W hst hs (by omega) hb
    · exact absurd (by unfold rdE; rw [if_neg hc, hb]; rfl) h
theorem parts_ok {st : Nat} {s : ByteArray} {p : Nat} (f : Nat) (hf : f ≤ 1000) (hst : st = 1 ∨ st = 2) (hs : s.size ≤ 1000000) (h : rdE st s p = 0) : PartL st s p f (partL (rdL st (txt st s p)) f 64) := by
  intro W
  exact part_ok st s p f W hst hs (rdE_zero h).1 hf (rdE_zero h).2
theorem bit_first {l : List UInt8} (h : l.length = 8) : bitL l 0 = hasN (numL l) 0 1 := (has_num1 h 0 1 (by omega) (by omega)).symm

/-- A list that is the set that Get tells. -/
def Lists (G : Got) (w w' : World) (e : Ending) : Prop :=
  ∃ A cap zs, e = .returned (.tuple #[.slice A zs.length cap, .int .i64 (G.next : Int), .int .i64 (G.err : Int)]) ∧ Ints w' A zs ∧ zs.length ≤ 200 ∧ (ofH zs = G.high ∧ ofL zs = G.low) ∧ Below w.heap.size w w'
theorem refGet_any (st : Nat) (s : ByteArray) (p : Nat) (w : World) (hst : st = 1 ∨ st = 2) (hs : s.size ≤ 1000000) (hp : p ≤ s.size) :
    Calls Try.prog 14 #[.int .i64 (st : Int), .string s, .int .i64 (p : Int)] w fun e w' => Lists (getN st s p) w w' e := by
  unfold getN
  have none_ : ∀ n : Nat, Calls Try.prog 14 #[.int .i64 (st : Int), .string s, .int .i64 (p : Int)] w (fun e w' => e = .returned (.tuple #[.slice none 0 0, .int .i64 0, .int .i64 (n : Int)]) ∧ Below w.heap.size w w') →
      Calls Try.prog 14 #[.int .i64 (st : Int), .string s, .int .i64 (p : Int)] w fun e w' => Lists ⟨0, 0, 0, n⟩ w w' e := fun n h =>
    h.mono fun e w' he => ⟨none, 0, [], he.1, ints_nil _ _, by simp, ⟨rfl, rfl⟩, he.2⟩
  by_cases h1 : rdE st s p = 0
  · rw [if_neg (by omega)]
    have hl := rd_len h1
    have r1 := parts_ok 1 (by omega) hst hs h1
    have ho := of_part hl
    rw [partL_cons, bit_first hl] at r1
    rw [show numL (rdL st (txt st s p)) = rdN st s p from rfl] at r1 ho
    have hrl := restL_len (rdL st (txt st s p)) 1
    cases h2 : hasN (rdN st s p) 0 1
    · rw [if_pos rfl]
      rw [h2, if_neg (by simp), List.nil_append] at r1
      have hlist : partL (rdL st (txt st s p)) 1 64 = restL (rdL st (txt st s p)) 1 := by
        rw [partL_cons, bit_first hl, show numL (rdL st (txt st s p)) = rdN st s p from rfl, h2]
        simp
      rw [hlist] at ho
      have hge : ∀ z ∈ restL (rdL st (txt st s p)) 1, 2 ≤ z := fun z hz => by rw [restL_mem] at hz; omega
      have fin : ∀ e w', (∃ A cap, e = .returned (.tuple #[.slice A (restL (rdL st (txt st s p)) 1).length cap, .int .i64 ((p + wid st : Nat) : Int), .int .i64 0]) ∧ Ints w' A (zi (restL (rdL st (txt st s p)) 1)) ∧ Below w.heap.size w w') → Lists ⟨rdN st s p, 0, p + wid st, 0⟩ w w' e := by
        rintro e w' ⟨A, cap, he, hi, hb⟩
        exact ⟨A, cap, _, by rw [zi_length]; exact he, hi, by rw [zi_length]; omega, ho, hb⟩
      rcases hst with rfl | rfl
      · exact (refGet_short_1 s p _ w hs hp r1 hge (by omega)).mono fin
      · exact (refGet_short_2 s p _ w hs hp r1 hge (by omega)).mono fin
    · rw [if_neg (by simp)]
      rw [h2, if_pos rfl] at r1
      have r1' : PartL st s p 1 (1 :: restL (rdL st (txt st s p)) 1) := r1
      by_cases h3 : rdE st s (p + wid st) = 0
      · rw [if_neg (by omega)]
        have hm := rd_len h3
        have r2 := parts_ok 65 (by omega) hst hs h3
        by_cases h4 : rdN st s (p + wid st) = 0
        · rw [if_pos h4]
          rw [(part_nil hm 65).2 h4] at r2
          apply none_
          rcases hst with rfl | rfl
          · exact refGet_zero_1 s p _ w hs hp r1' hrl r2
          · exact refGet_zero_2 s p _ w hs hp r1' hrl r2
        · rw [if_neg h4]
          have hne : partL (rdL st (txt st s (p + wid st))) 65 64 ≠ [] := mt (part_nil hm 65).1 h4
          have hpl := partL_len (rdL st (txt st s (p + wid st))) 65 64
          have ho2 := of_rest hl hm
          have fin : ∀ e w', (∃ A cap, e = .returned (.tuple #[.slice A (restL (rdL st (txt st s p)) 1 ++ partL (rdL st (txt st s (p + wid st))) 65 64).length cap, .int .i64 ((p + 2 * wid st : Nat) : Int), .int .i64 0]) ∧ Ints w' A (zi (restL (rdL st (txt st s p)) 1 ++ partL (rdL st (txt st s (p + wid st))) 65 64)) ∧ Below w.heap.size w w') →
              Lists ⟨rdN st s p &&& (fullN - aH 1), rdN st s (p + wid st) &&& (fullN - aL 1), p + 2 * wid st, 0⟩ w w' e := by
            rintro e w' ⟨A, cap, he, hi, hb⟩
            exact ⟨A, cap, _, by rw [zi_length]; exact he, hi, by rw [zi_length, List.length_append]; omega, ho2, hb⟩
          rcases hst with rfl | rfl
          · exact (refGet_long_1 s p _ _ w hs hp r1' hrl r2 hne hpl).mono fin
          · exact (refGet_long_2 s p _ _ w hs hp r1' hrl r2 hne hpl).mono fin
      · rw [if_pos h3]
        have r2 := parts_err 65 hst hs (rdE_zero h1).1 h3
        apply none_
        rcases hst with rfl | rfl
        · exact refGet_err2_1 s p _ _ w hs hp r1' hrl r2 h3
        · exact refGet_err2_2 s p _ _ w hs hp r1' hrl r2 h3
  · rw [if_pos h1]
    have r1 := parts_err 1 hst hs hp h1
    apply none_
    rcases hst with rfl | rfl
    · exact refGet_err1_1 s p _ w hp r1 h1
    · exact refGet_err1_2 s p _ w hp r1 h1

end Go.Proofs.Ytdnckiaeeikbhaa
