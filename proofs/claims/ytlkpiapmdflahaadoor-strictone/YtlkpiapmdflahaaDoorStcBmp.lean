/-
  What the document's Get of bitmaps answers: the numbers of the set, by rising numbers.
-/
import Derived.Test.YtlkpiapmdflahaaDoorStcMath
import Derived.Test.YtlkpiapmdflahaaDoorPackBmp
namespace Go.Proofs.YtlkpiapmdflahaaDoor
open Go.RowKit

theorem rise_map (p : Nat → Bool) (f : Nat) : ∀ (n b : Nat) (a : Int), a < ((f + b : Nat) : Int) → RiseI a (zi (((List.range' b n).filter p).map (f + ·)))
  | 0, _, _, _ => trivial
  | n + 1, b, a, h => by
    rw [List.range'_succ, List.filter_cons]
    split
    · exact ⟨h, rise_map p f n (b + 1) _ (show ((f + b : Nat) : Int) < ((f + (b + 1) : Nat) : Int) by omega)⟩
    · exact rise_map p f n (b + 1) a (by omega)
theorem rise_app : ∀ {L M : List Int} {a c : Int}, RiseI a L → (∀ n ∈ L, n ≤ c) → a ≤ c → RiseI c M → RiseI a (L ++ M)
  | [], [], _, _, _, _, _, _ => trivial
  | [], _ :: _, _, _, _, _, h, hm => ⟨Int.lt_of_le_of_lt h hm.1, hm.2⟩
  | x :: _, _, _, _, hl, hc, _, hm => ⟨hl.1, rise_app hl.2 (fun n hn => hc n (by simp [hn])) (hc x (by simp)) hm⟩
theorem list_told {zs : List Int} (hr : RiseI 0 zs) (h : ∀ n ∈ zs, n ≤ 128) : zi (listN (ofH zs) (ofL zs) 128) = zs := by
  refine rise_ext (rise_listN _ _ _) hr fun n => ?_
  rw [mem_list, has_of, decide_eq_true_eq]
  constructor
  · exact fun h => h.1
  · intro hn
    have h1 := h n hn
    have h2 := RiseI.above hr n hn
    exact ⟨hn, by omega, by omega⟩

/-- The list of the set that Get tells, by rising numbers. -/
def ListsN (G : Got) (w w' : World) (e : Ending) : Prop :=
  ∃ A cap, e = .returned (.tuple #[.slice A (zi (listN G.high G.low 128)).length cap, .int .i64 (G.next : Int), .int .i64 (G.err : Int)]) ∧ Ints w' A (zi (listN G.high G.low 128)) ∧ Below w.heap.size w w'
theorem bmprefGet_told (st : Nat) (s : ByteArray) (p : Nat) (w : World) (hst : st = 1 ∨ st = 2) (hs : s.size ≤ 1000000) (hp : p ≤ s.size) :
    Calls Tryd.prog 24 #[.int .i64 (st : Int), .string s, .int .i64 (p : Int)] w fun e w' => ListsN (bmpN st s p) w w' e := by
  unfold bmpN
  have e00 : zi (listN 0 0 128) = [] := by decide +kernel
  have none_ : ∀ n : Nat, Calls Tryd.prog 24 #[.int .i64 (st : Int), .string s, .int .i64 (p : Int)] w (fun e w' => e = .returned (.tuple #[.slice none 0 0, .int .i64 0, .int .i64 (n : Int)]) ∧ Below w.heap.size w w') →
      Calls Tryd.prog 24 #[.int .i64 (st : Int), .string s, .int .i64 (p : Int)] w fun e w' => ListsN ⟨0, 0, 0, n⟩ w w' e := fun n h =>
    h.mono fun e w' he => ⟨none, 0, by show e = .returned (.tuple #[.slice none (zi (listN 0 0 128)).length 0, .int .i64 0, .int .i64 (n : Int)]); rw [e00]; exact he.1, by show Ints w' none (zi (listN 0 0 128)); rw [e00]; exact ints_nil _ _, he.2⟩
  by_cases h1 : rdE st s p = 0
  · rw [if_neg (by omega)]
    have hl := rd_len h1
    have r1 := parts_ok 1 (by omega) hst hs h1
    have ho := of_part hl
    rw [partL_cons, bit_first hl] at r1
    rw [show bnumL (rdL st (txt st s p)) = rdN st s p from rfl] at r1 ho
    have hrl := restL_len (rdL st (txt st s p)) 1
    have hrr : RiseI 0 (zi (restL (rdL st (txt st s p)) 1)) := rise_map _ 1 63 1 0 (by decide)
    have hrb : ∀ n ∈ zi (restL (rdL st (txt st s p)) 1), n ≤ 64 := fun n hn => by
      rw [zi_mem, restL_mem] at hn
      omega
    cases h2 : hasN (rdN st s p) 0 1
    · rw [if_pos rfl]
      rw [h2, if_neg (by simp), List.nil_append] at r1
      have hlist : partL (rdL st (txt st s p)) 1 64 = restL (rdL st (txt st s p)) 1 := by
        rw [partL_cons, bit_first hl, show bnumL (rdL st (txt st s p)) = rdN st s p from rfl, h2]
        simp
      rw [hlist] at ho
      have hge : ∀ z ∈ restL (rdL st (txt st s p)) 1, 2 ≤ z := fun z hz => by rw [restL_mem] at hz; omega
      have hz := list_told hrr (fun n hn => by have := hrb n hn; omega)
      rw [ho.1, ho.2] at hz
      have fin : ∀ e w', (∃ A cap, e = .returned (.tuple #[.slice A (restL (rdL st (txt st s p)) 1).length cap, .int .i64 ((p + bwid st : Nat) : Int), .int .i64 0]) ∧ Ints w' A (zi (restL (rdL st (txt st s p)) 1)) ∧ Below w.heap.size w w') → ListsN ⟨rdN st s p, 0, p + bwid st, 0⟩ w w' e := by
        rintro e w' ⟨A, cap, he, hi, hb⟩
        exact ⟨A, cap, by show e = .returned (.tuple #[.slice A (zi (listN (rdN st s p) 0 128)).length cap, _, _]); rw [hz, zi_length]; exact he, by show Ints w' A (zi (listN (rdN st s p) 0 128)); rw [hz]; exact hi, hb⟩
      rcases hst with rfl | rfl
      · exact (refGet_short_1 s p _ w hs hp r1 hge (by omega)).mono fin
      · exact (refGet_short_2 s p _ w hs hp r1 hge (by omega)).mono fin
    · rw [if_neg (by simp)]
      rw [h2, if_pos rfl] at r1
      have r1' : PartL st s p 1 (1 :: restL (rdL st (txt st s p)) 1) := r1
      by_cases h3 : rdE st s (p + bwid st) = 0
      · rw [if_neg (by omega)]
        have hm := rd_len h3
        have r2 := parts_ok 65 (by omega) hst hs h3
        by_cases h4 : rdN st s (p + bwid st) = 0
        · rw [if_pos h4]
          rw [(part_nil hm 65).2 h4] at r2
          apply none_
          rcases hst with rfl | rfl
          · exact refGet_zero_1 s p _ w hs hp r1' hrl r2
          · exact refGet_zero_2 s p _ w hs hp r1' hrl r2
        · rw [if_neg h4]
          have hne : partL (rdL st (txt st s (p + bwid st))) 65 64 ≠ [] := mt (part_nil hm 65).1 h4
          have hpl := partL_len (rdL st (txt st s (p + bwid st))) 65 64
          have ho2 := of_rest hl hm
          have hpr : RiseI 64 (zi (partL (rdL st (txt st s (p + bwid st))) 65 64)) := by
            unfold partL
            rw [List.range_eq_range']
            exact rise_map _ 65 64 0 64 (by decide)
          have hz := list_told (zs := zi (restL (rdL st (txt st s p)) 1 ++ partL (rdL st (txt st s (p + bwid st))) 65 64)) (by
            rw [show zi (restL (rdL st (txt st s p)) 1 ++ partL (rdL st (txt st s (p + bwid st))) 65 64) = zi (restL (rdL st (txt st s p)) 1) ++ zi (partL (rdL st (txt st s (p + bwid st))) 65 64) from List.map_append]
            exact rise_app hrr hrb (by decide) hpr) (fun n hn => by
            rw [zi_mem, List.mem_append, restL_mem, partL_mem] at hn
            omega)
          rw [ho2.1, ho2.2, show bnumL (rdL st (txt st s p)) = rdN st s p from rfl, show bnumL (rdL st (txt st s (p + bwid st))) = rdN st s (p + bwid st) from rfl] at hz
          have fin : ∀ e w', (∃ A cap, e = .returned (.tuple #[.slice A (restL (rdL st (txt st s p)) 1 ++ partL (rdL st (txt st s (p + bwid st))) 65 64).length cap, .int .i64 ((p + 2 * bwid st : Nat) : Int), .int .i64 0]) ∧ Ints w' A (zi (restL (rdL st (txt st s p)) 1 ++ partL (rdL st (txt st s (p + bwid st))) 65 64)) ∧ Below w.heap.size w w') →
              ListsN ⟨rdN st s p &&& (fullN - aH 1), rdN st s (p + bwid st) &&& (fullN - aL 1), p + 2 * bwid st, 0⟩ w w' e := by
            rintro e w' ⟨A, cap, he, hi, hb⟩
            exact ⟨A, cap, by show e = .returned (.tuple #[.slice A (zi (listN (rdN st s p &&& (fullN - aH 1)) (rdN st s (p + bwid st) &&& (fullN - aL 1)) 128)).length cap, _, _]); rw [hz, zi_length]; exact he, by show Ints w' A (zi (listN (rdN st s p &&& (fullN - aH 1)) (rdN st s (p + bwid st) &&& (fullN - aL 1)) 128)); rw [hz]; exact hi, hb⟩
          rcases hst with rfl | rfl
          · exact (refGet_long_1 s p _ _ w hs hp r1' hrl r2 hne hpl).mono fin
          · exact (refGet_long_2 s p _ _ w hs hp r1' hrl r2 hne hpl).mono fin
      · rw [if_pos h3]
        have r2 := parts_err 65 hst hs (rdE_zero h1).1 h3
        apply none_
        rcases hst with rfl | rfl
        · exact refGet_err2_1 s p _ _ w hs hp r1' hrl r2 h3
        · exact refGet_err2_2 s p _ _ w hs hp r1' hrl r2 h3
  · rw [if_pos h1]
    have r1 := parts_err 1 hst hs hp h1
    apply none_
    rcases hst with rfl | rfl
    · exact refGet_err1_1 s p _ w hp r1 h1
    · exact refGet_err1_2 s p _ w hp r1 h1

end Go.Proofs.YtlkpiapmdflahaaDoor
