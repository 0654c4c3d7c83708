/-
  What the document's Decode answers, all in one; what the program's is to answer.
-/
import Derived.Test.YtlkpiapmdflahaaDoorStcRef
namespace Go.Proofs.YtlkpiapmdflahaaDoor
open Go.RowKit

/-- What the program's Decode is to answer (shown where it is walked). -/
def DecSpec : Prop := ∀ (st v : Int) (A : Option Addr) (ca : Nat) (sl : List Sp) (b : ByteArray) (w : World), Kinds w → Spl w A sl → sl.length ≤ 1000 → b.size ≤ 1000000 →
  Calls Tryd.prog 10 #[.agg #[.int .i64 st, .int .i64 v, .slice A sl.length ca], .string b] w fun e w' => DecTo (decN st v sl b) w w' e

theorem tgt_size (k : Nat) (s : ByteArray) : (tgt k s).size ≤ 4 := by
  unfold tgt
  split
  · rw [mk_size]
    by_cases he : (bget (s.data.toList.take 2) 4).2.1 = 0
    · obtain ⟨n, hn, h1, h2, h3, h4⟩ := bget_zero he
      obtain rfl : n = 4 := by omega
      rw [show (4 : Int) = ((4 : Nat) : Int) from rfl, bget_ok h1 h2 h3 h4]
      show (bgetL _ 4).length ≤ 4
      rw [bgetL_length]
      exact Nat.le_refl _
    · rw [bget_empty he]; simp
  · rw [mk_size, List.length_take]; omega
theorem bmp_next {st : Nat} {s : ByteArray} {p : Nat} (hp : p ≤ s.size) (h : (bmpN st s p).err = 0) : (bmpN st s p).next ≤ s.size := by
  obtain ⟨s1, _, _, s4⟩ := bmpN_shift st s p hp
  have s5 := s4 h
  rw [s1] at h
  have b4 := (bmpput_N h).2.1
  rw [mk_size, List.length_drop, list_size] at b4
  omega
theorem cut_take (s : ByteArray) (k : Nat) : s.extract 0 k = ⟨(s.data.toList.take k).toArray⟩ := by
  apply ext_eq
  rw [mk_list]
  simp

theorem sref_any (st v : Int) (A : Option Addr) (ca : Nat) (sl : List Sp) (b : ByteArray) (w : World) (hI : Spl w A sl) (hn : sl.length ≤ 1000) (hb : b.size ≤ 1000000) :
    Calls Tryd.prog 11 #[.agg #[.int .i64 st, .int .i64 v, .slice A sl.length ca], .string b] w fun e w' => DecTo (decN st v sl b) w w' e := by
  by_cases h : (schN st v sl).1 = 0
  · obtain ⟨k, rfl, hk⟩ : ∃ k : Nat, st = (k : Int) ∧ (k = 1 ∨ k = 2) := by
      by_cases g : st ≠ 1 ∧ st ≠ 2
      · rw [schN_style g] at h; exact absurd h (by decide)
      · exact ⟨st.toNat, by omega, by omega⟩
    have hts := tgt_size k b
    have htm : (tgt k b).size ≤ maxLen := by unfold maxLen; omega
    rcases hk with rfl | rfl
    · by_cases h2 : b.size < 4
      · rw [decN_short h h2]
        exact sref_short1 v A ca sl b w hI hn h h2
      · have h2' : 4 ≤ b.size := by omega
        have hcut : ∀ W : World, (Instr.slice 9 (.string b) none (some (.int .i64 4)) none).run Tryd.prog W = .ok (.string (tgt 1 b)) W := fun W => by
          have := cut_str b 4 h2' W
          rw [cut_take] at this
          exact this
        cases hm : mtiB (tgt 1 b).data.toList
        · rw [decN_mti h h2' (mtiV_none hm)]
          exact sref_none1 v A ca sl b w hI hn h h2' _ hcut htm hm
        · obtain ⟨c0, c1, c2, c3, ht, ha, hb', hc, hd⟩ := mti_of hm
          have hix : ∀ W, (Instr.index 9 (.string (tgt 1 b)) (.int .i64 0)).run Tryd.prog W = .ok (.int .u8 ((c0.toNat : Nat) : Int)) W := by rw [ht]; exact ix_T4_0 c0 c1 c2 c3
          have hlt : c0.toNat < 256 := c0.toNat_lt
          have hmv : mtiV (tgt 1 b) v = decide ((c0.toNat : Int) - 48 = v) := by rw [ht] at hm ⊢; exact mtiV_T4 hm
          by_cases hv : (c0.toNat : Int) - 48 = v
          · have hmt : mtiV (tgt 1 b) v = true := by rw [hmv]; exact decide_eq_true hv
            have hG := fun W => bmprefGet_told 1 b 4 W (by decide) hb h2'
            by_cases hx : (bmpN 1 b 4).err = 0
            · rw [decN_ok h h2' hmt hx]
              exact sref_loop1 v A ca sl b w hI hn hb h h2' _ hcut htm hm _ _ hix hlt rfl hv (bmpN 1 b 4) hG hx (bmp_next h2' hx)
            · rw [decN_bmp h h2' hmt hx]
              exact sref_bmp1 v A ca sl b w hI hn h h2' _ hcut htm hm _ _ hix hlt rfl hv (bmpN 1 b 4) hG hx
          · rw [decN_mti h h2' (by rw [hmv]; exact decide_eq_false hv)]
            exact sref_version1 v A ca sl b w hI hn h h2' _ hcut htm hm _ _ hix hlt rfl hv
    · by_cases h2 : b.size < 2
      · rw [decN_short h h2]
        exact sref_short2 v A ca sl b w hI hn h h2
      · have h2' : 2 ≤ b.size := by omega
        have hcut : ∀ W : World, (Instr.slice 9 (.string b) none (some (.int .i64 2)) none).run Tryd.prog W = .ok (.string (b.extract 0 2)) W := fun W => cut_str b 2 h2' W
        have hbcd : ∀ W, Calls Tryd.prog 22 #[.string (b.extract 0 2), .int .i64 4] W fun e w' => e = .returned (.tuple #[.string (tgt 2 b), .int .i64 ((bget (b.data.toList.take 2) 4).2.1 : Int), .int .i64 ((bget (b.data.toList.take 2) 4).2.2 : Int)]) ∧ Below W.heap.size W w' := fun W => by
          have := brefGet_any (b.extract 0 2) 4 W
          rw [cut_take, mk_list] at this
          rw [cut_take]
          exact this
        cases hm : mtiB (tgt 2 b).data.toList
        · rw [decN_mti h h2' (mtiV_none hm)]
          exact sref_none2 v A ca sl b w hI hn h h2' _ _ hcut _ _ hbcd htm hm
        · obtain ⟨c0, c1, c2, c3, ht, ha, hb', hc, hd⟩ := mti_of hm
          have hix : ∀ W, (Instr.index 9 (.string (tgt 2 b)) (.int .i64 0)).run Tryd.prog W = .ok (.int .u8 ((c0.toNat : Nat) : Int)) W := by rw [ht]; exact ix_T4_0 c0 c1 c2 c3
          have hlt : c0.toNat < 256 := c0.toNat_lt
          have hmv : mtiV (tgt 2 b) v = decide ((c0.toNat : Int) - 48 = v) := by rw [ht] at hm ⊢; exact mtiV_T4 hm
          by_cases hv : (c0.toNat : Int) - 48 = v
          · have hmt : mtiV (tgt 2 b) v = true := by rw [hmv]; exact decide_eq_true hv
            have hG := fun W => bmprefGet_told 2 b 2 W (by decide) hb h2'
            by_cases hx : (bmpN 2 b 2).err = 0
            · rw [decN_ok h h2' hmt hx]
              exact sref_loop2 v A ca sl b w hI hn hb h h2' _ _ hcut _ _ hbcd htm hm _ _ hix hlt rfl hv (bmpN 2 b 2) hG hx (bmp_next h2' hx)
            · rw [decN_bmp h h2' hmt hx]
              exact sref_bmp2 v A ca sl b w hI hn h h2' _ _ hcut _ _ hbcd htm hm _ _ hix hlt rfl hv (bmpN 2 b 2) hG hx
          · rw [decN_mti h h2' (by rw [hmv]; exact decide_eq_false hv)]
            exact sref_version2 v A ca sl b w hI hn h h2' _ _ hcut _ _ hbcd htm hm _ _ hix hlt rfl hv
  · rw [decN_arg h]
    exact sref_arg st v A ca sl b w hI hn h

end Go.Proofs.YtlkpiapmdflahaaDoor
