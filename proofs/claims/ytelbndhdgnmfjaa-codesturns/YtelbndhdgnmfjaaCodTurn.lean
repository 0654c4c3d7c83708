/-
  What Turn and the document's Turn and Copy answer: a row of the call's own; for every list of up to 5,000,000 pairs, in every world.
-/
import Derived.Test.YtelbndhdgnmfjaaCodOf
import Derived.Test.YtelbndhdgnmfjaaRegHeld
import Derived.OwnWalk
namespace Go.Proofs.Ytelbndhdgnmfjaa
open Go.RowKit

set_option maxRecDepth 100000 in
set_option maxHeartbeats 1600000 in
theorem ccopy_any (A : Option Addr) (cap : Nat) (l : List Duo) (w : World) (hI : Prs w A l) (hn : l.length ≤ 5000000) :
    Calls Try.prog 11 #[.slice A l.length cap] w fun e w' => ∃ A' c', e = .returned (.slice A' l.length c') ∧ w'.ownsRow w.heap.size 40 2 (.slice A' l.length c') l.length (duosC l) ∧ Below w.heap.size w w' := by
  have HI := Lib.hid hI
  clear hI
  generalize hlen : l.length = len at *
  have HLEN := Lib.hid hlen
  clear hlen
  go_enter Try.func11, Try.ntmps11
  go_wp2_with (at_builtin; refine wpList_copy_prs rfl _ _ rfl w rfl A cap len rfl l HLEN.out HI.out (by omega) ?_; intro A' c' w1 hown1 hb1)
  have HO1 := Lib.hid hown1
  have HB1 := Lib.hid hb1
  clear hown1 hb1
  go_wp2
  go_ret
  exact ⟨A', c', rfl, HO1.out, HB1.out⟩
set_option maxRecDepth 100000 in
set_option maxHeartbeats 3200000 in
theorem cturn_any (A : Option Addr) (cap : Nat) (l : List Duo) (w : World) (hI : Prs w A l) (hn : l.length ≤ 5000000) :
    Calls Try.prog 17 #[.slice A l.length cap] w fun e w' => ∃ A' c', e = .returned (.slice A' l.length c') ∧ Prs w' A' (turnL l) ∧ Below w.heap.size w w' := by
  obtain ⟨i0, hi, hz0, hz1, hz2⟩ := info_parts Try.infoPair
  have HI := Lib.hid hI
  clear hI
  generalize hlen : l.length = len at *
  have HLEN := Lib.hid hlen
  clear hlen
  go_enter Try.func17, Try.ntmps17
  go_wp2_with (at_make; refine wpList_make_own _ rfl _ _ 22 rfl w.heap.size 40 i0 (.agg #[.string ⟨#[]⟩, .string ⟨#[]⟩]) 2 Try.underlying22 hi hz0 hz1 _ _ _ len rfl rfl (by omega) ?b2 ?b3 ?b4 ?_)
  case b2 => rw [hz2]; omega
  case b3 => unfold maxLen; omega
  case b4 => exact Nat.le_refl _
  intro w0 hown0 hgrow0
  have HO0 := Lib.hid hown0
  have HB0 := Lib.hid ((Below.refl w.heap.size w).grown hgrow0 (Nat.le_refl _) (fun q hq => by cases hq))
  clear hown0 hgrow0
  go_wp2
  go_loopw [3, 11] (fun v i wr => ∃ k : Nat, k ≤ len ∧ i = .int .i64 (k : Int) ∧ wr.ownsRow w.heap.size 40 2 v k (duosC (turnL (l.take k))) ∧ Below w.heap.size w wr) (fun _ i _ => len - (intOf i).toNat)
  case atStart => exact ⟨0, Nat.zero_le _, rfl, HO0.out, HB0.out⟩
  case round =>
    obtain ⟨k, hk, rfl, hown, hb⟩ := hrel
    have HO := Lib.hid hown
    have HB := Lib.hid hb
    clear hown hb HO0 HB0
    by_cases hlt : k < len
    · have hkl : k < l.length := by have := HLEN.out; omega
      obtain ⟨a, s, t, rfl, hx, hc, hd⟩ := (HI.out.below HB.out).at_ hkl
      have HST := Lib.hid (turn_step hkl)
      rw [hx] at HST
      have HO1 := Lib.hid ((HO.out.alloc (.cells #[.string s, .string t] 40)).alloc (.cells #[.string t, .string s] 40))
      have HB1 := Lib.hid (hbt (hbt HB.out (below_al wr (.cells #[.string s, .string t] 40))) (below_al _ (.cells #[.string t, .string s] 40)))
      have HZ1 : Hid (w.heap.size ≤ ((wr.alloc (.cells #[.string s, .string t] 40)).alloc (.cells #[.string t, .string s] 40)).heap.size) := HB1.out.size
      have HN1 := Lib.hid (heap_al (wr.alloc (.cells #[.string s, .string t] 40)) (.cells #[.string t, .string s] 40) (wr.heap.size + 1) (by simp))
      clear hx hkl
      go_wp2_with (at_builtin; refine wpList_append_lies _ rfl _ _ _ rfl w.heap.size 40 i0 _ 2 32 Try.underlying22 hi hz0 hz1 hz2 rfl (by omega) _ k (duosC (turnL (l.take k))) rfl HO1.out ⟨wr.heap.size + 1, 0, none⟩ 1 1 (duoC (t, s)) rfl rfl (World.news_of_block (cs := #[.string t, .string s]) (t := 40) (fr := (0, 0)) HN1.out) (by simp [duoC, Value.oneCell']) (by omega) (by unfold maxLen; omega) (by omega) HZ1.out (wr.heap.size + 1 + 1) (by simp) ?_; intro g' cap' w4 hown4 hgrow4 hat4 hlt4)
      have HO4 := Lib.hid hown4
      have HB4 := Lib.hid (HB1.out.grown hgrow4 HZ1.out (fun q hq => (HO1.out.lt q hq).1))
      clear hown4 hgrow4 hat4 hlt4
      go_wp2
      go_roundw
      case rel => exact ⟨k + 1, by omega, by go_num, by rw [HST.out, duosC_snoc]; exact HO4.out, HB4.out⟩
      case measure => simp [intOf]; omega
    · have hkl : k = len := by omega
      subst hkl
      have HE : Hid (turnL (l.take k) = turnL l) := by show _ = _; rw [duo_all (by rw [HLEN.out]; exact Nat.le_refl _)]
      rw [HE.out] at HO
      obtain ⟨A', c', rfl, hT⟩ := prs_own HO.out (by rw [turn_len]; exact HLEN.out.symm)
      have HTT := Lib.hid hT
      have HLL : Hid ((turnL l).length = k) := by show _ = _; rw [turn_len]; exact HLEN.out
      clear hT
      rw [HLL.out]
      go_wp2
      go_ret
      exact ⟨A', c', rfl, HTT.out, HB.out⟩
set_option maxRecDepth 100000 in
set_option maxHeartbeats 3200000 in
theorem crturn_any (A : Option Addr) (cap : Nat) (l : List Duo) (w : World) (hI : Prs w A l) (hn : l.length ≤ 5000000) :
    Calls Try.prog 19 #[.slice A l.length cap] w fun e w' => ∃ A' c', e = .returned (.slice A' l.length c') ∧ Prs w' A' (turnL l) ∧ Below w.heap.size w w' := by
  obtain ⟨i0, hi, hz0, hz1, hz2⟩ := info_parts Try.infoPair
  have HI := Lib.hid hI
  have HO0 : Hid ((w.alloc (.cells #[] 40)).ownsRow w.heap.size 40 2 (.slice (some ⟨w.heap.size, 0, none⟩) 0 0) 0 []) := World.ownsRow_lit w #[] 0 (Nat.le_refl _) (by unfold maxLen; omega) rfl
  clear hI
  generalize hlen : l.length = len at *
  have HLEN := Lib.hid hlen
  clear hlen
  go_enter Try.func19, Try.ntmps19
  go_wp2
  go_loopw [3, 4] (fun v i wr => ∃ k : Nat, k ≤ len ∧ i = .int .i64 (k : Int) ∧ wr.ownsRow w.heap.size 40 2 v k (duosC (turnL (l.take k))) ∧ Below w.heap.size w wr) (fun _ i _ => len - (intOf i).toNat)
  case atStart => exact ⟨0, Nat.zero_le _, rfl, HO0.out, below_al _ _⟩
  case round =>
    obtain ⟨k, hk, rfl, hown, hb⟩ := hrel
    have HO := Lib.hid hown
    have HB := Lib.hid hb
    clear hown hb HO0
    by_cases hlt : k < len
    · have hkl : k < l.length := by have := HLEN.out; omega
      obtain ⟨a, s, t, rfl, hx, hc, hd⟩ := (HI.out.below HB.out).at_ hkl
      have HST := Lib.hid (turn_step hkl)
      rw [hx] at HST
      have HC : Hid (∀ u, Below w.heap.size w u → u.cell? (a.add (k * 2)) = some (.string s) ∧ u.cell? ⟨(a.add (k * 2)).block, (a.add (k * 2)).off + 1, none⟩ = some (.string t)) := fun u hu => by
        obtain ⟨a', ha, h1, h2⟩ := HI.out.below hu k hkl
        injection ha with ha
        subst ha
        rw [hx] at h1 h2
        exact ⟨h1, h2⟩
      have HO1 := Lib.hid (HO.out.alloc (.cells #[.string t, .string s] 40))
      have HB1 := Lib.hid (hbt HB.out (below_al wr (.cells #[.string t, .string s] 40)))
      have HZ1 : Hid (w.heap.size ≤ (wr.alloc (.cells #[.string t, .string s] 40)).heap.size) := HB1.out.size
      clear hx hkl hc hd
      go_wp2_with fail
      refine wp_region_noPanic ?_
      refine wp_region_held_drew (S := (fun u => Below w.heap.size w u)) (by kernel_rfl) (HB.out.drew) (fun hS => ?_)
      refine give_val (i := 0) (v := ?_) rfl (by kernel_rfl) (by kernel_rfl) (by kernel_rfl) (fun _ _ _ h => h) (by rfl) (fun u hu => ?_) hS ?_
      rotate_left
      · ((obtain ⟨c0, c1⟩ := HC.out _ hu); go_simp; try (with_reducible rfl))
      try simp only [Act.put, List.setIfInBounds_toArray, List.set_cons_zero, List.set_cons_succ]
      refine give_val (i := 1) (v := ?_) rfl (by kernel_rfl) (by kernel_rfl) (by kernel_rfl) (fun _ _ _ h => h) (by rfl) (fun u hu => ?_) hS ?_
      rotate_left
      · ((obtain ⟨c0, c1⟩ := HC.out _ hu); go_simp; try (with_reducible rfl))
      try simp only [Act.put, List.setIfInBounds_toArray, List.set_cons_zero, List.set_cons_succ]
      refine give_val (i := 2) (v := ?_) rfl (by kernel_rfl) (by kernel_rfl) (by kernel_rfl) (fun _ _ _ h => h) (by rfl) (fun u hu => ?_) hS ?_
      rotate_left
      · ((obtain ⟨c0, c1⟩ := HC.out _ hu); go_simp; try (with_reducible rfl))
      try simp only [Act.put, List.setIfInBounds_toArray, List.set_cons_zero, List.set_cons_succ]
      refine give_val (i := 3) (v := ?_) rfl (by kernel_rfl) (by kernel_rfl) (by kernel_rfl) (fun _ _ _ h => h) (by rfl) (fun u hu => ?_) hS ?_
      rotate_left
      · ((obtain ⟨c0, c1⟩ := HC.out _ hu); go_simp; try (with_reducible rfl))
      try simp only [Act.put, List.setIfInBounds_toArray, List.set_cons_zero, List.set_cons_succ]
      refine give_val (i := 4) (v := ?_) rfl (by kernel_rfl) (by kernel_rfl) (by kernel_rfl) (fun _ _ _ h => h) (by rfl) (fun u hu => ?_) hS ?_
      rotate_left
      · ((obtain ⟨c0, c1⟩ := HC.out _ hu); go_simp; try (with_reducible rfl))
      try simp only [Act.put, List.setIfInBounds_toArray, List.set_cons_zero, List.set_cons_succ]
      refine give_val (i := 5) (v := ?_) rfl (by kernel_rfl) (by kernel_rfl) (by kernel_rfl) (fun _ _ _ h => h) (by rfl) (fun u hu => ?_) hS ?_
      rotate_left
      · ((obtain ⟨c0, c1⟩ := HC.out _ hu); go_simp; try (with_reducible rfl))
      try simp only [Act.put, List.setIfInBounds_toArray, List.set_cons_zero, List.set_cons_succ]
      refine give_val (i := 6) (v := ?_) rfl (by kernel_rfl) (by kernel_rfl) (by kernel_rfl) (fun _ _ _ h => h) (by rfl) (fun u hu => ?_) hS ?_
      rotate_left
      · ((obtain ⟨c0, c1⟩ := HC.out _ hu); go_simp; try (with_reducible rfl))
      try simp only [Act.put, List.setIfInBounds_toArray, List.set_cons_zero, List.set_cons_succ]
      refine give_val (i := 7) (v := ?_) rfl (by kernel_rfl) (by kernel_rfl) (by kernel_rfl) (fun _ _ _ h => h) (by rfl) (fun u hu => ?_) hS ?_
      rotate_left
      · ((obtain ⟨c0, c1⟩ := HC.out _ hu); go_simp; try (with_reducible rfl))
      try simp only [Act.put, List.setIfInBounds_toArray, List.set_cons_zero, List.set_cons_succ]
      refine give_val (i := 8) (v := ?_) rfl (by kernel_rfl) (by kernel_rfl) (by kernel_rfl) (fun _ _ _ h => h) (by rfl) (fun u hu => ?_) hS ?_
      rotate_left
      · ((obtain ⟨c0, c1⟩ := HC.out _ hu); go_simp; try (with_reducible rfl))
      try simp only [Act.put, List.setIfInBounds_toArray, List.set_cons_zero, List.set_cons_succ]
      refine give_val (i := 9) (v := ?_) rfl (by kernel_rfl) (by kernel_rfl) (by kernel_rfl) (fun _ _ _ h => h) (by rfl) (fun u hu => ?_) hS ?_
      rotate_left
      · ((obtain ⟨c0, c1⟩ := HC.out _ hu); go_simp; try (with_reducible rfl))
      try simp only [Act.put, List.setIfInBounds_toArray, List.set_cons_zero, List.set_cons_succ]
      refine give_val (i := 10) (v := ?_) rfl (by kernel_rfl) (by kernel_rfl) (by kernel_rfl) (fun _ _ _ h => h) (by rfl) (fun u hu => ?_) hS ?_
      rotate_left
      · ((obtain ⟨c0, c1⟩ := HC.out _ hu); go_simp; try (with_reducible rfl))
      try simp only [Act.put, List.setIfInBounds_toArray, List.set_cons_zero, List.set_cons_succ]
      refine give_val (i := 11) (v := ?_) rfl (by kernel_rfl) (by kernel_rfl) (by kernel_rfl) (fun _ _ _ h => h) (by rfl) (fun u hu => ?_) hS ?_
      rotate_left
      · ((obtain ⟨c0, c1⟩ := HC.out _ hu); go_simp; try (with_reducible rfl))
      try simp only [Act.put, List.setIfInBounds_toArray, List.set_cons_zero, List.set_cons_succ]
      refine only (i := 12) rfl (by kernel_rfl) (by rfl) (fun K hK => ?_)
      go_simp
      refine hK.out _ _ HB1.out.drew ?_
      clear hK
      try simp only [Act.put, List.setIfInBounds_toArray, List.set_cons_zero, List.set_cons_succ]
      refine only (i := 13) rfl (by kernel_rfl) (by rfl) (fun K hK => ?_)
      refine wp_append_lies _ _ _ _ (by rfl) w.heap.size 40 i0 _ 2 32 Try.underlying22 hi hz0 hz1 hz2 rfl (by omega) _ k (duosC (turnL (l.take k))) (by rfl) (HO1.out.drew) ⟨wr.heap.size, 0, none⟩ 1 1 (duoC (t, s)) (by rfl) (by rfl) (World.news_of_block (cs := #[.string t, .string s]) (t := 40) (fr := (0, 0)) (heap_alloc_new wr _)) (by simp [duoC, Value.oneCell']) (by omega) (by unfold maxLen; omega) (by omega) (by exact HZ1.out) (wr.heap.size + 1) (by simp) ?_
      intro g' cap' w4 hown4 hgrow4 hat4 hlt4
      have HO4 := Lib.hid hown4
      have HB4 := Lib.hid (HB1.out.drew.grown hgrow4 (by exact HZ1.out) (fun q hq => (HO1.out.lt q hq).1))
      clear hown4 hgrow4 hat4 hlt4
      refine hK.out _ _ HB4.out ?_
      clear hK
      try simp only [Act.put, List.setIfInBounds_toArray, List.set_cons_zero, List.set_cons_succ]
      clear hS
      have hS : Below w.heap.size w w4 := HB4.out
      refine give_val (i := 14) (v := ?_) rfl (by kernel_rfl) (by kernel_rfl) (by kernel_rfl) (fun _ _ _ h => h) (by rfl) (fun u hu => ?_) hS ?_
      rotate_left
      · ((obtain ⟨c0, c1⟩ := HC.out _ hu); go_simp; try (with_reducible rfl))
      try simp only [Act.put, List.setIfInBounds_toArray, List.set_cons_zero, List.set_cons_succ]
      refine wpAnyH_done (by kernel_rfl) (NoPanic.normal ?_) _
      clear hS
      go_wp2
      go_roundw
      case rel => exact ⟨k + 1, by omega, by go_num, by rw [HST.out, duosC_snoc]; exact HO4.out, HB4.out⟩
      case measure => simp [intOf]; omega
    · have hkl : k = len := by omega
      subst hkl
      have HE : Hid (turnL (l.take k) = turnL l) := by show _ = _; rw [duo_all (by rw [HLEN.out]; exact Nat.le_refl _)]
      rw [HE.out] at HO
      obtain ⟨A', c', rfl, hT⟩ := prs_own HO.out (by rw [turn_len]; exact HLEN.out.symm)
      have HTT := Lib.hid hT
      have HLL : Hid ((turnL l).length = k) := by show _ = _; rw [turn_len]; exact HLEN.out
      clear hT
      rw [HLL.out]
      go_wp2
      go_ret
      exact ⟨A', c', rfl, HTT.out, HB.out⟩

end Go.Proofs.Ytelbndhdgnmfjaa
