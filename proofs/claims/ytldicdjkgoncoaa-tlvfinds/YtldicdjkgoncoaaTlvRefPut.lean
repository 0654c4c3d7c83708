/-
  What the document's Put answers: for every right list whose bytes are at most 5,000,000, in every world.
-/
import Derived.Test.YtldicdjkgoncoaaTlvPut
import Derived.Test.YtldicdjkgoncoaaRegHeld
namespace Go.Proofs.Ytldicdjkgoncoaa
open Go.RowKit Go.Maps

set_option maxRecDepth 100000 in
set_option maxHeartbeats 6400000 in
theorem tlvrefPut_any (A : Option Addr) (cap : Nat) (l : List Item) (w : World) (hI : Tlvs w A l) (hn : l.length ≤ 5000000) (hg : Good l) (hp : (tlvL l).length ≤ 5000000) :
    Calls Try.prog 13 #[.slice A l.length cap] w fun e w' => e = .returned (.string ⟨(tlvL l).toArray⟩) ∧ Below w.heap.size w w' := by
  have HI := Lib.hid hI
  have HG := Lib.hid hg
  have HP := Lib.hid hp
  clear hI hg hp
  generalize hlen : l.length = len at *
  have HLEN := Lib.hid hlen
  clear hlen
  go_enter Try.func13, Try.ntmps13
  go_wp2
  go_loopw [3, 4] (fun o i wr => ∃ (k : Nat) (acc : ByteArray), k ≤ len ∧ i = .int .i64 (k : Int) ∧ o = .string acc ∧ acc.data.toList = tlvL (l.take k) ∧ Below w.heap.size w wr) (fun _ i _ => len - (intOf i).toNat)
  case atStart => exact ⟨0, _, Nat.zero_le _, rfl, rfl, by simp [tlvL], Below.refl _ _⟩
  case round =>
    obtain ⟨k, acc, hk, rfl, rfl, hacc, hb⟩ := hrel
    have HA := Lib.hid hacc
    have HB := Lib.hid hb
    clear hacc hb
    by_cases hlt : k < len
    · have hkl : k < l.length := by have := HLEN.out; omega
      obtain ⟨a, rfl, _⟩ := HI.out.below HB.out k hkl
      have HCK : Hid (∀ u, Below w.heap.size w u → u.cell? (a.add (k * 2)) = some (.int .i64 (itemAt l k).1) ∧ u.cell? ⟨(a.add (k * 2)).block, (a.add (k * 2)).off + 1, none⟩ = some (.string (itemAt l k).2)) := fun u hu => by
        obtain ⟨a', ha, hc, hd⟩ := HI.out.below hu k hkl
        injection ha with ha
        subst ha
        exact ⟨hc, hd⟩
      have hgk := HG.out k hkl
      unfold badAt at hgk
      have HPS := Lib.hid (tlvL_step hkl)
      have hpl := tlvL_part l k
      have hp5 := HP.out
      generalize itemAt l k = x at *
      obtain ⟨z, s⟩ := x
      dsimp only at HCK
      obtain ⟨g1, g2, _⟩ := bad1_zero hgk
      dsimp only at g1 g2
      obtain ⟨n, rfl, hno⟩ := tag_nat g1
      have HTP := Lib.hid (fun W => trefPut_yes n W hno)
      have HBP := Lib.hid (fun W => berrefPut_yes s.size W (by omega))
      have hps := HPS.out
      unfold putI at hps
      dsimp only at hps
      rw [show ((n : Nat) : Int).toNat = n from rfl] at hps
      have l1 := tputL_length_le n
      have l2 := berL_length s.size
      have l3 := berSz_le s.size
      have m1 : (⟨(tputL n).toArray⟩ : ByteArray).data.toList = tputL n := mk_list _
      have m2 : (⟨(berL s.size).toArray⟩ : ByteArray).data.toList = berL s.size := mk_list _
      rw [← m1, ← m2] at hps
      have n1 := mk_size (tputL n)
      have n2 := mk_size (berL s.size)
      generalize (⟨(tputL n).toArray⟩ : ByteArray) = ta at *
      generalize (⟨(berL s.size).toArray⟩ : ByteArray) = tb at *
      have HQ := Lib.hid hps
      have hacl : acc.size ≤ 5000000 := by
        have h1 : acc.data.toList.length = acc.size := by simp
        rw [HA.out] at h1; omega
      have hta : ta.size ≤ 3 := by omega
      have htb : tb.size ≤ 3 := by omega
      clear hgk hps l1 l2 l3 m1 m2 n1 n2 hno g1 HPS hpl hp5 hkl
      go_wp2_with fail
      refine wp_region_noPanic ?_
      refine wp_region_held_drew (S := (fun u => Below w.heap.size w u)) (by kernel_rfl) (HB.out.drew) (fun hS => ?_)
      refine give_val (i := 0) (v := ?_) rfl (by kernel_rfl) (by kernel_rfl) (by kernel_rfl) (fun _ _ _ h => h) (by rfl) (fun u hu => ?_) hS ?_
      rotate_left
      · ((obtain ⟨hc, hd⟩ := HCK.out u hu; clear hu); go_simp; try (with_reducible rfl))
      try simp only [Act.put, List.setIfInBounds_toArray, List.set_cons_zero, List.set_cons_succ]
      refine give_val (i := 1) (v := ?_) rfl (by kernel_rfl) (by kernel_rfl) (by kernel_rfl) (fun _ _ _ h => h) (by rfl) (fun u hu => ?_) hS ?_
      rotate_left
      · ((obtain ⟨hc, hd⟩ := HCK.out u hu; clear hu); go_simp; try (with_reducible rfl))
      try simp only [Act.put, List.setIfInBounds_toArray, List.set_cons_zero, List.set_cons_succ]
      refine give_val (i := 2) (v := ?_) rfl (by kernel_rfl) (by kernel_rfl) (by kernel_rfl) (fun _ _ _ h => h) (by rfl) (fun u hu => ?_) hS ?_
      rotate_left
      · ((obtain ⟨hc, hd⟩ := HCK.out u hu; clear hu); go_simp; try (with_reducible rfl))
      try simp only [Act.put, List.setIfInBounds_toArray, List.set_cons_zero, List.set_cons_succ]
      refine give_val (i := 3) (v := ?_) rfl (by kernel_rfl) (by kernel_rfl) (by kernel_rfl) (fun _ _ _ h => h) (by rfl) (fun u hu => ?_) hS ?_
      rotate_left
      · ((obtain ⟨hc, hd⟩ := HCK.out u hu; clear hu); go_simp; try (with_reducible rfl))
      try simp only [Act.put, List.setIfInBounds_toArray, List.set_cons_zero, List.set_cons_succ]
      refine give_val (i := 4) (v := ?_) rfl (by kernel_rfl) (by kernel_rfl) (by kernel_rfl) (fun _ _ _ h => h) (by rfl) (fun u hu => ?_) hS ?_
      rotate_left
      · ((obtain ⟨hc, hd⟩ := HCK.out u hu; clear hu); go_simp; try (with_reducible rfl))
      try simp only [Act.put, List.setIfInBounds_toArray, List.set_cons_zero, List.set_cons_succ]
      refine give_val (i := 5) (v := ?_) rfl (by kernel_rfl) (by kernel_rfl) (by kernel_rfl) (fun _ _ _ h => h) (by rfl) (fun u hu => ?_) hS ?_
      rotate_left
      · ((obtain ⟨hc, hd⟩ := HCK.out u hu; clear hu); go_simp; try (with_reducible rfl))
      try simp only [Act.put, List.setIfInBounds_toArray, List.set_cons_zero, List.set_cons_succ]
      refine give_val (i := 7) (v := ?_) rfl (by kernel_rfl) (by kernel_rfl) (by kernel_rfl) (fun _ _ _ h => h) (by rfl) (fun u hu => ?_) hS ?_
      rotate_left
      · ((obtain ⟨hc, hd⟩ := HCK.out u hu; clear hu); go_simp; try (with_reducible rfl))
      try simp only [Act.put, List.setIfInBounds_toArray, List.set_cons_zero, List.set_cons_succ]
      refine give_val (i := 8) (v := ?_) rfl (by kernel_rfl) (by kernel_rfl) (by kernel_rfl) (fun _ _ _ h => h) (by rfl) (fun u hu => ?_) hS ?_
      rotate_left
      · ((obtain ⟨hc, hd⟩ := HCK.out u hu; clear hu); go_simp; try (with_reducible rfl))
      try simp only [Act.put, List.setIfInBounds_toArray, List.set_cons_zero, List.set_cons_succ]
      refine give_val (i := 9) (v := ?_) rfl (by kernel_rfl) (by kernel_rfl) (by kernel_rfl) (fun _ _ _ h => h) (by rfl) (fun u hu => ?_) hS ?_
      rotate_left
      · ((obtain ⟨hc, hd⟩ := HCK.out u hu; clear hu); go_simp; try (with_reducible rfl))
      try simp only [Act.put, List.setIfInBounds_toArray, List.set_cons_zero, List.set_cons_succ]
      refine give_val (i := 10) (v := ?_) rfl (by kernel_rfl) (by kernel_rfl) (by kernel_rfl) (fun _ _ _ h => h) (by rfl) (fun u hu => ?_) hS ?_
      rotate_left
      · ((obtain ⟨hc, hd⟩ := HCK.out u hu; clear hu); go_simp; try (with_reducible rfl))
      try simp only [Act.put, List.setIfInBounds_toArray, List.set_cons_zero, List.set_cons_succ]
      refine give_val (i := 11) (v := ?_) rfl (by kernel_rfl) (by kernel_rfl) (by kernel_rfl) (fun _ _ _ h => h) (by rfl) (fun u hu => ?_) hS ?_
      rotate_left
      · ((obtain ⟨hc, hd⟩ := HCK.out u hu; clear hu); go_simp; try (with_reducible rfl))
      try simp only [Act.put, List.setIfInBounds_toArray, List.set_cons_zero, List.set_cons_succ]
      refine give_val (i := 12) (v := ?_) rfl (by kernel_rfl) (by kernel_rfl) (by kernel_rfl) (fun _ _ _ h => h) (by rfl) (fun u hu => ?_) hS ?_
      rotate_left
      · ((obtain ⟨hc, hd⟩ := HCK.out u hu; clear hu); go_simp; try (with_reducible rfl))
      try simp only [Act.put, List.setIfInBounds_toArray, List.set_cons_zero, List.set_cons_succ]
      refine give_val (i := 15) (v := ?_) rfl (by kernel_rfl) (by kernel_rfl) (by kernel_rfl) (fun _ _ _ h => h) (by rfl) (fun u hu => ?_) hS ?_
      rotate_left
      · ((obtain ⟨hc, hd⟩ := HCK.out u hu; clear hu); go_simp; try (with_reducible rfl))
      try simp only [Act.put, List.setIfInBounds_toArray, List.set_cons_zero, List.set_cons_succ]
      refine give_val (i := 16) (v := ?_) rfl (by kernel_rfl) (by kernel_rfl) (by kernel_rfl) (fun _ _ _ h => h) (by rfl) (fun u hu => ?_) hS ?_
      rotate_left
      · ((obtain ⟨hc, hd⟩ := HCK.out u hu; clear hu); go_simp; try (with_reducible rfl))
      try simp only [Act.put, List.setIfInBounds_toArray, List.set_cons_zero, List.set_cons_succ]
      refine give_val (i := 17) (v := ?_) rfl (by kernel_rfl) (by kernel_rfl) (by kernel_rfl) (fun _ _ _ h => h) (by rfl) (fun u hu => ?_) hS ?_
      rotate_left
      · ((obtain ⟨hc, hd⟩ := HCK.out u hu; clear hu); go_simp; try (with_reducible rfl))
      try simp only [Act.put, List.setIfInBounds_toArray, List.set_cons_zero, List.set_cons_succ]
      refine give_val (i := 18) (v := ?_) rfl (by kernel_rfl) (by kernel_rfl) (by kernel_rfl) (fun _ _ _ h => h) (by rfl) (fun u hu => ?_) hS ?_
      rotate_left
      · ((obtain ⟨hc, hd⟩ := HCK.out u hu; clear hu); go_simp; try (with_reducible rfl))
      try simp only [Act.put, List.setIfInBounds_toArray, List.set_cons_zero, List.set_cons_succ]
      refine give_val (i := 19) (v := ?_) rfl (by kernel_rfl) (by kernel_rfl) (by kernel_rfl) (fun _ _ _ h => h) (by rfl) (fun u hu => ?_) hS ?_
      rotate_left
      · ((obtain ⟨hc, hd⟩ := HCK.out u hu; clear hu); go_simp; try (with_reducible rfl))
      try simp only [Act.put, List.setIfInBounds_toArray, List.set_cons_zero, List.set_cons_succ]
      refine only_call (i := 6) 25 #[.int .i64 (n : Int)] rfl (by kernel_rfl) (by rfl) ((HTP.out _).mono fun e w' he => ⟨he.1, hbt hS he.2⟩) ?_ ?_
      · (go_simp; try (with_reducible rfl))
      clear hS
      intro w6 hS
      try simp only [Act.put, List.setIfInBounds_toArray, List.set_cons_zero, List.set_cons_succ]
      refine only_call (i := 13) 26 #[.int .i64 (s.size : Int)] rfl (by kernel_rfl) (by rfl) ((HBP.out _).mono fun e w' he => ⟨he.1, hbt hS he.2⟩) ?_ ?_
      · (go_simp; try (with_reducible rfl))
      clear hS
      intro w13 hS
      try simp only [Act.put, List.setIfInBounds_toArray, List.set_cons_zero, List.set_cons_succ]
      refine give_val (i := 14) (v := (.string (ta ++ tb))) rfl (by kernel_rfl) (by kernel_rfl) (by kernel_rfl) (fun _ _ _ h => h) (by rfl) (fun u hu => ?_) hS ?_
      · ((obtain ⟨hc, hd⟩ := HCK.out u hu; clear hu); go_simp; omega)
      try simp only [Act.put, List.setIfInBounds_toArray, List.set_cons_zero, List.set_cons_succ]
      refine give_val (i := 20) (v := (.string (ta ++ tb ++ s))) rfl (by kernel_rfl) (by kernel_rfl) (by kernel_rfl) (fun _ _ _ h => h) (by rfl) (fun u hu => ?_) hS ?_
      · ((obtain ⟨hc, hd⟩ := HCK.out u hu; clear hu); go_simp; omega)
      try simp only [Act.put, List.setIfInBounds_toArray, List.set_cons_zero, List.set_cons_succ]
      refine give_val (i := 21) (v := (.string (acc ++ (ta ++ tb ++ s)))) rfl (by kernel_rfl) (by kernel_rfl) (by kernel_rfl) (fun _ _ _ h => h) (by rfl) (fun u hu => ?_) hS ?_
      · ((obtain ⟨hc, hd⟩ := HCK.out u hu; clear hu); go_simp; omega)
      try simp only [Act.put, List.setIfInBounds_toArray, List.set_cons_zero, List.set_cons_succ]
      refine give_val (i := 22) (v := ?_) rfl (by kernel_rfl) (by kernel_rfl) (by kernel_rfl) (fun _ _ _ h => h) (by rfl) (fun u hu => ?_) hS ?_
      rotate_left
      · ((obtain ⟨hc, hd⟩ := HCK.out u hu; clear hu); go_simp; try (with_reducible rfl))
      try simp only [Act.put, List.setIfInBounds_toArray, List.set_cons_zero, List.set_cons_succ]
      refine wpAnyH_done (by kernel_rfl) (NoPanic.normal ?_) _
      have HB2 := Lib.hid hS
      clear hS
      go_wp2
      go_roundw
      case rel =>
        refine ⟨k + 1, _, by omega, by go_num, rfl, ?_, HB2.out⟩
        rw [HQ.out, ← HA.out]
        simp
      case measure => simp [intOf]; omega
    · have hkl : l.take k = l := List.take_of_length_le (by have := HLEN.out; omega)
      rw [hkl] at HA
      clear hkl
      go_wp2
      go_ret
      refine ⟨?_, HB.out⟩
      rw [← HA.out]
      rfl

end Go.Proofs.Ytldicdjkgoncoaa
