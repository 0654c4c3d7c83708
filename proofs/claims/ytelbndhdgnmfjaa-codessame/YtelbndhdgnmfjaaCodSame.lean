/-
  CodesSame: for every input, in every world.
-/
import Derived.Test.YtelbndhdgnmfjaaCodAwake
import Derived.Test.YtelbndhdgnmfjaaRegHeld
namespace Go.Proofs.Ytelbndhdgnmfjaa
open Go.RowKit

set_option maxRecDepth 100000 in
set_option maxHeartbeats 1600000 in
theorem csm_great (A : Option Addr) (cap : Nat) (l : List Duo) (t : ByteArray) (z : Int) (w : World) (hI : Prs w A l) (hm : l.length ≤ maxLen) (hf : Fit2 l) (hg : cgreatB l = true) : Calls Try.prog 7 #[.slice A l.length cap, .string t, .int .i64 z] w fun e w' => e = .returned (.bool true) ∧ Below w.heap.size w w' := by
  have HI := Lib.hid hI
  have HK := Lib.hid (fun W h => ccheck_any A cap l W h hm hf)
  have HG := Lib.hid (fun W h => cgreat_any A cap l W h hm hf)
  rw [hg] at HG
  clear hI hg hm hf
  generalize (tabN l).1 = x at *
  generalize (tabN l).2 = y at *
  generalize l.length = len at *
  go_enter Try.func7, Try.ntmps7
  go_wp2_with fail
  refine (HK.out _ HI.out).mono ?_
  rintro e w1 ⟨rfl, hb1⟩
  have HB1 := Lib.hid hb1
  clear hb1
  go_wp2_with fail
  refine (cawake_any _).mono ?_
  rintro e w2 ⟨rfl, hb2⟩
  have HB2 := Lib.hid (hbt HB1.out hb2)
  clear hb2
  go_wp2_with fail
  refine (HG.out _ (HI.out.below HB2.out)).mono ?_
  rintro e w3 ⟨rfl, hb3⟩
  have HB3 := Lib.hid (hbt HB2.out hb3)
  clear hb3
  go_wp2_with fail
  refine (cawake_any _).mono ?_
  rintro e w4 ⟨rfl, hb4⟩
  have HB4 := Lib.hid (hbt HB3.out hb4)
  clear hb4
  go_wp2
  go_ret
  exact ⟨rfl, HB4.out⟩
set_option maxRecDepth 100000 in
set_option maxHeartbeats 1600000 in
theorem csm_long (A : Option Addr) (cap : Nat) (l : List Duo) (t : ByteArray) (z : Int) (w : World) (hI : Prs w A l) (hm : l.length ≤ maxLen) (hf : Fit2 l) (hg : cgreatB l = false) (ht : t.size ≤ maxLen) (hlt : 1000 < t.size) : Calls Try.prog 7 #[.slice A l.length cap, .string t, .int .i64 z] w fun e w' => e = .returned (.bool true) ∧ Below w.heap.size w w' := by
  have HI := Lib.hid hI
  have HK := Lib.hid (fun W h => ccheck_any A cap l W h hm hf)
  have HG := Lib.hid (fun W h => cgreat_any A cap l W h hm hf)
  rw [hg] at HG
  unfold maxLen at ht
  clear hI hg hm hf
  generalize (tabN l).1 = x at *
  generalize (tabN l).2 = y at *
  generalize l.length = len at *
  go_enter Try.func7, Try.ntmps7
  go_wp2_with fail
  refine (HK.out _ HI.out).mono ?_
  rintro e w1 ⟨rfl, hb1⟩
  have HB1 := Lib.hid hb1
  clear hb1
  go_wp2_with fail
  refine (cawake_any _).mono ?_
  rintro e w2 ⟨rfl, hb2⟩
  have HB2 := Lib.hid (hbt HB1.out hb2)
  clear hb2
  go_wp2_with fail
  refine (HG.out _ (HI.out.below HB2.out)).mono ?_
  rintro e w3 ⟨rfl, hb3⟩
  have HB3 := Lib.hid (hbt HB2.out hb3)
  clear hb3
  go_wp2_with fail
  refine (cawake_any _).mono ?_
  rintro e w4 ⟨rfl, hb4⟩
  have HB4 := Lib.hid (hbt HB3.out hb4)
  clear hb4
  go_wp2
  go_ret
  exact ⟨rfl, HB4.out⟩
set_option maxRecDepth 100000 in
set_option maxHeartbeats 1600000 in
theorem csm_wrong (A : Option Addr) (cap : Nat) (l : List Duo) (t : ByteArray) (z : Int) (w : World) (hI : Prs w A l) (hm : l.length ≤ maxLen) (hf : Fit2 l) (hg : cgreatB l = false) (ht : t.size ≤ 1000) (hx : (tabN l).1 ≠ 0) : Calls Try.prog 7 #[.slice A l.length cap, .string t, .int .i64 z] w fun e w' => e = .returned (.bool true) ∧ Below w.heap.size w w' := by
  have HI := Lib.hid hI
  have HK := Lib.hid (fun W h => ccheck_any A cap l W h hm hf)
  have HG := Lib.hid (fun W h => cgreat_any A cap l W h hm hf)
  rw [hg] at HG
  have tx : (((tabN l).1 : Int) != 0) = true := by simp; omega
  clear hI hg hm hf hx
  generalize (tabN l).1 = x at *
  generalize (tabN l).2 = y at *
  generalize l.length = len at *
  go_enter Try.func7, Try.ntmps7
  go_wp2_with fail
  refine (HK.out _ HI.out).mono ?_
  rintro e w1 ⟨rfl, hb1⟩
  have HB1 := Lib.hid hb1
  clear hb1
  go_wp2_with fail
  refine (cawake_any _).mono ?_
  rintro e w2 ⟨rfl, hb2⟩
  have HB2 := Lib.hid (hbt HB1.out hb2)
  clear hb2
  go_wp2_with fail
  refine (HG.out _ (HI.out.below HB2.out)).mono ?_
  rintro e w3 ⟨rfl, hb3⟩
  have HB3 := Lib.hid (hbt HB2.out hb3)
  clear hb3
  go_wp2_with fail
  refine (cawake_any _).mono ?_
  rintro e w4 ⟨rfl, hb4⟩
  have HB4 := Lib.hid (hbt HB3.out hb4)
  clear hb4
  go_wp2
  go_ret
  exact ⟨rfl, HB4.out⟩
set_option maxRecDepth 100000 in
set_option maxHeartbeats 1600000 in
theorem csm_none (A : Option Addr) (cap : Nat) (t : ByteArray) (z : Int) (w : World) (ht : t.size ≤ 1000) : Calls Try.prog 7 #[.slice A 0 cap, .string t, .int .i64 z] w fun e w' => e = .returned (.bool true) ∧ Below w.heap.size w w' := by
  have HI := Lib.hid (prs_nil w A)
  have HK := Lib.hid (fun W h => ccheck_any A cap [] W h (Nat.zero_le _) (fun x hx => by simp at hx))
  have HG := Lib.hid (fun W h => cgreat_any A cap [] W h (Nat.zero_le _) (fun x hx => by simp at hx))
  rw [cgreat_miss (Nat.zero_le _) (fun j hj => by simp at hj)] at HG
  rw [show tabN [] = (0, 0) from rfl] at HK
  dsimp only [List.length_nil] at HK HG
  go_enter Try.func7, Try.ntmps7
  go_wp2_with fail
  refine (HK.out _ HI.out).mono ?_
  rintro e w1 ⟨rfl, hb1⟩
  have HB1 := Lib.hid hb1
  clear hb1
  go_wp2_with fail
  refine (cawake_any _).mono ?_
  rintro e w2 ⟨rfl, hb2⟩
  have HB2 := Lib.hid (hbt HB1.out hb2)
  clear hb2
  go_wp2_with fail
  refine (HG.out _ (HI.out.below HB2.out)).mono ?_
  rintro e w3 ⟨rfl, hb3⟩
  have HB3 := Lib.hid (hbt HB2.out hb3)
  clear hb3
  go_wp2_with fail
  refine (cawake_any _).mono ?_
  rintro e w4 ⟨rfl, hb4⟩
  have HB4 := Lib.hid (hbt HB3.out hb4)
  clear hb4
  go_wp2
  go_ret
  exact ⟨rfl, HB4.out⟩
theorem rot_k (z : Int) (n : Nat) (hn : 0 < n) (hn2 : n ≤ 256) : ∃ u k : Nat, IntKind.u64.wrap z = (u : Int) ∧ IntKind.u64.wrap (n : Int) = (n : Int) ∧ (u : Int).tmod (n : Int) = (k : Int) ∧ IntKind.u64.wrap (k : Int) = (k : Int) ∧ IntKind.i64.wrap (k : Int) = (k : Int) ∧ k < n := by
  have h0 : IntKind.u64.wrap z = z % 18446744073709551616 := by rw [IntKind.wrap_u64]
  obtain ⟨u, hu⟩ : ∃ u : Nat, IntKind.u64.wrap z = (u : Int) := ⟨(IntKind.u64.wrap z).toNat, by rw [h0]; omega⟩
  have hk : u % n < n := Nat.mod_lt _ hn
  refine ⟨u, u % n, hu, ?_, ?_, ?_, ?_, hk⟩
  · rw [IntKind.wrap_u64]; omega
  · rw [Int.tmod_eq_emod_of_nonneg (by omega)]; omega
  · rw [IntKind.wrap_u64]; omega
  · rw [IntWalk.i64_in _ (by omega)]
theorem pown_some {w : World} {base e size n c : Nat} {A : Option Addr} {xs : List Value} (h : w.ownsRow base e size (.slice A n c) n xs) (hn : 0 < n) : ∃ g, A = some ⟨g, 0, none⟩ := by
  rcases h.2 with ⟨_, h0⟩ | ⟨g, cap, cur, h1, _⟩
  · omega
  · injection h1 with h1
    exact ⟨g, h1⟩
/-- 'l[k:]' and 'l[:k]' of a slice of pairs. -/
theorem pcut_head (a : Addr) (n cap k : Nat) (hk : k ≤ cap) (W : World) : (Instr.slice 22 (.slice (some a) n cap) none (some (.int .i64 (k : Int))) none).run Try.prog W = .ok (.slice (some a) k cap) W := by
  obtain ⟨i0, hi, hz0, hz1, hz2⟩ := info_parts Try.infoPair
  rw [run_slice_h W 22 (some a) n cap (by kernel_rfl) .i64 (k : Int) (by omega) (by omega), show Try.prog.elem 22 = 40 by kernel_rfl, run_sizeOf W hi]
  simp [sliced, Result.andThen, Addr.add]
theorem pcut_tail (a : Addr) (n cap k : Nat) (hk : k < n) (hc : n ≤ cap) (W : World) : (Instr.slice 22 (.slice (some a) n cap) (some (.int .i64 (k : Int))) none none).run Try.prog W = .ok (.slice (some (a.add (k * 2))) (n - k) (cap - k)) W := by
  obtain ⟨i0, hi, hz0, hz1, hz2⟩ := info_parts Try.infoPair
  rw [run_slice_l W 22 (some a) n cap (by kernel_rfl) .i64 (k : Int) (by omega) (by omega), show Try.prog.elem 22 = 40 by kernel_rfl, run_sizeOf W hi, show Try.prog.cellsOf 40 = 2 by kernel_rfl]
  have : ¬ cap = k := by omega
  simp [sliced, Result.andThen, this]
set_option maxRecDepth 100000 in
set_option maxHeartbeats 3200000 in
theorem csm_main (A : Option Addr) (cap : Nat) (l : List Duo) (t : ByteArray) (z : Int) (w : World) (hI : Prs w A l) (hm : l.length ≤ maxLen) (hf : Fit2 l) (hg : cgreatB l = false) (ht : t.size ≤ 1000) (hx : (tabN l).1 = 0) (hpos : 0 < l.length) (hcap : l.length ≤ cap) : Calls Try.prog 7 #[.slice A l.length cap, .string t, .int .i64 z] w fun e w' => e = .returned (.bool true) ∧ Below w.heap.size w w' := by
  have hl := (tab_zero.1 hx).1
  obtain ⟨a, rfl, hx0⟩ := hI 0 hpos
  clear hx0
  have HI := Lib.hid hI
  have HK := Lib.hid (fun W h => ccheck_any (some a) cap l W h hm hf)
  have HG := Lib.hid (fun W h => cgreat_any (some a) cap l W h hm hf)
  rw [hg] at HG
  obtain ⟨u, k, e1, e2, e3, e4, e5, hkl⟩ := rot_k z l.length hpos hl
  have HA := Lib.hid (fun W h => capply_any (some a) cap l t W h (by omega))
  have HA2 := Lib.hid (fun W B c h => capply_any B c (rotL k l) t W h (by rw [rot_len]; omega))
  have HK2 := Lib.hid (fun W B c h => ccheck_any B c (rotL k l) W h (by rw [rot_len]; exact hm) (hf.rot k))
  have HC := Lib.hid (fun W c h => ccopy_any (some (a.add (k * 2))) c (l.drop k) W h (by rw [List.length_drop]; omega))
  have HTL := Lib.hid (fun W (h : Prs W (some a) l) => h.tail k)
  have HTH := Lib.hid (fun W (h : Prs W (some a) l) => h.head k)
  have hcu1 := fun W => pcut_tail a l.length cap k hkl hcap W
  have hcu2 := fun W => pcut_head a l.length cap k (by omega) W
  have HLD : Hid ((l.drop k).length = l.length - k) := by show _ = _; rw [List.length_drop]
  have HLT : Hid ((l.take k).length = k) := by show _ = _; rw [List.length_take]; omega
  have HROT : Hid (rotL k l = l.drop k ++ l.take k) := rfl
  have HRN : Hid ((rotL k l).length = l.length) := by show _ = _; rw [rot_len]
  rw [rot_len, (rot_app hx t).1, (rot_app hx t).2] at HA2
  rw [rot_len, rot_tab hx] at HK2
  rw [tab_none hx] at HK
  rw [HLD.out] at HC
  dsimp only at HK HK2
  clear hg hm hf hx hI
  generalize appS l t = s at *
  generalize appB l t = b at *
  generalize l.length = len at *
  have hk0 : (k : Int) ≤ (len : Int) := by omega
  have hlk : len - k + k = len := by omega
  have ht1 : decide ((1000 : Int) < (t.size : Int)) = false := by simp; omega
  have hl1 : ((len : Int) == 0) = false := by simp; omega
  have HCS : Hid (∀ (W : World) (c : Nat), Prs W (some (a.add (k * 2))) (l.drop k) → Calls Try.prog 11 #[.slice (some (a.add (k * 2))) (len - k) c] W fun e w' => ∃ v, e = .returned v ∧ ∃ A' c', v = .slice A' (len - k) c' ∧ w'.ownsRow W.heap.size 40 2 (.slice A' (len - k) c') (len - k) (duosC (l.drop k)) ∧ Below W.heap.size W w') := fun W c h => (HC.out W c h).mono fun e w' ⟨A', c', h1, h2, h3⟩ => ⟨_, h1, A', c', rfl, h2, h3⟩
  go_enter Try.func7, Try.ntmps7
  go_wp2_with fail
  refine (HK.out _ HI.out).mono ?_
  rintro e w1 ⟨rfl, hb1⟩
  have HB1 := Lib.hid hb1
  clear hb1
  go_wp2_with fail
  refine (cawake_any _).mono ?_
  rintro e w2 ⟨rfl, hb2⟩
  have HB2 := Lib.hid (hbt HB1.out hb2)
  clear hb2
  go_wp2_with fail
  refine (HG.out _ (HI.out.below HB2.out)).mono ?_
  rintro e wC ⟨rfl, hb3⟩
  have HBC := Lib.hid (hbt HB2.out hb3)
  clear hb3
  go_wp2_with fail
  refine wp_region_noPanic ?_
  refine wp_region_held_drew (S := (fun u => Below wC.heap.size wC u)) (by kernel_rfl) ((Below.refl _ _).drew) (fun hS => ?_)
  refine give_val (i := 0) (v := ?_) rfl (by kernel_rfl) (by kernel_rfl) (by kernel_rfl) (fun _ _ _ h => h) (by rfl) (fun u hu => ?_) hS ?_
  rotate_left
  · (skip; go_simp; try (with_reducible rfl))
  try simp only [Act.put, List.setIfInBounds_toArray, List.set_cons_zero, List.set_cons_succ]
  refine give_val (i := 1) (v := ?_) rfl (by kernel_rfl) (by kernel_rfl) (by kernel_rfl) (fun _ _ _ h => h) (by rfl) (fun u hu => ?_) hS ?_
  rotate_left
  · (skip; go_simp; try (with_reducible rfl))
  try simp only [Act.put, List.setIfInBounds_toArray, List.set_cons_zero, List.set_cons_succ]
  refine give_val (i := 2) (v := ?_) rfl (by kernel_rfl) (by kernel_rfl) (by kernel_rfl) (fun _ _ _ h => h) (by rfl) (fun u hu => ?_) hS ?_
  rotate_left
  · (skip; go_simp; try (with_reducible rfl))
  try simp only [Act.put, List.setIfInBounds_toArray, List.set_cons_zero, List.set_cons_succ]
  refine give_val (i := 4) (v := ?_) rfl (by kernel_rfl) (by kernel_rfl) (by kernel_rfl) (fun _ _ _ h => h) (by rfl) (fun u hu => ?_) hS ?_
  rotate_left
  · (skip; go_simp; try (with_reducible rfl))
  try simp only [Act.put, List.setIfInBounds_toArray, List.set_cons_zero, List.set_cons_succ]
  refine give_val (i := 5) (v := ?_) rfl (by kernel_rfl) (by kernel_rfl) (by kernel_rfl) (fun _ _ _ h => h) (by rfl) (fun u hu => ?_) hS ?_
  rotate_left
  · (skip; go_simp; try (with_reducible rfl))
  try simp only [Act.put, List.setIfInBounds_toArray, List.set_cons_zero, List.set_cons_succ]
  refine give_val (i := 6) (v := ?_) rfl (by kernel_rfl) (by kernel_rfl) (by kernel_rfl) (fun _ _ _ h => h) (by rfl) (fun u hu => ?_) hS ?_
  rotate_left
  · (skip; go_simp; try (with_reducible rfl))
  try simp only [Act.put, List.setIfInBounds_toArray, List.set_cons_zero, List.set_cons_succ]
  refine only_some (i := 3) 11 #[.slice (some (a.add (k * 2))) (len - k) (cap - k)] rfl (by kernel_rfl) (by rfl) ((HCS.out _ _ (HTL.out _ (HI.out.below (hbt HBC.out hS))))) ?_ ?_
  · (go_simp; try (with_reducible rfl))
  intro v3 w3 hT
  obtain ⟨A', c', rfl, hown, hb⟩ := hT
  have hS' := hbt hS hb
  refine ⟨hS', ?_⟩
  clear hS
  have hS := hS'; clear hS'
  try simp only [Act.put, List.setIfInBounds_toArray, List.set_cons_zero, List.set_cons_succ]
  obtain ⟨g, rfl⟩ := pown_some hown (by omega)
  have HW3 := Lib.hid hown
  clear hown
  refine only (i := 7) rfl (by kernel_rfl) (by rfl) (fun K hK => ?_)
  refine wp_app_prs _ _ (by rfl) _ wC.heap.size g c' (len - k) (by rfl) (l.drop k) HW3.out a k cap (by rfl) (l.take k) HLT.out (HTH.out _ (HI.out.below (hbt HBC.out hS))) (by omega) hS.size ?_
  intro A7 c7 w7 hown7 hb7
  rw [hlk] at hown7 ⊢
  rw [← HROT.out] at hown7
  have HP7 := Lib.hid (prs_row hown7 HRN.out.symm)
  have hS7 : Below wC.heap.size wC w7 := hS.trans hb7
  clear hown7 hb7
  refine hK.out _ _ hS7 ?_
  clear hK
  try simp only [Act.put, List.setIfInBounds_toArray, List.set_cons_zero, List.set_cons_succ]
  clear hS
  have hS := hS7
  clear hS7
  refine give_val (i := 8) (v := ?_) rfl (by kernel_rfl) (by kernel_rfl) (by kernel_rfl) (fun _ _ _ h => h) (by rfl) (fun u hu => ?_) hS ?_
  rotate_left
  · (skip; go_simp; try (with_reducible rfl))
  try simp only [Act.put, List.setIfInBounds_toArray, List.set_cons_zero, List.set_cons_succ]
  refine wpAnyH_done (by kernel_rfl) (NoPanic.normal ?_) _
  have HB7 := Lib.hid (hbt HBC.out hS)
  clear hS
  go_wp2_with fail
  refine (HA.out _ (HI.out.below HB7.out)).mono ?_
  rintro e w8 ⟨rfl, hb8⟩
  have HP8 := Lib.hid (HP7.out.below hb8)
  have HB8 := Lib.hid (hbt HB7.out hb8)
  clear hb8
  go_wp2_with fail
  refine (HA2.out _ _ _ HP8.out).mono ?_
  rintro e w9 ⟨rfl, hb9⟩
  have HP9 := Lib.hid (HP8.out.below hb9)
  have HB9 := Lib.hid (hbt HB8.out hb9)
  clear hb9
  go_wp2_with fail
  refine (HK2.out _ _ _ HP9.out).mono ?_
  rintro e w10 ⟨rfl, hb10⟩
  have HB10 := Lib.hid (hbt HB9.out hb10)
  clear hb10
  go_wp2
  go_ret
  exact ⟨by simp, HB10.out⟩
theorem codesSame_walk (A : Option Addr) (cap : Nat) (l : List Duo) (t : ByteArray) (z : Int) (w : World) (hI : Prs w A l) (hm : l.length ≤ maxLen) (hf : Fit2 l) (hcap : l.length ≤ cap) (ht : t.size ≤ maxLen) (_ : -9223372036854775808 ≤ z) (_ : z ≤ 9223372036854775807) : Calls Try.prog 7 #[.slice A l.length cap, .string t, .int .i64 z] w fun e w' => e = .returned (.bool true) ∧ Below w.heap.size w w' := by
  cases hg : cgreatB l
  · by_cases hlt : 1000 < t.size
    · exact csm_long A cap l t z w hI hm hf hg ht hlt
    · have ht' : t.size ≤ 1000 := by omega
      by_cases hx : (tabN l).1 = 0
      · by_cases hpos : 0 < l.length
        · exact csm_main A cap l t z w hI hm hf hg ht' hx hpos hcap
        · obtain rfl : l = [] := List.eq_nil_of_length_eq_zero (by omega)
          exact csm_none A cap t z w ht'
      · exact csm_wrong A cap l t z w hI hm hf hg ht' hx
  · exact csm_great A cap l t z w hI hm hf hg

end Go.Proofs.Ytelbndhdgnmfjaa
