/-
  The laws of layer 3 that follow: each returns true, for every input, in every world.
-/
import Derived.Test.YtbgllhgkalachaaBcdLaws
namespace Go.Proofs.Ytbgllhgkalachaa
open Go.RowKit

theorem packL_size (l : List UInt8) : (⟨(packL l).toArray⟩ : ByteArray).size = (l.length + 1) / 2 := by
  show (packL l).toArray.size = _; rw [List.size_toArray, packL_length]

theorem take_extract (b : ByteArray) (t : Nat) : b.data.toList.take t = (b.extract 0 t).toList := by
  rw [ByteArray.toList_eq, ByteArray.data_extract, Array.toList_extract]; simp

set_option maxHeartbeats 1000000 in
theorem bback_law (s more : ByteArray) (w : World) (hs : s.size ≤ maxLen) (hm : more.size ≤ maxLen) : Calls Try.prog 5 #[.string s, .string more] w fun e w' => e = .returned (.bool true) ∧ Below w.heap.size w w' := by
  have HA := Lib.hid (fun w => refAll_any s w hs)
  unfold maxLen at hs hm
  by_cases h : 999 < s.size
  · have t1 : decide ((999 : Int) < (s.size : Int)) = true := by simp; omega
    go_enter Try.func5, Try.ntmps5
    go_wp2_with fail
    refine (bawake_any _).mono ?_
    rintro e w1 ⟨rfl, hb1⟩
    go_wp2_with fail
    refine (bawake_any _).mono ?_
    rintro e w2 ⟨rfl, hb2⟩
    go_wp2_with fail
    go_ret
    exact ⟨rfl, hbt hb1 hb2⟩
  · have t1 : decide ((999 : Int) < (s.size : Int)) = false := by simp; omega
    by_cases h2 : 100 < more.size
    · have t2 : decide ((100 : Int) < (more.size : Int)) = true := by simp; omega
      go_enter Try.func5, Try.ntmps5
      go_wp2_with fail
      refine (bawake_any _).mono ?_
      rintro e w1 ⟨rfl, hb1⟩
      go_wp2_with fail
      refine (bawake_any _).mono ?_
      rintro e w2 ⟨rfl, hb2⟩
      go_wp2_with fail
      go_ret
      exact ⟨rfl, hbt hb1 hb2⟩
    · have t2 : decide ((100 : Int) < (more.size : Int)) = false := by simp; omega
      cases hd : allD s.data.toList
      · rw [hd] at HA
        clear hd
        go_enter Try.func5, Try.ntmps5
        go_wp2_with fail
        refine (bawake_any _).mono ?_
        rintro e w1 ⟨rfl, hb1⟩
        go_wp2_with fail
        refine (HA.out _).mono ?_
        rintro e w1 ⟨rfl, rfl⟩
        go_wp2_with fail
        refine (bawake_any _).mono ?_
        rintro e w2 ⟨rfl, hb2⟩
        go_wp2_with fail
        go_ret
        exact ⟨rfl, hbt hb1 hb2⟩
      · rw [hd] at HA
        have hl : s.data.toList.length = s.size := by simp
        have HP := Lib.hid (fun w => bput_yes s w (bputB_yes (by omega) hd))
        have hsz := packL_size s.data.toList
        rw [hl] at hsz
        have HZ := Lib.hid (fun w => size_nat s.size w (by omega))
        have HG : Hid (∀ w, Calls Try.prog 11 #[.string (⟨(packL s.data.toList).toArray⟩ ++ more), .int .i64 (s.size : Int)] w fun e w' => e = .returned (.tuple #[.string s, .int .i64 0, .int .i64 0]) ∧ Below w.heap.size w w') := by
          intro w
          have h := bget_any (⟨(packL s.data.toList).toArray⟩ ++ more) (s.size : Int) w
          have e1 : (⟨(packL s.data.toList).toArray⟩ ++ more : ByteArray).data.toList = packL s.data.toList ++ more.data.toList := by simp
          have e2 := bget_packL hd (by omega) more.data.toList
          rw [hl] at e2
          rw [e1, e2] at h
          exact h
        clear hd hl
        generalize (⟨(packL s.data.toList).toArray⟩ : ByteArray) = x at HP HG hsz
        have hadd : ∀ W : World, (Op.stringOp .add x more).run Try.prog W = .ok (.string (x ++ more)) W := fun W => run_string_add_sum W x more (by omega)
        have hxs : x.size ≤ 500 := by omega
        rw [← hsz] at HZ
        clear hsz
        go_enter Try.func5, Try.ntmps5
        go_wp2_with fail
        refine (bawake_any _).mono ?_
        rintro e w1 ⟨rfl, hb1⟩
        go_wp2_with fail
        refine (HA.out _).mono ?_
        rintro e w1 ⟨rfl, rfl⟩
        go_wp2_with fail
        refine (HP.out _).mono ?_
        rintro e w2 ⟨rfl, hb2⟩
        go_wp2_with fail
        refine (HG.out _).mono ?_
        rintro e w3 ⟨rfl, hb3⟩
        go_wp2_with fail
        refine (HZ.out _).mono ?_
        rintro e w4 ⟨rfl, rfl⟩
        go_wp2_with fail
        go_ret
        exact ⟨by simp, hbt (hbt hb1 hb2) hb3⟩

set_option maxHeartbeats 1000000 in
theorem bone_law (b : ByteArray) (n : Int) (w : World) (hs : b.size ≤ maxLen) (_ : -9223372036854775808 ≤ n) (_ : n ≤ 9223372036854775807) : Calls Try.prog 6 #[.string b, .int .i64 n] w fun e w' => e = .returned (.bool true) ∧ Below w.heap.size w w' := by
  have hg := fun w => bget_any b n w
  unfold maxLen at hs
  unfold bgetV at hg
  have hbl : b.data.toList.length = b.size := by simp
  by_cases h : 600 < b.size
  · have t1 : decide ((600 : Int) < (b.size : Int)) = true := by simp; omega
    clear hg
    go_enter Try.func6, Try.ntmps6
    go_wp2_with fail
    refine (bawake_any _).mono ?_
    rintro e w1 ⟨rfl, hb1⟩
    go_wp2_with fail
    refine (bawake_any _).mono ?_
    rintro e w2 ⟨rfl, hb2⟩
    go_wp2_with fail
    go_ret
    exact ⟨rfl, hbt hb1 hb2⟩
  · have t1 : decide ((600 : Int) < (b.size : Int)) = false := by simp; omega
    by_cases hz : (bget b.data.toList n).2.1 = 0
    · obtain ⟨m, rfl, hm, hl, g1, g2⟩ := bget_zero hz
      have hbo := bget_ok hm hl g1 g2
      rw [hbo] at hg
      rw [hbl] at hl
      have HG := Lib.hid hg
      have hp := fun w => bput_yes ⟨(bgetL b.data.toList m).toArray⟩ w (bputB_yes (by simp [bgetL_length]; omega) (by simpa using bgetL_all g2))
      have e1 : (⟨(bgetL b.data.toList m).toArray⟩ : ByteArray).data.toList = bgetL b.data.toList m := by simp
      rw [e1, packL_bgetL (by rw [hbl]; exact hl) g1] at hp
      have HP := Lib.hid hp
      have hsx : (⟨(bgetL b.data.toList m).toArray⟩ : ByteArray).size = m := by show (bgetL b.data.toList m).toArray.size = _; rw [List.size_toArray, bgetL_length]
      have HZ := Lib.hid (fun w => size_nat m w (by omega))
      clear hg hz g1 g2 hbo hp e1
      generalize (⟨(bgetL b.data.toList m).toArray⟩ : ByteArray) = x at HG HP hsx
      generalize (m + 1) / 2 = t at *
      go_enter Try.func6, Try.ntmps6
      go_wp2_with fail
      refine (bawake_any _).mono ?_
      rintro e w1 ⟨rfl, hb1⟩
      go_wp2_with fail
      refine (HG.out _).mono ?_
      rintro e w2 ⟨rfl, hb2⟩
      go_wp2_with fail
      refine (HP.out _).mono ?_
      rintro e w3 ⟨rfl, hb3⟩
      go_wp2_with fail
      refine (HZ.out _).mono ?_
      rintro e w4 ⟨rfl, rfl⟩
      go_wp2_with fail
      refine (HZ.out _).mono ?_
      rintro e w4 ⟨rfl, rfl⟩
      go_wp2_with fail
      go_ret
      exact ⟨by rw [take_extract]; simp, hbt (hbt hb1 hb2) hb3⟩
    · have he := bget_empty hz
      rw [he] at hg
      have hz' : ((bget b.data.toList n).2.1 : Int) ≠ 0 := by omega
      generalize (bget b.data.toList n).2.1 = y at *
      generalize (bget b.data.toList n).2.2 = z at *
      have HG := Lib.hid hg
      clear hg he hz
      go_enter Try.func6, Try.ntmps6
      go_wp2_with fail
      refine (bawake_any _).mono ?_
      rintro e w1 ⟨rfl, hb1⟩
      go_wp2_with fail
      refine (HG.out _).mono ?_
      rintro e w2 ⟨rfl, hb2⟩
      go_wp2_with fail
      go_ret
      exact ⟨by simp, hbt hb1 hb2⟩

/-- Bytes of one length compare as their numbers do, where each byte compares as its worth. -/
theorem less_val (B : Nat) (f : UInt8 → Nat) (p : UInt8 → Bool) (hB : ∀ x, p x = true → f x < B) (hp : ∀ x y, p x = true → p y = true → (x < y ↔ f x < f y) ∧ (x = y ↔ f x = f y)) : ∀ (a b : List UInt8), a.length = b.length → a.all p = true → b.all p = true →
    Op.bytesLess a b = decide (valN B (a.map f) < valN B (b.map f)) ∧ (a == b) = decide (valN B (a.map f) = valN B (b.map f))
  | [], [], _, _, _ => by simp [Op.bytesLess]
  | [], _ :: _, h, _, _ => by simp at h
  | _ :: _, [], h, _, _ => by simp at h
  | x :: a, y :: b, h, ha, hb => by
    rw [List.all_cons, Bool.and_eq_true] at ha hb
    have hl : a.length = b.length := by simpa using h
    obtain ⟨i1, i2⟩ := less_val B f p hB hp a b hl ha.2 hb.2
    obtain ⟨p1, p2⟩ := hp x y ha.1 hb.1
    have va := valN_lt B (a.map f) (by intro z hz; rw [List.mem_map] at hz; obtain ⟨c, hc, rfl⟩ := hz; exact hB c (List.all_eq_true.1 ha.2 c hc))
    have vb := valN_lt B (b.map f) (by intro z hz; rw [List.mem_map] at hz; obtain ⟨c, hc, rfl⟩ := hz; exact hB c (List.all_eq_true.1 hb.2 c hc))
    rw [List.length_map] at va vb
    rw [hl] at va
    rw [Op.bytesLess, i1, List.map_cons, List.map_cons, valN_cons, valN_cons, List.length_map, List.length_map, hl, show (x :: a == y :: b) = ((x == y) && (a == b)) from rfl, i2]
    have e1 : decide (x < y) = decide (f x < f y) := by rw [Bool.eq_iff_iff, decide_eq_true_eq, decide_eq_true_eq]; exact p1
    have e2 : (x == y) = decide (f x = f y) := by rw [Bool.eq_iff_iff, decide_eq_true_eq, beq_iff_eq]; exact p2
    rw [e1, e2]
    generalize f x = u
    generalize f y = v
    generalize valN B (a.map f) = r at *
    generalize valN B (b.map f) = t at *
    generalize B ^ b.length = q at *
    rcases Nat.lt_trichotomy u v with h | h | h
    · have : (u + 1) * q ≤ v * q := Nat.mul_le_mul_right q h
      rw [Nat.add_mul, Nat.one_mul] at this
      have e3 : ¬ u = v := by omega
      have e4 : u * q + r < v * q + t := by omega
      have e5 : ¬ u * q + r = v * q + t := by omega
      simp [h, e3, e4, e5]
    · subst h; simp
    · have : (v + 1) * q ≤ u * q := Nat.mul_le_mul_right q h
      rw [Nat.add_mul, Nat.one_mul] at this
      have e3 : ¬ u = v := by omega
      have e6 : ¬ u < v := by omega
      have e4 : ¬ u * q + r < v * q + t := by omega
      have e5 : ¬ u * q + r = v * q + t := by omega
      simp [e6, e3, e4, e5]
theorem less_packL {a b : List UInt8} (h : a.length = b.length) (ha : allD a = true) (hb : allD b = true) :
    Op.bytesLess (packL a) (packL b) = Op.bytesLess a b ∧ (packL a == packL b) = (a == b) := by
  obtain ⟨i1, i2⟩ := less_val 256 UInt8.toNat (fun _ => true) (fun x _ => x.toNat_lt) (fun x y _ _ => ⟨UInt8.lt_iff_toNat_lt, UInt8.toNat_inj.symm⟩) (packL a) (packL b) (by rw [packL_length, packL_length, h]) (by simp) (by simp)
  obtain ⟨j1, j2⟩ := less_val 16 dv isD (fun x hx => by have := dv_lt hx; omega) (fun x y hx hy => by
    rw [isD_iff] at hx hy
    rw [UInt8.lt_iff_toNat_lt, ← UInt8.toNat_inj]
    unfold dv
    omega) a b h ha hb
  rw [i1, i2, j1, j2, val_packL a ha, val_packL b hb]
  exact ⟨rfl, rfl⟩

set_option maxHeartbeats 1000000 in
theorem border_law (s t : ByteArray) (w : World) (hs : s.size ≤ maxLen) (ht : t.size ≤ maxLen) : Calls Try.prog 7 #[.string s, .string t] w fun e w' => e = .returned (.bool true) ∧ Below w.heap.size w w' := by
  have HA := Lib.hid (fun w => refAll_any s w hs)
  have HB := Lib.hid (fun w => refAll_any t w ht)
  unfold maxLen at hs ht
  by_cases h : s.size = t.size
  · have t0 : (s.size : Int) = (t.size : Int) := by omega
    by_cases h1 : 999 < s.size
    · have t1 : decide ((999 : Int) < (s.size : Int)) = true := by simp; omega
      go_enter Try.func7, Try.ntmps7
      go_wp2_with fail
      refine (bawake_any _).mono ?_
      rintro e w1 ⟨rfl, hb1⟩
      go_wp2_with fail
      refine (bawake_any _).mono ?_
      rintro e w2 ⟨rfl, hb2⟩
      go_wp2_with fail
      go_ret
      exact ⟨rfl, hbt hb1 hb2⟩
    · have t1 : decide ((999 : Int) < (s.size : Int)) = false := by simp; omega
      cases hd : allD s.data.toList
      · rw [hd] at HA
        clear hd
        go_enter Try.func7, Try.ntmps7
        go_wp2_with fail
        refine (bawake_any _).mono ?_
        rintro e w1 ⟨rfl, hb1⟩
        go_wp2_with fail
        refine (HA.out _).mono ?_
        rintro e w1 ⟨rfl, rfl⟩
        go_wp2_with fail
        refine (bawake_any _).mono ?_
        rintro e w2 ⟨rfl, hb2⟩
        go_wp2_with fail
        go_ret
        exact ⟨rfl, hbt hb1 hb2⟩
      · rw [hd] at HA
        cases hd2 : allD t.data.toList
        · rw [hd2] at HB
          clear hd hd2
          go_enter Try.func7, Try.ntmps7
          go_wp2_with fail
          refine (bawake_any _).mono ?_
          rintro e w1 ⟨rfl, hb1⟩
          go_wp2_with fail
          refine (HA.out _).mono ?_
          rintro e w1 ⟨rfl, rfl⟩
          go_wp2_with fail
          refine (HB.out _).mono ?_
          rintro e w1 ⟨rfl, rfl⟩
          go_wp2_with fail
          refine (bawake_any _).mono ?_
          rintro e w2 ⟨rfl, hb2⟩
          go_wp2_with fail
          go_ret
          exact ⟨rfl, hbt hb1 hb2⟩
        · rw [hd2] at HB
          have hl : s.data.toList.length = s.size := by simp
          have hl2 : t.data.toList.length = t.size := by simp
          have HP := Lib.hid (fun w => bput_yes s w (bputB_yes (by omega) hd))
          have HQ := Lib.hid (fun w => bput_yes t w (bputB_yes (by omega) hd2))
          have hcmp := less_packL (by omega : s.data.toList.length = t.data.toList.length) hd hd2
          rw [← ByteArray.toList_eq s, ← ByteArray.toList_eq t] at hcmp
          rw [← ByteArray.toList_eq s] at HP
          rw [← ByteArray.toList_eq t] at HQ
          have e1 : (⟨(packL s.toList).toArray⟩ : ByteArray).toList = packL s.toList := by rw [ByteArray.toList_eq]
          have e2 : (⟨(packL t.toList).toArray⟩ : ByteArray).toList = packL t.toList := by rw [ByteArray.toList_eq]
          rw [← e1, ← e2] at hcmp
          clear hd hd2 hl hl2 e1 e2
          generalize (⟨(packL s.toList).toArray⟩ : ByteArray) = x at *
          generalize (⟨(packL t.toList).toArray⟩ : ByteArray) = y at *
          obtain ⟨c1, c2⟩ := hcmp
          go_enter Try.func7, Try.ntmps7
          go_wp2_with fail
          refine (bawake_any _).mono ?_
          rintro e w1 ⟨rfl, hb1⟩
          go_wp2_with fail
          refine (HA.out _).mono ?_
          rintro e w1 ⟨rfl, rfl⟩
          go_wp2_with fail
          refine (HB.out _).mono ?_
          rintro e w1 ⟨rfl, rfl⟩
          go_wp2_with fail
          refine (HP.out _).mono ?_
          rintro e w2 ⟨rfl, hb2⟩
          go_wp2_with fail
          refine (HQ.out _).mono ?_
          rintro e w3 ⟨rfl, hb3⟩
          go_wp2_with fail
          go_ret
          exact ⟨by simp, hbt (hbt hb1 hb2) hb3⟩
  · have t0 : ¬ (s.size : Int) = (t.size : Int) := by omega
    go_enter Try.func7, Try.ntmps7
    go_wp2_with fail
    refine (bawake_any _).mono ?_
    rintro e w1 ⟨rfl, hb1⟩
    go_wp2_with fail
    refine (bawake_any _).mono ?_
    rintro e w2 ⟨rfl, hb2⟩
    go_wp2_with fail
    go_ret
    exact ⟨rfl, hbt hb1 hb2⟩

end Go.Proofs.Ytbgllhgkalachaa
