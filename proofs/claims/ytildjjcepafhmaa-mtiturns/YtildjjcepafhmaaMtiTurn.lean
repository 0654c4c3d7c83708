/-
  What With, Response and the document's With and Response answer: for every text and version, in every world.
-/
import Derived.Test.YtildjjcepafhmaaMtiSmall
import Derived.Test.YtildjjcepafhmaaRegTake
namespace Go.Proofs.Ytildjjcepafhmaa
open Go.RowKit

set_option maxHeartbeats 800000 in
theorem mwith_range (s : ByteArray) (n : Int) (w : World) (hn : n ≤ 9223372036854775807) (h : n < 0 ∨ 9 < n) :
    Calls Try.prog 13 #[.string s, .int .i64 n] w fun e w' => e = .returned (.tuple #[.string ⟨#[]⟩, .bool false]) ∧ Below w.heap.size w w' := by
  have HP := Lib.hid (fun W => put_any n 1 W hn)
  rw [put_other h, putS_no (put_other h)] at HP
  clear h hn
  go_enter Try.func13, Try.ntmps13
  go_wp2_with fail
  refine (HP.out _).mono ?_
  rintro e w1 ⟨rfl, hb1⟩
  go_wp2
  go_ret2
  exact ⟨rfl, hb1⟩
set_option maxHeartbeats 800000 in
theorem mwith_no (s : ByteArray) (n : Nat) (w : World) (hn : n < 10) (h : mtiB s.data.toList = false) :
    Calls Try.prog 13 #[.string s, .int .i64 (n : Int)] w fun e w' => e = .returned (.tuple #[.string ⟨#[]⟩, .bool false]) ∧ Below w.heap.size w w' := by
  have HP := Lib.hid (fun W => put_any (n : Int) 1 W (by omega))
  obtain ⟨h1, h2, _⟩ := put_one hn
  rw [h1, h2] at HP
  generalize (⟨#[dg n]⟩ : ByteArray) = x at HP
  have HR := Lib.hid (mright_any s)
  rw [h] at HR
  clear h hn h1 h2
  go_enter Try.func13, Try.ntmps13
  go_wp2_with fail
  refine (HP.out _).mono ?_
  rintro e w1 ⟨rfl, hb1⟩
  go_wp2_with fail
  refine (HR.out _).mono ?_
  rintro e w2 ⟨rfl, hb2⟩
  go_wp2
  go_ret2
  exact ⟨rfl, hbt hb1 hb2⟩
set_option maxHeartbeats 800000 in
theorem mwith_w (s x y : ByteArray) (n : Int) (w : World) (h4 : s.size = 4) (h : mtiB s.data.toList = true)
    (hp : ∀ W, Calls Try.prog 22 #[.int .i64 n, .int .i64 1] W fun e w' => e = .returned (.tuple #[.string x, .bool true]) ∧ Below W.heap.size W w')
    (hadd : ∀ W : World, (Op.stringOp .add x (s.extract 1 s.size)).run Try.prog W = .ok (.string y) W) :
    Calls Try.prog 13 #[.string s, .int .i64 n] w fun e w' => e = .returned (.tuple #[.string y, .bool true]) ∧ Below w.heap.size w w' := by
  have HP := Lib.hid hp
  have HR := Lib.hid (mright_any s)
  rw [h] at HR
  have h1 : 1 ≤ s.size := by omega
  clear h hp h4
  go_enter Try.func13, Try.ntmps13
  go_wp2_with fail
  refine (HP.out _).mono ?_
  rintro e w1 ⟨rfl, hb1⟩
  go_wp2_with fail
  refine (HR.out _).mono ?_
  rintro e w2 ⟨rfl, hb2⟩
  go_wp2
  go_ret2
  exact ⟨rfl, hbt hb1 hb2⟩
theorem add_tail (a b c d e : UInt8) (W : World) : (Op.stringOp .add (⟨#[e]⟩ : ByteArray) ((T4 a b c d).extract 1 (T4 a b c d).size)).run Try.prog W = .ok (.string (T4 e b c d)) W :=
  run_string_add_sum W _ _ (by show 1 + 3 ≤ _; omega)
theorem mwith_yes (a b c d : UInt8) (n : Nat) (w : World) (hn : n < 10) (ha : isD a = true) (hb : isD b = true) (hc : isD c = true) (hd : isD d = true) :
    Calls Try.prog 13 #[.string (T4 a b c d), .int .i64 (n : Int)] w fun e w' => e = .returned (.tuple #[.string (T4 (dg n) b c d), .bool true]) ∧ Below w.heap.size w w' := by
  refine mwith_w _ ⟨#[dg n]⟩ _ n w rfl (by rw [mti_T4, ha, hb, hc, hd]; rfl) (fun W => ?_) (add_tail a b c d (dg n))
  have h := put_any (n : Int) 1 W (by omega)
  rw [(put_one hn).1, (put_one hn).2.1] at h
  exact h

set_option maxHeartbeats 800000 in
theorem mrefWith_w (s x y : ByteArray) (n : Int) (w : World) (h1 : 1 ≤ s.size)
    (hp : ∀ W, Calls Try.prog 23 #[.int .i64 n, .int .i64 1] W fun e w' => e = .returned (.tuple #[.string x, .bool true]) ∧ Below W.heap.size W w')
    (hadd : ∀ W : World, (Op.stringOp .add x (s.extract 1 s.size)).run Try.prog W = .ok (.string y) W) :
    Calls Try.prog 14 #[.string s, .int .i64 n] w fun e w' => e = .returned (.string y) ∧ Below w.heap.size w w' := by
  have HP := Lib.hid hp
  clear hp
  go_enter Try.func14, Try.ntmps14
  go_wp2_with fail
  refine (HP.out _).mono ?_
  rintro e w1 ⟨rfl, hb1⟩
  go_wp2
  go_ret
  exact ⟨rfl, hb1⟩
theorem mrefWith_yes (a b c d : UInt8) (n : Nat) (w : World) (hn : n < 10) :
    Calls Try.prog 14 #[.string (T4 a b c d), .int .i64 (n : Int)] w fun e w' => e = .returned (.string (T4 (dg n) b c d)) ∧ Below w.heap.size w w' := by
  refine mrefWith_w _ ⟨#[dg n]⟩ _ n w (by show 1 ≤ 4; omega) (fun W => ?_) (add_tail a b c d (dg n))
  have h := refPut_any (n : Int) 1 W (by omega)
  rw [(put_one hn).1, (put_one hn).2.1] at h
  exact h

set_option maxHeartbeats 800000 in
theorem mresp_no (s : ByteArray) (w : World) (h : askB s.data.toList = false) :
    Calls Try.prog 15 #[.string s] w fun e w' => e = .returned (.tuple #[.string ⟨#[]⟩, .bool false]) ∧ Below w.heap.size w w' := by
  have HR := Lib.hid (mreq_any s)
  rw [h] at HR
  clear h
  go_enter Try.func15, Try.ntmps15
  go_wp2_with fail
  refine (HR.out _).mono ?_
  rintro e w1 ⟨rfl, hb1⟩
  go_wp2
  go_ret2
  exact ⟨rfl, hb1⟩
set_option maxHeartbeats 1600000 in
theorem mresp_w (s x y z : ByteArray) (c : Nat) (w : World) (h4 : s.size = 4) (h : askB s.data.toList = true)
    (ha : ∀ W, Calls Try.prog 20 #[.int .u8 (c : Int)] W fun e w' => e = .returned (.string x) ∧ W = w')
    (hix : ∀ W, (Instr.index 9 (.string s) (.int .i64 2)).run Try.prog W = .ok (.int .u8 (c : Int)) W)
    (hadd : ∀ W : World, (Op.stringOp .add (s.extract 0 2) x).run Try.prog W = .ok (.string y) W)
    (hsum : ∀ W : World, (Op.stringOp .add y (s.extract 3 s.size)).run Try.prog W = .ok (.string z) W) :
    Calls Try.prog 15 #[.string s] w fun e w' => e = .returned (.tuple #[.string z, .bool true]) ∧ Below w.heap.size w w' := by
  have HR := Lib.hid (mreq_any s)
  rw [h] at HR
  have HA := Lib.hid ha
  have h2 : (2 : Int) ≤ (s.size : Int) := by omega
  have h3 : (3 : Int) ≤ (s.size : Int) := by omega
  clear h ha h4
  go_enter Try.func15, Try.ntmps15
  go_wp2_with fail
  refine (HR.out _).mono ?_
  rintro e w1 ⟨rfl, hb1⟩
  go_wp2
  refine wp_region_noPanic ?_
  refine wp_region_held_drew (S := fun _ => True) (by kernel_rfl) trivial (fun _ => ?_)
  refine give_val (i := 0) (v := ?_) rfl (by kernel_rfl) (by kernel_rfl) (by kernel_rfl) (fun _ _ _ h => h) (by rfl) (fun _ _ => ?_) trivial ?_
  rotate_left
  · (go_simp; try (with_reducible rfl))
  try simp only [Act.put, List.setIfInBounds_toArray, List.set_cons_zero, List.set_cons_succ]
  refine give_val (i := 1) (v := ?_) rfl (by kernel_rfl) (by kernel_rfl) (by kernel_rfl) (fun _ _ _ h => h) (by rfl) (fun _ _ => ?_) trivial ?_
  rotate_left
  · (go_simp; try (with_reducible rfl))
  try simp only [Act.put, List.setIfInBounds_toArray, List.set_cons_zero, List.set_cons_succ]
  refine give_val (i := 2) (v := ?_) rfl (by kernel_rfl) (by kernel_rfl) (by kernel_rfl) (fun _ _ _ h => h) (by rfl) (fun _ _ => ?_) trivial ?_
  rotate_left
  · (go_simp; try (with_reducible rfl))
  try simp only [Act.put, List.setIfInBounds_toArray, List.set_cons_zero, List.set_cons_succ]
  refine give_val (i := 3) (v := ?_) rfl (by kernel_rfl) (by kernel_rfl) (by kernel_rfl) (fun _ _ _ h => h) (by rfl) (fun _ _ => ?_) trivial ?_
  rotate_left
  · (go_simp; try (with_reducible rfl))
  try simp only [Act.put, List.setIfInBounds_toArray, List.set_cons_zero, List.set_cons_succ]
  refine give_call (i := 4) 20 #[.int .u8 (c : Int)] rfl (by kernel_rfl) (by kernel_rfl) (by kernel_rfl) (fun _ _ _ h => h) (by rfl) (fun u hu => HA.out _) (fun _ _ => ?_) trivial ?_
  · (go_simp; try (with_reducible rfl))
  try simp only [Act.put, List.setIfInBounds_toArray, List.set_cons_zero, List.set_cons_succ]
  refine give_val (i := 5) (v := ?_) rfl (by kernel_rfl) (by kernel_rfl) (by kernel_rfl) (fun _ _ _ h => h) (by rfl) (fun _ _ => ?_) trivial ?_
  rotate_left
  · (go_simp; try (with_reducible rfl))
  try simp only [Act.put, List.setIfInBounds_toArray, List.set_cons_zero, List.set_cons_succ]
  refine give_val (i := 6) (v := ?_) rfl (by kernel_rfl) (by kernel_rfl) (by kernel_rfl) (fun _ _ _ h => h) (by rfl) (fun _ _ => ?_) trivial ?_
  rotate_left
  · (go_simp; try (with_reducible rfl))
  try simp only [Act.put, List.setIfInBounds_toArray, List.set_cons_zero, List.set_cons_succ]
  refine give_val (i := 7) (v := ?_) rfl (by kernel_rfl) (by kernel_rfl) (by kernel_rfl) (fun _ _ _ h => h) (by rfl) (fun _ _ => ?_) trivial ?_
  rotate_left
  · (go_simp; try (with_reducible rfl))
  try simp only [Act.put, List.setIfInBounds_toArray, List.set_cons_zero, List.set_cons_succ]
  refine give_val (i := 8) (v := ?_) rfl (by kernel_rfl) (by kernel_rfl) (by kernel_rfl) (fun _ _ _ h => h) (by rfl) (fun _ _ => ?_) trivial ?_
  rotate_left
  · (go_simp; try (with_reducible rfl))
  try simp only [Act.put, List.setIfInBounds_toArray, List.set_cons_zero, List.set_cons_succ]
  refine give_val (i := 9) (v := ?_) rfl (by kernel_rfl) (by kernel_rfl) (by kernel_rfl) (fun _ _ _ h => h) (by rfl) (fun _ _ => ?_) trivial ?_
  rotate_left
  · (go_simp; try (with_reducible rfl))
  try simp only [Act.put, List.setIfInBounds_toArray, List.set_cons_zero, List.set_cons_succ]
  refine give_val (i := 10) (v := ?_) rfl (by kernel_rfl) (by kernel_rfl) (by kernel_rfl) (fun _ _ _ h => h) (by rfl) (fun _ _ => ?_) trivial ?_
  rotate_left
  · (go_simp; try (with_reducible rfl))
  try simp only [Act.put, List.setIfInBounds_toArray, List.set_cons_zero, List.set_cons_succ]
  refine wpAnyH_done (by kernel_rfl) (NoPanic.normal ?_) _
  go_wp2
  go_ret2
  exact ⟨rfl, hb1.drew⟩
theorem add_mid1 (a b c d e : UInt8) (W : World) : (Op.stringOp .add ((T4 a b c d).extract 0 2) (⟨#[e]⟩ : ByteArray)).run Try.prog W = .ok (.string ⟨#[a, b, e]⟩) W :=
  run_string_add_sum W _ _ (by show 2 + 1 ≤ _; omega)
theorem add_mid2 (a b c d e : UInt8) (W : World) : (Op.stringOp .add (⟨#[a, b, e]⟩ : ByteArray) ((T4 a b c d).extract 3 (T4 a b c d).size)).run Try.prog W = .ok (.string (T4 a b e d)) W :=
  run_string_add_sum W _ _ (by show 3 + 1 ≤ _; omega)
theorem mresp_yes (a b c d : UInt8) (w : World) (ha : isD a = true) (hb : isD b = true) (hc : c = 48 ∨ c = 50) (hd : isD d = true) :
    Calls Try.prog 15 #[.string (T4 a b c d)] w fun e w' => e = .returned (.tuple #[.string (T4 a b (c + 1) d), .bool true]) ∧ Below w.heap.size w w' := by
  refine mresp_w _ ⟨#[c + 1]⟩ ⟨#[a, b, c + 1]⟩ _ c.toNat w rfl ?_ (ans_yes c hc) (ix_T4 a b c d) (add_mid1 a b c d (c + 1)) (add_mid2 a b c d (c + 1))
  rw [ask_T4, ha, hb, hd]
  rcases hc with rfl | rfl <;> rfl

set_option maxHeartbeats 800000 in
theorem mrefResp_w (s x : ByteArray) (n : Nat) (w : World) (hn : n < 10000)
    (hg : ∀ W, Calls Try.prog 21 #[.string s] W fun e w' => e = .returned (.tuple #[.int .i64 (n : Int), .bool true]) ∧ W = w')
    (hp : ∀ W, Calls Try.prog 23 #[.int .i64 ((n : Int) + 10), .int .i64 4] W fun e w' => e = .returned (.tuple #[.string x, .bool true]) ∧ Below W.heap.size W w') :
    Calls Try.prog 16 #[.string s] w fun e w' => e = .returned (.string x) ∧ Below w.heap.size w w' := by
  have HG := Lib.hid hg
  have HP := Lib.hid hp
  clear hg hp
  go_enter Try.func16, Try.ntmps16
  go_wp2_with fail
  refine (HG.out _).mono ?_
  rintro e w1 ⟨rfl, rfl⟩
  go_wp2_with fail
  refine (HP.out _).mono ?_
  rintro e w2 ⟨rfl, hb2⟩
  go_wp2
  go_ret
  exact ⟨rfl, hb2⟩
theorem mrefResp_yes (a b c d : UInt8) (w : World) (ha : isD a = true) (hb : isD b = true) (hc : c = 48 ∨ c = 50) (hd : isD d = true) :
    Calls Try.prog 16 #[.string (T4 a b c d)] w fun e w' => e = .returned (.string (T4 a b (c + 1) d)) ∧ Below w.heap.size w w' := by
  have hc' := (num_next ha hb hc hd).2.2
  refine mrefResp_w (T4 a b c d) _ (numL [a, b, c, d]) w (num_T4 ha hb hc' hd).2.2 (fun W => refGet_yes (T4 a b c d) W (by show 1 ≤ 4; omega) (by show 4 ≤ 18; omega) (by rw [T4_list]; simp [allD, ha, hb, hc', hd])) (fun W => ?_)
  have h := refPut_any ((numL [a, b, c, d] : Int) + 10) 4 W (by have := (num_T4 ha hb hc' hd).2.2; omega)
  rw [(put_next ha hb hc hd).1, (put_next ha hb hc hd).2] at h
  exact h

end Go.Proofs.Ytildjjcepafhmaa
