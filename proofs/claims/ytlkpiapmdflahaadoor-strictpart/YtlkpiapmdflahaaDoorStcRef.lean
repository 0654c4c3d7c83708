/-
  What the document's Decode answers: for every schema of up to 1000 specs and bytes of up to 1,000,000, in every world.
-/
import Derived.Test.YtlkpiapmdflahaaDoorStcOf
import Derived.Test.YtlkpiapmdflahaaDoorStcBmp
import Derived.Test.YtlkpiapmdflahaaDoorPackBcd
import Derived.Test.YtlkpiapmdflahaaDoorPackCel
import Derived.Test.YtlkpiapmdflahaaDoorPackSch
import Derived.Test.YtlkpiapmdflahaaDoorPackMti
import Derived.Test.YtlkpiapmdflahaaDoorPackBase
namespace Go.Proofs.YtlkpiapmdflahaaDoor
open Go.RowKit

theorem spl_item {u : World} {A : Option Addr} {sl : List Sp} {k : Nat} (h : Spl u A sl) (hk : k < sl.length) {a : Addr} (ha : A = some a) {x1 x2 x3 x4 x5 : Int} (hx : spAt sl k = (x1, x2, x3, x4, x5)) :
    u.cell? (a.add (k * 5)) = some (.int .i64 x1) ∧ u.cell? ⟨(a.add (k * 5)).block, (a.add (k * 5)).off + 1, none⟩ = some (.int .i64 x2) ∧ u.cell? ⟨(a.add (k * 5)).block, (a.add (k * 5)).off + 2, none⟩ = some (.int .i64 x3) ∧ u.cell? ⟨(a.add (k * 5)).block, (a.add (k * 5)).off + 3, none⟩ = some (.int .i64 x4) ∧ u.cell? ⟨(a.add (k * 5)).block, (a.add (k * 5)).off + 4, none⟩ = some (.int .i64 x5) := by
  obtain ⟨a', n, c, f, lo, hi, h1, h2, h3⟩ := h.at_ hk
  rw [ha] at h1
  injection h1 with h1
  subst h1
  rw [hx] at h2
  simp only [Prod.mk.injEq] at h2
  obtain ⟨rfl, rfl, rfl, rfl, rfl⟩ := h2
  exact h3
theorem int_item {u : World} {A : Option Addr} {zs : List Int} {k : Nat} (h : Ints u A zs) (hk : k < zs.length) {a : Addr} (ha : A = some a) {z : Int} (hz : zs.getD k 0 = z) : u.cell? (a.add k) = some (.int .i64 z) := by
  obtain ⟨a', h1, h2⟩ := h k hk
  rw [ha] at h1
  injection h1 with h1
  subst h1
  rw [hz] at h2
  exact h2

set_option maxRecDepth 100000 in
set_option maxHeartbeats 3200000 in
theorem sref_arg (st v : Int) (A : Option Addr) (ca : Nat) (sl : List Sp) (b : ByteArray) (w : World) (hI : Spl w A sl) (hn : sl.length ≤ 1000) (h : (schN st v sl).1 ≠ 0) :
    Calls Tryd.prog 11 #[.agg #[.int .i64 st, .int .i64 v, .slice A sl.length ca], .string b] w fun e w' => DecTo (⟨#[]⟩, [], (1, -1)) w w' e := by
  have HC := Lib.hid (fun W hW => sright_any st v A ca sl W hW hn)
  rw [decide_eq_false h] at HC
  have HT := Lib.hid (rquad_new w st v A sl.length ca)
  have HI := Lib.hid (hI.below HT.out.1)
  clear hI h
  generalize sl.length = len at *
  go_enter Tryd.func11, Tryd.ntmps11
  go_wp2_with fail
  generalize (((w.alloc (.cells #[.int .i64 st, .int .i64 v, .slice A len ca] 24)).alloc (.cells #[.string ⟨#[]⟩, .slice none 0 0] 28)).alloc (.cells #[.int .i64 0, .int .i64 0] 31)).alloc (.cells #[.string ⟨#[]⟩, .slice none 0 0] 28) = U at *
  refine (HC.out _ HI.out).mono ?_
  rintro e w1 ⟨rfl, hb1⟩
  have HT1 := Lib.hid (HT.out.below hb1)
  have HI1 := Lib.hid (HI.out.below hb1)
  clear hb1 HT HI HC
  obtain ⟨c0, c1, c2, c3⟩ := obj_cells HT1.out.2.2.1
  obtain ⟨d0, d1, d2, d3⟩ := obj_cells HT1.out.2.2.2.1
  obtain ⟨e0, e1, _, _⟩ := obj_cells HT1.out.2.2.2.2
  go_wp2
  obtain ⟨k1, k2, k3⟩ := two_set (w := w) HT1.out.2.2.1 HT1.out.2.2.2.1 (by omega) (by omega) (by omega) HT1.out.1 (.string ⟨#[]⟩) (.slice none 0 0) (.int .i64 1) (.int .i64 (-1))
  refine bodyPost_ret (results_two rfl _ _ (w.heap.size + 1) (w.heap.size + 2) _ _ _ _ _ _ _ _ rfl k1 rfl k2 Tryd.underlying28 rfl (by kernel_rfl) Tryd.underlying31 rfl (by kernel_rfl)) rfl ?_
  exact ⟨none, 0, rfl, tlvs_nil _ _, k3⟩
set_option maxRecDepth 100000 in
set_option maxHeartbeats 3200000 in
theorem sref_short1 (v : Int) (A : Option Addr) (ca : Nat) (sl : List Sp) (b : ByteArray) (w : World) (hI : Spl w A sl) (hn : sl.length ≤ 1000) (h : (schN 1 v sl).1 = 0) (h2 : b.size < 4) :
    Calls Tryd.prog 11 #[.agg #[.int .i64 1, .int .i64 v, .slice A sl.length ca], .string b] w fun e w' => DecTo (⟨#[]⟩, [], (2, 0)) w w' e := by
  have HC := Lib.hid (fun W hW => sright_any 1 v A ca sl W hW hn)
  rw [decide_eq_true h] at HC
  have HT := Lib.hid (rquad_new w 1 v A sl.length ca)
  have HI := Lib.hid (hI.below HT.out.1)
  have tb : decide ((b.size : Int) < 4) = true := by simp; omega
  clear hI h h2
  generalize sl.length = len at *
  go_enter Tryd.func11, Tryd.ntmps11
  go_wp2_with fail
  generalize (((w.alloc (.cells #[.int .i64 1, .int .i64 v, .slice A len ca] 24)).alloc (.cells #[.string ⟨#[]⟩, .slice none 0 0] 28)).alloc (.cells #[.int .i64 0, .int .i64 0] 31)).alloc (.cells #[.string ⟨#[]⟩, .slice none 0 0] 28) = U at *
  refine (HC.out _ HI.out).mono ?_
  rintro e w1 ⟨rfl, hb1⟩
  have HT1 := Lib.hid (HT.out.below hb1)
  have HI1 := Lib.hid (HI.out.below hb1)
  clear hb1 HT HI HC
  obtain ⟨s0, s1, s2⟩ := obj_cells3 HT1.out.2.1
  obtain ⟨c0, c1, c2, c3⟩ := obj_cells HT1.out.2.2.1
  obtain ⟨d0, d1, d2, d3⟩ := obj_cells HT1.out.2.2.2.1
  obtain ⟨e0, e1, _, _⟩ := obj_cells HT1.out.2.2.2.2
  go_wp2
  obtain ⟨k1, k2, k3⟩ := two_set (w := w) HT1.out.2.2.1 HT1.out.2.2.2.1 (by omega) (by omega) (by omega) HT1.out.1 (.string ⟨#[]⟩) (.slice none 0 0) (.int .i64 2) (.int .i64 0)
  refine bodyPost_ret (results_two rfl _ _ (w.heap.size + 1) (w.heap.size + 2) _ _ _ _ _ _ _ _ rfl k1 rfl k2 Tryd.underlying28 rfl (by kernel_rfl) Tryd.underlying31 rfl (by kernel_rfl)) rfl ?_
  exact ⟨none, 0, rfl, tlvs_nil _ _, k3⟩
set_option maxRecDepth 100000 in
set_option maxHeartbeats 3200000 in
theorem sref_none1 (v : Int) (A : Option Addr) (ca : Nat) (sl : List Sp) (b : ByteArray) (w : World) (hI : Spl w A sl) (hn : sl.length ≤ 1000) (h : (schN 1 v sl).1 = 0) (h2 : 4 ≤ b.size) (t : ByteArray) (hcut : ∀ W : World, (Instr.slice 9 (.string b) none (some (.int .i64 4)) none).run Tryd.prog W = .ok (.string t) W) (ht : t.size ≤ maxLen) (hm : mtiB t.data.toList = false) :
    Calls Tryd.prog 11 #[.agg #[.int .i64 1, .int .i64 v, .slice A sl.length ca], .string b] w fun e w' => DecTo (⟨#[]⟩, [], (7, 0)) w w' e := by
  have HC := Lib.hid (fun W hW => sright_any 1 v A ca sl W hW hn)
  rw [decide_eq_true h] at HC
  have HT := Lib.hid (rquad_new w 1 v A sl.length ca)
  have HI := Lib.hid (hI.below HT.out.1)
  have tb : decide ((b.size : Int) < 4) = false := by simp; omega
  have HM := Lib.hid (fun W => mrefRight_any t W ht)
  rw [hm] at HM
  clear hI h ht hm
  generalize sl.length = len at *
  go_enter Tryd.func11, Tryd.ntmps11
  go_wp2_with fail
  generalize (((w.alloc (.cells #[.int .i64 1, .int .i64 v, .slice A len ca] 24)).alloc (.cells #[.string ⟨#[]⟩, .slice none 0 0] 28)).alloc (.cells #[.int .i64 0, .int .i64 0] 31)).alloc (.cells #[.string ⟨#[]⟩, .slice none 0 0] 28) = U at *
  refine (HC.out _ HI.out).mono ?_
  rintro e w1 ⟨rfl, hb1⟩
  have HT1 := Lib.hid (HT.out.below hb1)
  have HI1 := Lib.hid (HI.out.below hb1)
  clear hb1 HT HI HC
  obtain ⟨s0, s1, s2⟩ := obj_cells3 HT1.out.2.1
  go_wp2_with fail
  have HT2 := Lib.hid HT1.out
  have HI2 := Lib.hid HI1.out
  clear HT1 HI1 s0 s1 s2
  rename World => w2
  clear hcut tb
  refine wp_region_noPanic ?_
  refine wp_region_held_drew (S := (fun u => Below w2.heap.size w2 u)) (by kernel_rfl) ((Below.refl _ _).drew) (fun hS => ?_)
  refine give_val (i := 0) (v := ?_) rfl (by kernel_rfl) (by kernel_rfl) (by kernel_rfl) (fun _ _ _ h => h) (by rfl) (fun u hu => ?_) hS ?_
  rotate_left
  · ((have hT := HT2.out.below hu; obtain ⟨b0, b1, b2⟩ := obj_cells3 hT.2.1; clear hT); go_simp; try (with_reducible rfl))
  try simp only [Act.put, List.setIfInBounds_toArray, List.set_cons_zero, List.set_cons_succ]
  refine only_call (i := 1) 23 #[.string t] rfl (by kernel_rfl) (by rfl) ((HM.out _).mono fun e w' he => ⟨he.1, he.2 ▸ hS⟩) ?_ ?_
  · (go_simp; try (with_reducible rfl))
  clear hS
  intro w1 hS
  try simp only [Act.put, List.setIfInBounds_toArray, List.set_cons_zero, List.set_cons_succ]
  refine give_val (i := 2) (v := ?_) rfl (by kernel_rfl) (by kernel_rfl) (by kernel_rfl) (fun _ _ _ h => h) (by rfl) (fun u hu => ?_) hS ?_
  rotate_left
  · ((have hT := HT2.out.below hu; obtain ⟨b0, b1, b2⟩ := obj_cells3 hT.2.1; clear hT); go_simp; try (with_reducible rfl))
  try simp only [Act.put, List.setIfInBounds_toArray, List.set_cons_zero, List.set_cons_succ]
  refine give_val (i := 3) (v := ?_) rfl (by kernel_rfl) (by kernel_rfl) (by kernel_rfl) (fun _ _ _ h => h) (by rfl) (fun u hu => ?_) hS ?_
  rotate_left
  · ((have hT := HT2.out.below hu; obtain ⟨b0, b1, b2⟩ := obj_cells3 hT.2.1; clear hT); go_simp; try (with_reducible rfl))
  try simp only [Act.put, List.setIfInBounds_toArray, List.set_cons_zero, List.set_cons_succ]
  refine give_skip (i := 4) rfl (by kernel_rfl) (by kernel_rfl) (by kernel_rfl) (fun _ _ _ h => h) (by rfl) hS ?_
  try simp only [Act.put, List.setIfInBounds_toArray, List.set_cons_zero, List.set_cons_succ]
  refine give_skip (i := 5) rfl (by kernel_rfl) (by kernel_rfl) (by kernel_rfl) (fun _ _ _ h => h) (by rfl) hS ?_
  try simp only [Act.put, List.setIfInBounds_toArray, List.set_cons_zero, List.set_cons_succ]
  refine give_skip (i := 6) rfl (by kernel_rfl) (by kernel_rfl) (by kernel_rfl) (fun _ _ _ h => h) (by rfl) hS ?_
  try simp only [Act.put, List.setIfInBounds_toArray, List.set_cons_zero, List.set_cons_succ]
  refine give_skip (i := 7) rfl (by kernel_rfl) (by kernel_rfl) (by kernel_rfl) (fun _ _ _ h => h) (by rfl) hS ?_
  try simp only [Act.put, List.setIfInBounds_toArray, List.set_cons_zero, List.set_cons_succ]
  refine give_skip (i := 8) rfl (by kernel_rfl) (by kernel_rfl) (by kernel_rfl) (fun _ _ _ h => h) (by rfl) hS ?_
  try simp only [Act.put, List.setIfInBounds_toArray, List.set_cons_zero, List.set_cons_succ]
  refine give_skip (i := 9) rfl (by kernel_rfl) (by kernel_rfl) (by kernel_rfl) (fun _ _ _ h => h) (by rfl) hS ?_
  try simp only [Act.put, List.setIfInBounds_toArray, List.set_cons_zero, List.set_cons_succ]
  refine give_skip (i := 10) rfl (by kernel_rfl) (by kernel_rfl) (by kernel_rfl) (fun _ _ _ h => h) (by rfl) hS ?_
  try simp only [Act.put, List.setIfInBounds_toArray, List.set_cons_zero, List.set_cons_succ]
  refine give_val (i := 11) (v := ?_) rfl (by kernel_rfl) (by kernel_rfl) (by kernel_rfl) (fun _ _ _ h => h) (by rfl) (fun u hu => ?_) hS ?_
  rotate_left
  · ((have hT := HT2.out.below hu; obtain ⟨b0, b1, b2⟩ := obj_cells3 hT.2.1; clear hT); go_simp; try (with_reducible rfl))
  try simp only [Act.put, List.setIfInBounds_toArray, List.set_cons_zero, List.set_cons_succ]
  refine wpAnyH_done (by kernel_rfl) (NoPanic.normal ?_) _
  have HT3 := Lib.hid (HT2.out.below hS)
  clear hS
  obtain ⟨c0, c1, c2, c3⟩ := obj_cells HT3.out.2.2.1
  obtain ⟨d0, d1, d2, d3⟩ := obj_cells HT3.out.2.2.2.1
  obtain ⟨e0, e1, _, _⟩ := obj_cells HT3.out.2.2.2.2
  go_wp2
  obtain ⟨k1, k2, k3⟩ := two_set (w := w) HT3.out.2.2.1 HT3.out.2.2.2.1 (by omega) (by omega) (by omega) HT3.out.1 (.string ⟨#[]⟩) (.slice none 0 0) (.int .i64 7) (.int .i64 0)
  refine bodyPost_ret (results_two rfl _ _ (w.heap.size + 1) (w.heap.size + 2) _ _ _ _ _ _ _ _ rfl k1 rfl k2 Tryd.underlying28 rfl (by kernel_rfl) Tryd.underlying31 rfl (by kernel_rfl)) rfl ?_
  exact ⟨none, 0, rfl, tlvs_nil _ _, k3⟩
set_option maxRecDepth 100000 in
set_option maxHeartbeats 3200000 in
theorem sref_version1 (v : Int) (A : Option Addr) (ca : Nat) (sl : List Sp) (b : ByteArray) (w : World) (hI : Spl w A sl) (hn : sl.length ≤ 1000) (h : (schN 1 v sl).1 = 0) (h2 : 4 ≤ b.size) (t : ByteArray) (hcut : ∀ W : World, (Instr.slice 9 (.string b) none (some (.int .i64 4)) none).run Tryd.prog W = .ok (.string t) W) (ht : t.size ≤ maxLen) (hm : mtiB t.data.toList = true) (c0 : Nat) (y1 : Int) (hix : ∀ W, (Instr.index 9 (.string t) (.int .i64 0)).run Tryd.prog W = .ok (.int .u8 (c0 : Int)) W) (hc : c0 < 256) (hy : (c0 : Int) - 48 = y1) (hv : y1 ≠ v) :
    Calls Tryd.prog 11 #[.agg #[.int .i64 1, .int .i64 v, .slice A sl.length ca], .string b] w fun e w' => DecTo (⟨#[]⟩, [], (7, 0)) w w' e := by
  have HC := Lib.hid (fun W hW => sright_any 1 v A ca sl W hW hn)
  rw [decide_eq_true h] at HC
  have HT := Lib.hid (rquad_new w 1 v A sl.length ca)
  have HI := Lib.hid (hI.below HT.out.1)
  have tv : (y1 != v) = true := by simpa using hv
  have tb : decide ((b.size : Int) < 4) = false := by simp; omega
  have HM := Lib.hid (fun W => mrefRight_any t W ht)
  rw [hm] at HM
  have hci : (c0 : Int) < 1000 := by omega
  have HY : Hid ((c0 : Int) - 48 = y1 ∧ (c0 : Int) < 1000) := ⟨hy, hci⟩
  have hwr : IntKind.i64.wrap (c0 : Int) = (c0 : Int) := IntWalk.i64_in _ (by omega)
  clear hI h ht hm hc hy hv
  generalize sl.length = len at *
  go_enter Tryd.func11, Tryd.ntmps11
  go_wp2_with fail
  generalize (((w.alloc (.cells #[.int .i64 1, .int .i64 v, .slice A len ca] 24)).alloc (.cells #[.string ⟨#[]⟩, .slice none 0 0] 28)).alloc (.cells #[.int .i64 0, .int .i64 0] 31)).alloc (.cells #[.string ⟨#[]⟩, .slice none 0 0] 28) = U at *
  refine (HC.out _ HI.out).mono ?_
  rintro e w1 ⟨rfl, hb1⟩
  have HT1 := Lib.hid (HT.out.below hb1)
  have HI1 := Lib.hid (HI.out.below hb1)
  clear hb1 HT HI HC
  obtain ⟨s0, s1, s2⟩ := obj_cells3 HT1.out.2.1
  go_wp2_with fail
  have HT2 := Lib.hid HT1.out
  have HI2 := Lib.hid HI1.out
  clear HT1 HI1 s0 s1 s2
  rename World => w2
  clear hcut tb
  refine wp_region_noPanic ?_
  refine wp_region_held_drew (S := (fun u => Below w2.heap.size w2 u)) (by kernel_rfl) ((Below.refl _ _).drew) (fun hS => ?_)
  refine give_val (i := 0) (v := ?_) rfl (by kernel_rfl) (by kernel_rfl) (by kernel_rfl) (fun _ _ _ h => h) (by rfl) (fun u hu => ?_) hS ?_
  rotate_left
  · ((have hT := HT2.out.below hu; obtain ⟨b0, b1, b2⟩ := obj_cells3 hT.2.1; clear hT); go_simp; try (with_reducible rfl))
  try simp only [Act.put, List.setIfInBounds_toArray, List.set_cons_zero, List.set_cons_succ]
  refine only_call (i := 1) 23 #[.string t] rfl (by kernel_rfl) (by rfl) ((HM.out _).mono fun e w' he => ⟨he.1, he.2 ▸ hS⟩) ?_ ?_
  · (go_simp; try (with_reducible rfl))
  clear hS
  intro w1 hS
  try simp only [Act.put, List.setIfInBounds_toArray, List.set_cons_zero, List.set_cons_succ]
  refine give_val (i := 2) (v := ?_) rfl (by kernel_rfl) (by kernel_rfl) (by kernel_rfl) (fun _ _ _ h => h) (by rfl) (fun u hu => ?_) hS ?_
  rotate_left
  · ((have hT := HT2.out.below hu; obtain ⟨b0, b1, b2⟩ := obj_cells3 hT.2.1; clear hT); go_simp; try (with_reducible rfl))
  try simp only [Act.put, List.setIfInBounds_toArray, List.set_cons_zero, List.set_cons_succ]
  refine give_val (i := 3) (v := ?_) rfl (by kernel_rfl) (by kernel_rfl) (by kernel_rfl) (fun _ _ _ h => h) (by rfl) (fun u hu => ?_) hS ?_
  rotate_left
  · ((have hT := HT2.out.below hu; obtain ⟨b0, b1, b2⟩ := obj_cells3 hT.2.1; clear hT); go_simp; try (with_reducible rfl))
  try simp only [Act.put, List.setIfInBounds_toArray, List.set_cons_zero, List.set_cons_succ]
  refine give_val (i := 4) (v := ?_) rfl (by kernel_rfl) (by kernel_rfl) (by kernel_rfl) (fun _ _ _ h => h) (by rfl) (fun u hu => ?_) hS ?_
  rotate_left
  · ((have hT := HT2.out.below hu; obtain ⟨b0, b1, b2⟩ := obj_cells3 hT.2.1; clear hT); go_simp; try (with_reducible rfl))
  try simp only [Act.put, List.setIfInBounds_toArray, List.set_cons_zero, List.set_cons_succ]
  refine give_val (i := 5) (v := ?_) rfl (by kernel_rfl) (by kernel_rfl) (by kernel_rfl) (fun _ _ _ h => h) (by rfl) (fun u hu => ?_) hS ?_
  rotate_left
  · ((have hT := HT2.out.below hu; obtain ⟨b0, b1, b2⟩ := obj_cells3 hT.2.1; clear hT); go_simp; try (with_reducible rfl))
  try simp only [Act.put, List.setIfInBounds_toArray, List.set_cons_zero, List.set_cons_succ]
  refine give_val (i := 6) (v := ?_) rfl (by kernel_rfl) (by kernel_rfl) (by kernel_rfl) (fun _ _ _ h => h) (by rfl) (fun u hu => ?_) hS ?_
  rotate_left
  · ((have hT := HT2.out.below hu; obtain ⟨b0, b1, b2⟩ := obj_cells3 hT.2.1; clear hT); go_simp; try (with_reducible rfl))
  try simp only [Act.put, List.setIfInBounds_toArray, List.set_cons_zero, List.set_cons_succ]
  refine give_val (i := 7) (v := (.int .i64 y1)) rfl (by kernel_rfl) (by kernel_rfl) (by kernel_rfl) (fun _ _ _ h => h) (by rfl) (fun u hu => ?_) hS ?_
  · ((have hT := HT2.out.below hu; obtain ⟨b0, b1, b2⟩ := obj_cells3 hT.2.1; clear hT); go_simp; (have h9 := HY.out; first | omega | (rw [IntWalk.i64_in _ (by omega)]; omega)))
  try simp only [Act.put, List.setIfInBounds_toArray, List.set_cons_zero, List.set_cons_succ]
  refine give_val (i := 8) (v := ?_) rfl (by kernel_rfl) (by kernel_rfl) (by kernel_rfl) (fun _ _ _ h => h) (by rfl) (fun u hu => ?_) hS ?_
  rotate_left
  · ((have hT := HT2.out.below hu; obtain ⟨b0, b1, b2⟩ := obj_cells3 hT.2.1; clear hT); go_simp; try (with_reducible rfl))
  try simp only [Act.put, List.setIfInBounds_toArray, List.set_cons_zero, List.set_cons_succ]
  refine give_val (i := 9) (v := ?_) rfl (by kernel_rfl) (by kernel_rfl) (by kernel_rfl) (fun _ _ _ h => h) (by rfl) (fun u hu => ?_) hS ?_
  rotate_left
  · ((have hT := HT2.out.below hu; obtain ⟨b0, b1, b2⟩ := obj_cells3 hT.2.1; clear hT); go_simp; try (with_reducible rfl))
  try simp only [Act.put, List.setIfInBounds_toArray, List.set_cons_zero, List.set_cons_succ]
  refine give_val (i := 10) (v := ?_) rfl (by kernel_rfl) (by kernel_rfl) (by kernel_rfl) (fun _ _ _ h => h) (by rfl) (fun u hu => ?_) hS ?_
  rotate_left
  · ((have hT := HT2.out.below hu; obtain ⟨b0, b1, b2⟩ := obj_cells3 hT.2.1; clear hT); go_simp; try (with_reducible rfl))
  try simp only [Act.put, List.setIfInBounds_toArray, List.set_cons_zero, List.set_cons_succ]
  refine give_val (i := 11) (v := ?_) rfl (by kernel_rfl) (by kernel_rfl) (by kernel_rfl) (fun _ _ _ h => h) (by rfl) (fun u hu => ?_) hS ?_
  rotate_left
  · ((have hT := HT2.out.below hu; obtain ⟨b0, b1, b2⟩ := obj_cells3 hT.2.1; clear hT); go_simp; try (with_reducible rfl))
  try simp only [Act.put, List.setIfInBounds_toArray, List.set_cons_zero, List.set_cons_succ]
  refine wpAnyH_done (by kernel_rfl) (NoPanic.normal ?_) _
  clear hwr hix hci HY
  have HT3 := Lib.hid (HT2.out.below hS)
  have HI3 := Lib.hid (HI2.out.below hS)
  clear hS HT2 HI2
  rename World => w3
  obtain ⟨c0, c1, c2, c3⟩ := obj_cells HT3.out.2.2.1
  obtain ⟨d0, d1, d2, d3⟩ := obj_cells HT3.out.2.2.2.1
  obtain ⟨e0, e1, _, _⟩ := obj_cells HT3.out.2.2.2.2
  go_wp2
  obtain ⟨k1, k2, k3⟩ := two_set (w := w) HT3.out.2.2.1 HT3.out.2.2.2.1 (by omega) (by omega) (by omega) HT3.out.1 (.string ⟨#[]⟩) (.slice none 0 0) (.int .i64 7) (.int .i64 0)
  refine bodyPost_ret (results_two rfl _ _ (w.heap.size + 1) (w.heap.size + 2) _ _ _ _ _ _ _ _ rfl k1 rfl k2 Tryd.underlying28 rfl (by kernel_rfl) Tryd.underlying31 rfl (by kernel_rfl)) rfl ?_
  exact ⟨none, 0, rfl, tlvs_nil _ _, k3⟩
set_option maxRecDepth 100000 in
set_option maxHeartbeats 6400000 in
theorem sref_bmp1 (v : Int) (A : Option Addr) (ca : Nat) (sl : List Sp) (b : ByteArray) (w : World) (hI : Spl w A sl) (hn : sl.length ≤ 1000) (h : (schN 1 v sl).1 = 0) (h2 : 4 ≤ b.size) (t : ByteArray) (hcut : ∀ W : World, (Instr.slice 9 (.string b) none (some (.int .i64 4)) none).run Tryd.prog W = .ok (.string t) W) (ht : t.size ≤ maxLen) (hm : mtiB t.data.toList = true) (c0 : Nat) (y1 : Int) (hix : ∀ W, (Instr.index 9 (.string t) (.int .i64 0)).run Tryd.prog W = .ok (.int .u8 (c0 : Int)) W) (hc : c0 < 256) (hy : (c0 : Int) - 48 = y1) (hv : y1 = v) (G : Got) (hG : ∀ W, Calls Tryd.prog 24 #[.int .i64 1, .string b, .int .i64 4] W fun e w' => ListsN G W w' e) (hx : G.err ≠ 0) :
    Calls Tryd.prog 11 #[.agg #[.int .i64 1, .int .i64 v, .slice A sl.length ca], .string b] w fun e w' => DecTo (t, [], ((G.err : Int), 1)) w w' e := by
  subst hv
  have HC := Lib.hid (fun W hW => sright_any 1 y1 A ca sl W hW hn)
  rw [decide_eq_true h] at HC
  have HT := Lib.hid (rquad_new w 1 y1 A sl.length ca)
  have HI := Lib.hid (hI.below HT.out.1)
  have HG := Lib.hid hG
  have tx : ((G.err : Int) != 0) = true := by simpa using hx
  have tb : decide ((b.size : Int) < 4) = false := by simp; omega
  have HM := Lib.hid (fun W => mrefRight_any t W ht)
  rw [hm] at HM
  have hci : (c0 : Int) < 1000 := by omega
  have HY : Hid ((c0 : Int) - 48 = y1 ∧ (c0 : Int) < 1000) := ⟨hy, hci⟩
  have hwr : IntKind.i64.wrap (c0 : Int) = (c0 : Int) := IntWalk.i64_in _ (by omega)
  clear hI h ht hm hc hy hG hx
  unfold ListsN at HG
  generalize (zi (listN G.high G.low 128)) = zs at *
  generalize zs.length = zn at *
  generalize G.err = ge at *
  generalize G.next = gn at *
  generalize sl.length = len at *
  go_enter Tryd.func11, Tryd.ntmps11
  go_wp2_with fail
  generalize (((w.alloc (.cells #[.int .i64 1, .int .i64 y1, .slice A len ca] 24)).alloc (.cells #[.string ⟨#[]⟩, .slice none 0 0] 28)).alloc (.cells #[.int .i64 0, .int .i64 0] 31)).alloc (.cells #[.string ⟨#[]⟩, .slice none 0 0] 28) = U at *
  refine (HC.out _ HI.out).mono ?_
  rintro e w1 ⟨rfl, hb1⟩
  have HT1 := Lib.hid (HT.out.below hb1)
  have HI1 := Lib.hid (HI.out.below hb1)
  clear hb1 HT HI HC
  obtain ⟨s0, s1, s2⟩ := obj_cells3 HT1.out.2.1
  go_wp2_with fail
  have HT2 := Lib.hid HT1.out
  have HI2 := Lib.hid HI1.out
  clear HT1 HI1 s0 s1 s2
  rename World => w2
  clear hcut tb
  refine wp_region_noPanic ?_
  refine wp_region_held_drew (S := (fun u => Below w2.heap.size w2 u)) (by kernel_rfl) ((Below.refl _ _).drew) (fun hS => ?_)
  refine give_val (i := 0) (v := ?_) rfl (by kernel_rfl) (by kernel_rfl) (by kernel_rfl) (fun _ _ _ h => h) (by rfl) (fun u hu => ?_) hS ?_
  rotate_left
  · ((have hT := HT2.out.below hu; obtain ⟨b0, b1, b2⟩ := obj_cells3 hT.2.1; clear hT); go_simp; try (with_reducible rfl))
  try simp only [Act.put, List.setIfInBounds_toArray, List.set_cons_zero, List.set_cons_succ]
  refine only_call (i := 1) 23 #[.string t] rfl (by kernel_rfl) (by rfl) ((HM.out _).mono fun e w' he => ⟨he.1, he.2 ▸ hS⟩) ?_ ?_
  · (go_simp; try (with_reducible rfl))
  clear hS
  intro w1 hS
  try simp only [Act.put, List.setIfInBounds_toArray, List.set_cons_zero, List.set_cons_succ]
  refine give_val (i := 2) (v := ?_) rfl (by kernel_rfl) (by kernel_rfl) (by kernel_rfl) (fun _ _ _ h => h) (by rfl) (fun u hu => ?_) hS ?_
  rotate_left
  · ((have hT := HT2.out.below hu; obtain ⟨b0, b1, b2⟩ := obj_cells3 hT.2.1; clear hT); go_simp; try (with_reducible rfl))
  try simp only [Act.put, List.setIfInBounds_toArray, List.set_cons_zero, List.set_cons_succ]
  refine give_val (i := 3) (v := ?_) rfl (by kernel_rfl) (by kernel_rfl) (by kernel_rfl) (fun _ _ _ h => h) (by rfl) (fun u hu => ?_) hS ?_
  rotate_left
  · ((have hT := HT2.out.below hu; obtain ⟨b0, b1, b2⟩ := obj_cells3 hT.2.1; clear hT); go_simp; try (with_reducible rfl))
  try simp only [Act.put, List.setIfInBounds_toArray, List.set_cons_zero, List.set_cons_succ]
  refine give_val (i := 4) (v := ?_) rfl (by kernel_rfl) (by kernel_rfl) (by kernel_rfl) (fun _ _ _ h => h) (by rfl) (fun u hu => ?_) hS ?_
  rotate_left
  · ((have hT := HT2.out.below hu; obtain ⟨b0, b1, b2⟩ := obj_cells3 hT.2.1; clear hT); go_simp; try (with_reducible rfl))
  try simp only [Act.put, List.setIfInBounds_toArray, List.set_cons_zero, List.set_cons_succ]
  refine give_val (i := 5) (v := ?_) rfl (by kernel_rfl) (by kernel_rfl) (by kernel_rfl) (fun _ _ _ h => h) (by rfl) (fun u hu => ?_) hS ?_
  rotate_left
  · ((have hT := HT2.out.below hu; obtain ⟨b0, b1, b2⟩ := obj_cells3 hT.2.1; clear hT); go_simp; try (with_reducible rfl))
  try simp only [Act.put, List.setIfInBounds_toArray, List.set_cons_zero, List.set_cons_succ]
  refine give_val (i := 6) (v := ?_) rfl (by kernel_rfl) (by kernel_rfl) (by kernel_rfl) (fun _ _ _ h => h) (by rfl) (fun u hu => ?_) hS ?_
  rotate_left
  · ((have hT := HT2.out.below hu; obtain ⟨b0, b1, b2⟩ := obj_cells3 hT.2.1; clear hT); go_simp; try (with_reducible rfl))
  try simp only [Act.put, List.setIfInBounds_toArray, List.set_cons_zero, List.set_cons_succ]
  refine give_val (i := 7) (v := (.int .i64 y1)) rfl (by kernel_rfl) (by kernel_rfl) (by kernel_rfl) (fun _ _ _ h => h) (by rfl) (fun u hu => ?_) hS ?_
  · ((have hT := HT2.out.below hu; obtain ⟨b0, b1, b2⟩ := obj_cells3 hT.2.1; clear hT); go_simp; (have h9 := HY.out; first | omega | (rw [IntWalk.i64_in _ (by omega)]; omega)))
  try simp only [Act.put, List.setIfInBounds_toArray, List.set_cons_zero, List.set_cons_succ]
  refine give_val (i := 8) (v := ?_) rfl (by kernel_rfl) (by kernel_rfl) (by kernel_rfl) (fun _ _ _ h => h) (by rfl) (fun u hu => ?_) hS ?_
  rotate_left
  · ((have hT := HT2.out.below hu; obtain ⟨b0, b1, b2⟩ := obj_cells3 hT.2.1; clear hT); go_simp; try (with_reducible rfl))
  try simp only [Act.put, List.setIfInBounds_toArray, List.set_cons_zero, List.set_cons_succ]
  refine give_val (i := 9) (v := ?_) rfl (by kernel_rfl) (by kernel_rfl) (by kernel_rfl) (fun _ _ _ h => h) (by rfl) (fun u hu => ?_) hS ?_
  rotate_left
  · ((have hT := HT2.out.below hu; obtain ⟨b0, b1, b2⟩ := obj_cells3 hT.2.1; clear hT); go_simp; try (with_reducible rfl))
  try simp only [Act.put, List.setIfInBounds_toArray, List.set_cons_zero, List.set_cons_succ]
  refine give_val (i := 10) (v := ?_) rfl (by kernel_rfl) (by kernel_rfl) (by kernel_rfl) (fun _ _ _ h => h) (by rfl) (fun u hu => ?_) hS ?_
  rotate_left
  · ((have hT := HT2.out.below hu; obtain ⟨b0, b1, b2⟩ := obj_cells3 hT.2.1; clear hT); go_simp; try (with_reducible rfl))
  try simp only [Act.put, List.setIfInBounds_toArray, List.set_cons_zero, List.set_cons_succ]
  refine give_val (i := 11) (v := ?_) rfl (by kernel_rfl) (by kernel_rfl) (by kernel_rfl) (fun _ _ _ h => h) (by rfl) (fun u hu => ?_) hS ?_
  rotate_left
  · ((have hT := HT2.out.below hu; obtain ⟨b0, b1, b2⟩ := obj_cells3 hT.2.1; clear hT); go_simp; try (with_reducible rfl))
  try simp only [Act.put, List.setIfInBounds_toArray, List.set_cons_zero, List.set_cons_succ]
  refine wpAnyH_done (by kernel_rfl) (NoPanic.normal ?_) _
  clear hwr hix hci HY
  have HT3 := Lib.hid (HT2.out.below hS)
  have HI3 := Lib.hid (HI2.out.below hS)
  clear hS HT2 HI2
  rename World => w3
  obtain ⟨z0, z1, z2, z3⟩ := obj_cells HT3.out.2.2.2.2
  obtain ⟨s0, s1, s2⟩ := obj_cells3 HT3.out.2.1
  go_wp2_with fail
  have HT4 := Lib.hid (HT3.out.store t)
  have HI4 : Hid (Spl (w3.setCell ⟨w.heap.size + 3, 0, none⟩ (.string t)) A sl) := (KeepX.set (U := w3) (u := w3) (g := w.heap.size + 3) ⟨Nat.le_refl _, fun _ _ _ => rfl⟩ 0 (.string t)).spl HI3.out HT3.out.2.2.2.2
  clear HT3 HI3 z0 z1 z2 z3 s0 s1 s2
  generalize w3.setCell ⟨w.heap.size + 3, 0, none⟩ (.string t) = U4 at *
  refine (HG.out _).mono ?_
  rintro e w5 ⟨A5, c5, rfl, hi5, hb5⟩
  have HT5 := Lib.hid (HT4.out.below hb5)
  clear hb5 hi5 HT4 HI4
  obtain ⟨c0, c1, c2, c3⟩ := obj_cells HT5.out.2.2.1
  obtain ⟨d0, d1, d2, d3⟩ := obj_cells HT5.out.2.2.2.1
  obtain ⟨e0, e1, _, _⟩ := obj_cells HT5.out.2.2.2.2
  go_wp2
  obtain ⟨k1, k2, k3⟩ := two_set (w := w) HT5.out.2.2.1 HT5.out.2.2.2.1 (by omega) (by omega) (by omega) HT5.out.1 (.string t) (.slice none 0 0) (.int .i64 (ge : Int)) (.int .i64 1)
  refine bodyPost_ret (results_two rfl _ _ (w.heap.size + 1) (w.heap.size + 2) _ _ _ _ _ _ _ _ rfl k1 rfl k2 Tryd.underlying28 rfl (by kernel_rfl) Tryd.underlying31 rfl (by kernel_rfl)) rfl ?_
  exact ⟨none, 0, rfl, tlvs_nil _ _, k3⟩
set_option maxRecDepth 100000 in
set_option maxHeartbeats 3200000 in
theorem sref_short2 (v : Int) (A : Option Addr) (ca : Nat) (sl : List Sp) (b : ByteArray) (w : World) (hI : Spl w A sl) (hn : sl.length ≤ 1000) (h : (schN 2 v sl).1 = 0) (h2 : b.size < 2) :
    Calls Tryd.prog 11 #[.agg #[.int .i64 2, .int .i64 v, .slice A sl.length ca], .string b] w fun e w' => DecTo (⟨#[]⟩, [], (2, 0)) w w' e := by
  have HC := Lib.hid (fun W hW => sright_any 2 v A ca sl W hW hn)
  rw [decide_eq_true h] at HC
  have HT := Lib.hid (rquad_new w 2 v A sl.length ca)
  have HI := Lib.hid (hI.below HT.out.1)
  have tb : decide ((b.size : Int) < 2) = true := by simp; omega
  clear hI h h2
  generalize sl.length = len at *
  go_enter Tryd.func11, Tryd.ntmps11
  go_wp2_with fail
  generalize (((w.alloc (.cells #[.int .i64 2, .int .i64 v, .slice A len ca] 24)).alloc (.cells #[.string ⟨#[]⟩, .slice none 0 0] 28)).alloc (.cells #[.int .i64 0, .int .i64 0] 31)).alloc (.cells #[.string ⟨#[]⟩, .slice none 0 0] 28) = U at *
  refine (HC.out _ HI.out).mono ?_
  rintro e w1 ⟨rfl, hb1⟩
  have HT1 := Lib.hid (HT.out.below hb1)
  have HI1 := Lib.hid (HI.out.below hb1)
  clear hb1 HT HI HC
  obtain ⟨s0, s1, s2⟩ := obj_cells3 HT1.out.2.1
  obtain ⟨c0, c1, c2, c3⟩ := obj_cells HT1.out.2.2.1
  obtain ⟨d0, d1, d2, d3⟩ := obj_cells HT1.out.2.2.2.1
  obtain ⟨e0, e1, _, _⟩ := obj_cells HT1.out.2.2.2.2
  go_wp2
  obtain ⟨k1, k2, k3⟩ := two_set (w := w) HT1.out.2.2.1 HT1.out.2.2.2.1 (by omega) (by omega) (by omega) HT1.out.1 (.string ⟨#[]⟩) (.slice none 0 0) (.int .i64 2) (.int .i64 0)
  refine bodyPost_ret (results_two rfl _ _ (w.heap.size + 1) (w.heap.size + 2) _ _ _ _ _ _ _ _ rfl k1 rfl k2 Tryd.underlying28 rfl (by kernel_rfl) Tryd.underlying31 rfl (by kernel_rfl)) rfl ?_
  exact ⟨none, 0, rfl, tlvs_nil _ _, k3⟩
set_option maxRecDepth 100000 in
set_option maxHeartbeats 3200000 in
theorem sref_none2 (v : Int) (A : Option Addr) (ca : Nat) (sl : List Sp) (b : ByteArray) (w : World) (hI : Spl w A sl) (hn : sl.length ≤ 1000) (h : (schN 2 v sl).1 = 0) (h2 : 2 ≤ b.size) (t t0 : ByteArray) (hcut : ∀ W : World, (Instr.slice 9 (.string b) none (some (.int .i64 2)) none).run Tryd.prog W = .ok (.string t0) W) (x : Int) (y : Int) (hbcd : ∀ W, Calls Tryd.prog 22 #[.string t0, .int .i64 4] W fun e w' => e = .returned (.tuple #[.string t, .int .i64 x, .int .i64 y]) ∧ Below W.heap.size W w') (ht : t.size ≤ maxLen) (hm : mtiB t.data.toList = false) :
    Calls Tryd.prog 11 #[.agg #[.int .i64 2, .int .i64 v, .slice A sl.length ca], .string b] w fun e w' => DecTo (⟨#[]⟩, [], (7, 0)) w w' e := by
  have HC := Lib.hid (fun W hW => sright_any 2 v A ca sl W hW hn)
  rw [decide_eq_true h] at HC
  have HT := Lib.hid (rquad_new w 2 v A sl.length ca)
  have HI := Lib.hid (hI.below HT.out.1)
  have tb : decide ((b.size : Int) < 2) = false := by simp; omega
  have HM := Lib.hid (fun W => mrefRight_any t W ht)
  rw [hm] at HM
  have HBC := Lib.hid hbcd
  clear hbcd
  clear hI h ht hm
  generalize sl.length = len at *
  go_enter Tryd.func11, Tryd.ntmps11
  go_wp2_with fail
  generalize (((w.alloc (.cells #[.int .i64 2, .int .i64 v, .slice A len ca] 24)).alloc (.cells #[.string ⟨#[]⟩, .slice none 0 0] 28)).alloc (.cells #[.int .i64 0, .int .i64 0] 31)).alloc (.cells #[.string ⟨#[]⟩, .slice none 0 0] 28) = U at *
  refine (HC.out _ HI.out).mono ?_
  rintro e w1 ⟨rfl, hb1⟩
  have HT1 := Lib.hid (HT.out.below hb1)
  have HI1 := Lib.hid (HI.out.below hb1)
  clear hb1 HT HI HC
  obtain ⟨s0, s1, s2⟩ := obj_cells3 HT1.out.2.1
  go_wp2_with fail
  refine (HBC.out _).mono ?_
  rintro e w2 ⟨rfl, hb2⟩
  have HT2 := Lib.hid (HT1.out.below hb2)
  have HI2 := Lib.hid (HI1.out.below hb2)
  clear hb2 HT1 HI1 s0 s1 s2
  go_wp2_with fail
  clear hcut tb
  refine wp_region_noPanic ?_
  refine wp_region_held_drew (S := (fun u => Below w2.heap.size w2 u)) (by kernel_rfl) ((Below.refl _ _).drew) (fun hS => ?_)
  refine give_val (i := 0) (v := ?_) rfl (by kernel_rfl) (by kernel_rfl) (by kernel_rfl) (fun _ _ _ h => h) (by rfl) (fun u hu => ?_) hS ?_
  rotate_left
  · ((have hT := HT2.out.below hu; obtain ⟨b0, b1, b2⟩ := obj_cells3 hT.2.1; clear hT); go_simp; try (with_reducible rfl))
  try simp only [Act.put, List.setIfInBounds_toArray, List.set_cons_zero, List.set_cons_succ]
  refine only_call (i := 1) 23 #[.string t] rfl (by kernel_rfl) (by rfl) ((HM.out _).mono fun e w' he => ⟨he.1, he.2 ▸ hS⟩) ?_ ?_
  · (go_simp; try (with_reducible rfl))
  clear hS
  intro w1 hS
  try simp only [Act.put, List.setIfInBounds_toArray, List.set_cons_zero, List.set_cons_succ]
  refine give_val (i := 2) (v := ?_) rfl (by kernel_rfl) (by kernel_rfl) (by kernel_rfl) (fun _ _ _ h => h) (by rfl) (fun u hu => ?_) hS ?_
  rotate_left
  · ((have hT := HT2.out.below hu; obtain ⟨b0, b1, b2⟩ := obj_cells3 hT.2.1; clear hT); go_simp; try (with_reducible rfl))
  try simp only [Act.put, List.setIfInBounds_toArray, List.set_cons_zero, List.set_cons_succ]
  refine give_val (i := 3) (v := ?_) rfl (by kernel_rfl) (by kernel_rfl) (by kernel_rfl) (fun _ _ _ h => h) (by rfl) (fun u hu => ?_) hS ?_
  rotate_left
  · ((have hT := HT2.out.below hu; obtain ⟨b0, b1, b2⟩ := obj_cells3 hT.2.1; clear hT); go_simp; try (with_reducible rfl))
  try simp only [Act.put, List.setIfInBounds_toArray, List.set_cons_zero, List.set_cons_succ]
  refine give_skip (i := 4) rfl (by kernel_rfl) (by kernel_rfl) (by kernel_rfl) (fun _ _ _ h => h) (by rfl) hS ?_
  try simp only [Act.put, List.setIfInBounds_toArray, List.set_cons_zero, List.set_cons_succ]
  refine give_skip (i := 5) rfl (by kernel_rfl) (by kernel_rfl) (by kernel_rfl) (fun _ _ _ h => h) (by rfl) hS ?_
  try simp only [Act.put, List.setIfInBounds_toArray, List.set_cons_zero, List.set_cons_succ]
  refine give_skip (i := 6) rfl (by kernel_rfl) (by kernel_rfl) (by kernel_rfl) (fun _ _ _ h => h) (by rfl) hS ?_
  try simp only [Act.put, List.setIfInBounds_toArray, List.set_cons_zero, List.set_cons_succ]
  refine give_skip (i := 7) rfl (by kernel_rfl) (by kernel_rfl) (by kernel_rfl) (fun _ _ _ h => h) (by rfl) hS ?_
  try simp only [Act.put, List.setIfInBounds_toArray, List.set_cons_zero, List.set_cons_succ]
  refine give_skip (i := 8) rfl (by kernel_rfl) (by kernel_rfl) (by kernel_rfl) (fun _ _ _ h => h) (by rfl) hS ?_
  try simp only [Act.put, List.setIfInBounds_toArray, List.set_cons_zero, List.set_cons_succ]
  refine give_skip (i := 9) rfl (by kernel_rfl) (by kernel_rfl) (by kernel_rfl) (fun _ _ _ h => h) (by rfl) hS ?_
  try simp only [Act.put, List.setIfInBounds_toArray, List.set_cons_zero, List.set_cons_succ]
  refine give_skip (i := 10) rfl (by kernel_rfl) (by kernel_rfl) (by kernel_rfl) (fun _ _ _ h => h) (by rfl) hS ?_
  try simp only [Act.put, List.setIfInBounds_toArray, List.set_cons_zero, List.set_cons_succ]
  refine give_val (i := 11) (v := ?_) rfl (by kernel_rfl) (by kernel_rfl) (by kernel_rfl) (fun _ _ _ h => h) (by rfl) (fun u hu => ?_) hS ?_
  rotate_left
  · ((have hT := HT2.out.below hu; obtain ⟨b0, b1, b2⟩ := obj_cells3 hT.2.1; clear hT); go_simp; try (with_reducible rfl))
  try simp only [Act.put, List.setIfInBounds_toArray, List.set_cons_zero, List.set_cons_succ]
  refine wpAnyH_done (by kernel_rfl) (NoPanic.normal ?_) _
  have HT3 := Lib.hid (HT2.out.below hS)
  clear hS
  obtain ⟨c0, c1, c2, c3⟩ := obj_cells HT3.out.2.2.1
  obtain ⟨d0, d1, d2, d3⟩ := obj_cells HT3.out.2.2.2.1
  obtain ⟨e0, e1, _, _⟩ := obj_cells HT3.out.2.2.2.2
  go_wp2
  obtain ⟨k1, k2, k3⟩ := two_set (w := w) HT3.out.2.2.1 HT3.out.2.2.2.1 (by omega) (by omega) (by omega) HT3.out.1 (.string ⟨#[]⟩) (.slice none 0 0) (.int .i64 7) (.int .i64 0)
  refine bodyPost_ret (results_two rfl _ _ (w.heap.size + 1) (w.heap.size + 2) _ _ _ _ _ _ _ _ rfl k1 rfl k2 Tryd.underlying28 rfl (by kernel_rfl) Tryd.underlying31 rfl (by kernel_rfl)) rfl ?_
  exact ⟨none, 0, rfl, tlvs_nil _ _, k3⟩
set_option maxRecDepth 100000 in
set_option maxHeartbeats 3200000 in
theorem sref_version2 (v : Int) (A : Option Addr) (ca : Nat) (sl : List Sp) (b : ByteArray) (w : World) (hI : Spl w A sl) (hn : sl.length ≤ 1000) (h : (schN 2 v sl).1 = 0) (h2 : 2 ≤ b.size) (t t0 : ByteArray) (hcut : ∀ W : World, (Instr.slice 9 (.string b) none (some (.int .i64 2)) none).run Tryd.prog W = .ok (.string t0) W) (x : Int) (y : Int) (hbcd : ∀ W, Calls Tryd.prog 22 #[.string t0, .int .i64 4] W fun e w' => e = .returned (.tuple #[.string t, .int .i64 x, .int .i64 y]) ∧ Below W.heap.size W w') (ht : t.size ≤ maxLen) (hm : mtiB t.data.toList = true) (c0 : Nat) (y1 : Int) (hix : ∀ W, (Instr.index 9 (.string t) (.int .i64 0)).run Tryd.prog W = .ok (.int .u8 (c0 : Int)) W) (hc : c0 < 256) (hy : (c0 : Int) - 48 = y1) (hv : y1 ≠ v) :
    Calls Tryd.prog 11 #[.agg #[.int .i64 2, .int .i64 v, .slice A sl.length ca], .string b] w fun e w' => DecTo (⟨#[]⟩, [], (7, 0)) w w' e := by
  have HC := Lib.hid (fun W hW => sright_any 2 v A ca sl W hW hn)
  rw [decide_eq_true h] at HC
  have HT := Lib.hid (rquad_new w 2 v A sl.length ca)
  have HI := Lib.hid (hI.below HT.out.1)
  have tv : (y1 != v) = true := by simpa using hv
  have tb : decide ((b.size : Int) < 2) = false := by simp; omega
  have HM := Lib.hid (fun W => mrefRight_any t W ht)
  rw [hm] at HM
  have hci : (c0 : Int) < 1000 := by omega
  have HY : Hid ((c0 : Int) - 48 = y1 ∧ (c0 : Int) < 1000) := ⟨hy, hci⟩
  have hwr : IntKind.i64.wrap (c0 : Int) = (c0 : Int) := IntWalk.i64_in _ (by omega)
  have HBC := Lib.hid hbcd
  clear hbcd
  clear hI h ht hm hc hy hv
  generalize sl.length = len at *
  go_enter Tryd.func11, Tryd.ntmps11
  go_wp2_with fail
  generalize (((w.alloc (.cells #[.int .i64 2, .int .i64 v, .slice A len ca] 24)).alloc (.cells #[.string ⟨#[]⟩, .slice none 0 0] 28)).alloc (.cells #[.int .i64 0, .int .i64 0] 31)).alloc (.cells #[.string ⟨#[]⟩, .slice none 0 0] 28) = U at *
  refine (HC.out _ HI.out).mono ?_
  rintro e w1 ⟨rfl, hb1⟩
  have HT1 := Lib.hid (HT.out.below hb1)
  have HI1 := Lib.hid (HI.out.below hb1)
  clear hb1 HT HI HC
  obtain ⟨s0, s1, s2⟩ := obj_cells3 HT1.out.2.1
  go_wp2_with fail
  refine (HBC.out _).mono ?_
  rintro e w2 ⟨rfl, hb2⟩
  have HT2 := Lib.hid (HT1.out.below hb2)
  have HI2 := Lib.hid (HI1.out.below hb2)
  clear hb2 HT1 HI1 s0 s1 s2
  go_wp2_with fail
  clear hcut tb
  refine wp_region_noPanic ?_
  refine wp_region_held_drew (S := (fun u => Below w2.heap.size w2 u)) (by kernel_rfl) ((Below.refl _ _).drew) (fun hS => ?_)
  refine give_val (i := 0) (v := ?_) rfl (by kernel_rfl) (by kernel_rfl) (by kernel_rfl) (fun _ _ _ h => h) (by rfl) (fun u hu => ?_) hS ?_
  rotate_left
  · ((have hT := HT2.out.below hu; obtain ⟨b0, b1, b2⟩ := obj_cells3 hT.2.1; clear hT); go_simp; try (with_reducible rfl))
  try simp only [Act.put, List.setIfInBounds_toArray, List.set_cons_zero, List.set_cons_succ]
  refine only_call (i := 1) 23 #[.string t] rfl (by kernel_rfl) (by rfl) ((HM.out _).mono fun e w' he => ⟨he.1, he.2 ▸ hS⟩) ?_ ?_
  · (go_simp; try (with_reducible rfl))
  clear hS
  intro w1 hS
  try simp only [Act.put, List.setIfInBounds_toArray, List.set_cons_zero, List.set_cons_succ]
  refine give_val (i := 2) (v := ?_) rfl (by kernel_rfl) (by kernel_rfl) (by kernel_rfl) (fun _ _ _ h => h) (by rfl) (fun u hu => ?_) hS ?_
  rotate_left
  · ((have hT := HT2.out.below hu; obtain ⟨b0, b1, b2⟩ := obj_cells3 hT.2.1; clear hT); go_simp; try (with_reducible rfl))
  try simp only [Act.put, List.setIfInBounds_toArray, List.set_cons_zero, List.set_cons_succ]
  refine give_val (i := 3) (v := ?_) rfl (by kernel_rfl) (by kernel_rfl) (by kernel_rfl) (fun _ _ _ h => h) (by rfl) (fun u hu => ?_) hS ?_
  rotate_left
  · ((have hT := HT2.out.below hu; obtain ⟨b0, b1, b2⟩ := obj_cells3 hT.2.1; clear hT); go_simp; try (with_reducible rfl))
  try simp only [Act.put, List.setIfInBounds_toArray, List.set_cons_zero, List.set_cons_succ]
  refine give_val (i := 4) (v := ?_) rfl (by kernel_rfl) (by kernel_rfl) (by kernel_rfl) (fun _ _ _ h => h) (by rfl) (fun u hu => ?_) hS ?_
  rotate_left
  · ((have hT := HT2.out.below hu; obtain ⟨b0, b1, b2⟩ := obj_cells3 hT.2.1; clear hT); go_simp; try (with_reducible rfl))
  try simp only [Act.put, List.setIfInBounds_toArray, List.set_cons_zero, List.set_cons_succ]
  refine give_val (i := 5) (v := ?_) rfl (by kernel_rfl) (by kernel_rfl) (by kernel_rfl) (fun _ _ _ h => h) (by rfl) (fun u hu => ?_) hS ?_
  rotate_left
  · ((have hT := HT2.out.below hu; obtain ⟨b0, b1, b2⟩ := obj_cells3 hT.2.1; clear hT); go_simp; try (with_reducible rfl))
  try simp only [Act.put, List.setIfInBounds_toArray, List.set_cons_zero, List.set_cons_succ]
  refine give_val (i := 6) (v := ?_) rfl (by kernel_rfl) (by kernel_rfl) (by kernel_rfl) (fun _ _ _ h => h) (by rfl) (fun u hu => ?_) hS ?_
  rotate_left
  · ((have hT := HT2.out.below hu; obtain ⟨b0, b1, b2⟩ := obj_cells3 hT.2.1; clear hT); go_simp; try (with_reducible rfl))
  try simp only [Act.put, List.setIfInBounds_toArray, List.set_cons_zero, List.set_cons_succ]
  refine give_val (i := 7) (v := (.int .i64 y1)) rfl (by kernel_rfl) (by kernel_rfl) (by kernel_rfl) (fun _ _ _ h => h) (by rfl) (fun u hu => ?_) hS ?_
  · ((have hT := HT2.out.below hu; obtain ⟨b0, b1, b2⟩ := obj_cells3 hT.2.1; clear hT); go_simp; (have h9 := HY.out; first | omega | (rw [IntWalk.i64_in _ (by omega)]; omega)))
  try simp only [Act.put, List.setIfInBounds_toArray, List.set_cons_zero, List.set_cons_succ]
  refine give_val (i := 8) (v := ?_) rfl (by kernel_rfl) (by kernel_rfl) (by kernel_rfl) (fun _ _ _ h => h) (by rfl) (fun u hu => ?_) hS ?_
  rotate_left
  · ((have hT := HT2.out.below hu; obtain ⟨b0, b1, b2⟩ := obj_cells3 hT.2.1; clear hT); go_simp; try (with_reducible rfl))
  try simp only [Act.put, List.setIfInBounds_toArray, List.set_cons_zero, List.set_cons_succ]
  refine give_val (i := 9) (v := ?_) rfl (by kernel_rfl) (by kernel_rfl) (by kernel_rfl) (fun _ _ _ h => h) (by rfl) (fun u hu => ?_) hS ?_
  rotate_left
  · ((have hT := HT2.out.below hu; obtain ⟨b0, b1, b2⟩ := obj_cells3 hT.2.1; clear hT); go_simp; try (with_reducible rfl))
  try simp only [Act.put, List.setIfInBounds_toArray, List.set_cons_zero, List.set_cons_succ]
  refine give_val (i := 10) (v := ?_) rfl (by kernel_rfl) (by kernel_rfl) (by kernel_rfl) (fun _ _ _ h => h) (by rfl) (fun u hu => ?_) hS ?_
  rotate_left
  · ((have hT := HT2.out.below hu; obtain ⟨b0, b1, b2⟩ := obj_cells3 hT.2.1; clear hT); go_simp; try (with_reducible rfl))
  try simp only [Act.put, List.setIfInBounds_toArray, List.set_cons_zero, List.set_cons_succ]
  refine give_val (i := 11) (v := ?_) rfl (by kernel_rfl) (by kernel_rfl) (by kernel_rfl) (fun _ _ _ h => h) (by rfl) (fun u hu => ?_) hS ?_
  rotate_left
  · ((have hT := HT2.out.below hu; obtain ⟨b0, b1, b2⟩ := obj_cells3 hT.2.1; clear hT); go_simp; try (with_reducible rfl))
  try simp only [Act.put, List.setIfInBounds_toArray, List.set_cons_zero, List.set_cons_succ]
  refine wpAnyH_done (by kernel_rfl) (NoPanic.normal ?_) _
  clear hwr hix hci HY
  have HT3 := Lib.hid (HT2.out.below hS)
  have HI3 := Lib.hid (HI2.out.below hS)
  clear hS HT2 HI2
  rename World => w3
  obtain ⟨c0, c1, c2, c3⟩ := obj_cells HT3.out.2.2.1
  obtain ⟨d0, d1, d2, d3⟩ := obj_cells HT3.out.2.2.2.1
  obtain ⟨e0, e1, _, _⟩ := obj_cells HT3.out.2.2.2.2
  go_wp2
  obtain ⟨k1, k2, k3⟩ := two_set (w := w) HT3.out.2.2.1 HT3.out.2.2.2.1 (by omega) (by omega) (by omega) HT3.out.1 (.string ⟨#[]⟩) (.slice none 0 0) (.int .i64 7) (.int .i64 0)
  refine bodyPost_ret (results_two rfl _ _ (w.heap.size + 1) (w.heap.size + 2) _ _ _ _ _ _ _ _ rfl k1 rfl k2 Tryd.underlying28 rfl (by kernel_rfl) Tryd.underlying31 rfl (by kernel_rfl)) rfl ?_
  exact ⟨none, 0, rfl, tlvs_nil _ _, k3⟩
set_option maxRecDepth 100000 in
set_option maxHeartbeats 6400000 in
theorem sref_bmp2 (v : Int) (A : Option Addr) (ca : Nat) (sl : List Sp) (b : ByteArray) (w : World) (hI : Spl w A sl) (hn : sl.length ≤ 1000) (h : (schN 2 v sl).1 = 0) (h2 : 2 ≤ b.size) (t t0 : ByteArray) (hcut : ∀ W : World, (Instr.slice 9 (.string b) none (some (.int .i64 2)) none).run Tryd.prog W = .ok (.string t0) W) (x : Int) (y : Int) (hbcd : ∀ W, Calls Tryd.prog 22 #[.string t0, .int .i64 4] W fun e w' => e = .returned (.tuple #[.string t, .int .i64 x, .int .i64 y]) ∧ Below W.heap.size W w') (ht : t.size ≤ maxLen) (hm : mtiB t.data.toList = true) (c0 : Nat) (y1 : Int) (hix : ∀ W, (Instr.index 9 (.string t) (.int .i64 0)).run Tryd.prog W = .ok (.int .u8 (c0 : Int)) W) (hc : c0 < 256) (hy : (c0 : Int) - 48 = y1) (hv : y1 = v) (G : Got) (hG : ∀ W, Calls Tryd.prog 24 #[.int .i64 2, .string b, .int .i64 2] W fun e w' => ListsN G W w' e) (hx : G.err ≠ 0) :
    Calls Tryd.prog 11 #[.agg #[.int .i64 2, .int .i64 v, .slice A sl.length ca], .string b] w fun e w' => DecTo (t, [], ((G.err : Int), 1)) w w' e := by
  subst hv
  have HC := Lib.hid (fun W hW => sright_any 2 y1 A ca sl W hW hn)
  rw [decide_eq_true h] at HC
  have HT := Lib.hid (rquad_new w 2 y1 A sl.length ca)
  have HI := Lib.hid (hI.below HT.out.1)
  have HG := Lib.hid hG
  have tx : ((G.err : Int) != 0) = true := by simpa using hx
  have tb : decide ((b.size : Int) < 2) = false := by simp; omega
  have HM := Lib.hid (fun W => mrefRight_any t W ht)
  rw [hm] at HM
  have hci : (c0 : Int) < 1000 := by omega
  have HY : Hid ((c0 : Int) - 48 = y1 ∧ (c0 : Int) < 1000) := ⟨hy, hci⟩
  have hwr : IntKind.i64.wrap (c0 : Int) = (c0 : Int) := IntWalk.i64_in _ (by omega)
  have HBC := Lib.hid hbcd
  clear hbcd
  clear hI h ht hm hc hy hG hx
  unfold ListsN at HG
  generalize (zi (listN G.high G.low 128)) = zs at *
  generalize zs.length = zn at *
  generalize G.err = ge at *
  generalize G.next = gn at *
  generalize sl.length = len at *
  go_enter Tryd.func11, Tryd.ntmps11
  go_wp2_with fail
  generalize (((w.alloc (.cells #[.int .i64 2, .int .i64 y1, .slice A len ca] 24)).alloc (.cells #[.string ⟨#[]⟩, .slice none 0 0] 28)).alloc (.cells #[.int .i64 0, .int .i64 0] 31)).alloc (.cells #[.string ⟨#[]⟩, .slice none 0 0] 28) = U at *
  refine (HC.out _ HI.out).mono ?_
  rintro e w1 ⟨rfl, hb1⟩
  have HT1 := Lib.hid (HT.out.below hb1)
  have HI1 := Lib.hid (HI.out.below hb1)
  clear hb1 HT HI HC
  obtain ⟨s0, s1, s2⟩ := obj_cells3 HT1.out.2.1
  go_wp2_with fail
  refine (HBC.out _).mono ?_
  rintro e w2 ⟨rfl, hb2⟩
  have HT2 := Lib.hid (HT1.out.below hb2)
  have HI2 := Lib.hid (HI1.out.below hb2)
  clear hb2 HT1 HI1 s0 s1 s2
  go_wp2_with fail
  clear hcut tb
  refine wp_region_noPanic ?_
  refine wp_region_held_drew (S := (fun u => Below w2.heap.size w2 u)) (by kernel_rfl) ((Below.refl _ _).drew) (fun hS => ?_)
  refine give_val (i := 0) (v := ?_) rfl (by kernel_rfl) (by kernel_rfl) (by kernel_rfl) (fun _ _ _ h => h) (by rfl) (fun u hu => ?_) hS ?_
  rotate_left
  · ((have hT := HT2.out.below hu; obtain ⟨b0, b1, b2⟩ := obj_cells3 hT.2.1; clear hT); go_simp; try (with_reducible rfl))
  try simp only [Act.put, List.setIfInBounds_toArray, List.set_cons_zero, List.set_cons_succ]
  refine only_call (i := 1) 23 #[.string t] rfl (by kernel_rfl) (by rfl) ((HM.out _).mono fun e w' he => ⟨he.1, he.2 ▸ hS⟩) ?_ ?_
  · (go_simp; try (with_reducible rfl))
  clear hS
  intro w1 hS
  try simp only [Act.put, List.setIfInBounds_toArray, List.set_cons_zero, List.set_cons_succ]
  refine give_val (i := 2) (v := ?_) rfl (by kernel_rfl) (by kernel_rfl) (by kernel_rfl) (fun _ _ _ h => h) (by rfl) (fun u hu => ?_) hS ?_
  rotate_left
  · ((have hT := HT2.out.below hu; obtain ⟨b0, b1, b2⟩ := obj_cells3 hT.2.1; clear hT); go_simp; try (with_reducible rfl))
  try simp only [Act.put, List.setIfInBounds_toArray, List.set_cons_zero, List.set_cons_succ]
  refine give_val (i := 3) (v := ?_) rfl (by kernel_rfl) (by kernel_rfl) (by kernel_rfl) (fun _ _ _ h => h) (by rfl) (fun u hu => ?_) hS ?_
  rotate_left
  · ((have hT := HT2.out.below hu; obtain ⟨b0, b1, b2⟩ := obj_cells3 hT.2.1; clear hT); go_simp; try (with_reducible rfl))
  try simp only [Act.put, List.setIfInBounds_toArray, List.set_cons_zero, List.set_cons_succ]
  refine give_val (i := 4) (v := ?_) rfl (by kernel_rfl) (by kernel_rfl) (by kernel_rfl) (fun _ _ _ h => h) (by rfl) (fun u hu => ?_) hS ?_
  rotate_left
  · ((have hT := HT2.out.below hu; obtain ⟨b0, b1, b2⟩ := obj_cells3 hT.2.1; clear hT); go_simp; try (with_reducible rfl))
  try simp only [Act.put, List.setIfInBounds_toArray, List.set_cons_zero, List.set_cons_succ]
  refine give_val (i := 5) (v := ?_) rfl (by kernel_rfl) (by kernel_rfl) (by kernel_rfl) (fun _ _ _ h => h) (by rfl) (fun u hu => ?_) hS ?_
  rotate_left
  · ((have hT := HT2.out.below hu; obtain ⟨b0, b1, b2⟩ := obj_cells3 hT.2.1; clear hT); go_simp; try (with_reducible rfl))
  try simp only [Act.put, List.setIfInBounds_toArray, List.set_cons_zero, List.set_cons_succ]
  refine give_val (i := 6) (v := ?_) rfl (by kernel_rfl) (by kernel_rfl) (by kernel_rfl) (fun _ _ _ h => h) (by rfl) (fun u hu => ?_) hS ?_
  rotate_left
  · ((have hT := HT2.out.below hu; obtain ⟨b0, b1, b2⟩ := obj_cells3 hT.2.1; clear hT); go_simp; try (with_reducible rfl))
  try simp only [Act.put, List.setIfInBounds_toArray, List.set_cons_zero, List.set_cons_succ]
  refine give_val (i := 7) (v := (.int .i64 y1)) rfl (by kernel_rfl) (by kernel_rfl) (by kernel_rfl) (fun _ _ _ h => h) (by rfl) (fun u hu => ?_) hS ?_
  · ((have hT := HT2.out.below hu; obtain ⟨b0, b1, b2⟩ := obj_cells3 hT.2.1; clear hT); go_simp; (have h9 := HY.out; first | omega | (rw [IntWalk.i64_in _ (by omega)]; omega)))
  try simp only [Act.put, List.setIfInBounds_toArray, List.set_cons_zero, List.set_cons_succ]
  refine give_val (i := 8) (v := ?_) rfl (by kernel_rfl) (by kernel_rfl) (by kernel_rfl) (fun _ _ _ h => h) (by rfl) (fun u hu => ?_) hS ?_
  rotate_left
  · ((have hT := HT2.out.below hu; obtain ⟨b0, b1, b2⟩ := obj_cells3 hT.2.1; clear hT); go_simp; try (with_reducible rfl))
  try simp only [Act.put, List.setIfInBounds_toArray, List.set_cons_zero, List.set_cons_succ]
  refine give_val (i := 9) (v := ?_) rfl (by kernel_rfl) (by kernel_rfl) (by kernel_rfl) (fun _ _ _ h => h) (by rfl) (fun u hu => ?_) hS ?_
  rotate_left
  · ((have hT := HT2.out.below hu; obtain ⟨b0, b1, b2⟩ := obj_cells3 hT.2.1; clear hT); go_simp; try (with_reducible rfl))
  try simp only [Act.put, List.setIfInBounds_toArray, List.set_cons_zero, List.set_cons_succ]
  refine give_val (i := 10) (v := ?_) rfl (by kernel_rfl) (by kernel_rfl) (by kernel_rfl) (fun _ _ _ h => h) (by rfl) (fun u hu => ?_) hS ?_
  rotate_left
  · ((have hT := HT2.out.below hu; obtain ⟨b0, b1, b2⟩ := obj_cells3 hT.2.1; clear hT); go_simp; try (with_reducible rfl))
  try simp only [Act.put, List.setIfInBounds_toArray, List.set_cons_zero, List.set_cons_succ]
  refine give_val (i := 11) (v := ?_) rfl (by kernel_rfl) (by kernel_rfl) (by kernel_rfl) (fun _ _ _ h => h) (by rfl) (fun u hu => ?_) hS ?_
  rotate_left
  · ((have hT := HT2.out.below hu; obtain ⟨b0, b1, b2⟩ := obj_cells3 hT.2.1; clear hT); go_simp; try (with_reducible rfl))
  try simp only [Act.put, List.setIfInBounds_toArray, List.set_cons_zero, List.set_cons_succ]
  refine wpAnyH_done (by kernel_rfl) (NoPanic.normal ?_) _
  clear hwr hix hci HY
  have HT3 := Lib.hid (HT2.out.below hS)
  have HI3 := Lib.hid (HI2.out.below hS)
  clear hS HT2 HI2
  rename World => w3
  obtain ⟨z0, z1, z2, z3⟩ := obj_cells HT3.out.2.2.2.2
  obtain ⟨s0, s1, s2⟩ := obj_cells3 HT3.out.2.1
  go_wp2_with fail
  have HT4 := Lib.hid (HT3.out.store t)
  have HI4 : Hid (Spl (w3.setCell ⟨w.heap.size + 3, 0, none⟩ (.string t)) A sl) := (KeepX.set (U := w3) (u := w3) (g := w.heap.size + 3) ⟨Nat.le_refl _, fun _ _ _ => rfl⟩ 0 (.string t)).spl HI3.out HT3.out.2.2.2.2
  clear HT3 HI3 z0 z1 z2 z3 s0 s1 s2
  generalize w3.setCell ⟨w.heap.size + 3, 0, none⟩ (.string t) = U4 at *
  refine (HG.out _).mono ?_
  rintro e w5 ⟨A5, c5, rfl, hi5, hb5⟩
  have HT5 := Lib.hid (HT4.out.below hb5)
  clear hb5 hi5 HT4 HI4
  obtain ⟨c0, c1, c2, c3⟩ := obj_cells HT5.out.2.2.1
  obtain ⟨d0, d1, d2, d3⟩ := obj_cells HT5.out.2.2.2.1
  obtain ⟨e0, e1, _, _⟩ := obj_cells HT5.out.2.2.2.2
  go_wp2
  obtain ⟨k1, k2, k3⟩ := two_set (w := w) HT5.out.2.2.1 HT5.out.2.2.2.1 (by omega) (by omega) (by omega) HT5.out.1 (.string t) (.slice none 0 0) (.int .i64 (ge : Int)) (.int .i64 1)
  refine bodyPost_ret (results_two rfl _ _ (w.heap.size + 1) (w.heap.size + 2) _ _ _ _ _ _ _ _ rfl k1 rfl k2 Tryd.underlying28 rfl (by kernel_rfl) Tryd.underlying31 rfl (by kernel_rfl)) rfl ?_
  exact ⟨none, 0, rfl, tlvs_nil _ _, k3⟩
theorem spk_at {st v : Int} {sl : List Sp} (h : (schN st v sl).1 = 0) {k : Nat} (hk : k < sl.length) : spkS (spAt sl k) = 0 := by
  refine (right_rise h).right _ ?_
  rw [spAt_get hk]
  exact List.getElem_mem hk
theorem drop_int {L : List Int} {j : Nat} (h : j < L.length) : L.drop j = L.getD j 0 :: L.drop (j + 1) := by
  rw [List.drop_eq_getElem_cons h]
  congr 1
  simp [h]

set_option maxRecDepth 100000 in
set_option maxHeartbeats 25600000 in
theorem sref_loop1 (v : Int) (A : Option Addr) (ca : Nat) (sl : List Sp) (b : ByteArray) (w : World) (hI : Spl w A sl) (hn : sl.length ≤ 1000) (hbz : b.size ≤ 1000000) (h : (schN 1 v sl).1 = 0) (h2 : 4 ≤ b.size) (t : ByteArray) (hcut : ∀ W : World, (Instr.slice 9 (.string b) none (some (.int .i64 4)) none).run Tryd.prog W = .ok (.string t) W) (ht : t.size ≤ maxLen) (hm : mtiB t.data.toList = true) (c0 : Nat) (y1 : Int) (hix : ∀ W, (Instr.index 9 (.string t) (.int .i64 0)).run Tryd.prog W = .ok (.int .u8 (c0 : Int)) W) (hc : c0 < 256) (hy : (c0 : Int) - 48 = y1) (hv : y1 = v) (G : Got) (hG : ∀ W, Calls Tryd.prog 24 #[.int .i64 1, .string b, .int .i64 4] W fun e w' => ListsN G W w' e) (hx : G.err = 0) (hnx : G.next ≤ b.size) :
    Calls Tryd.prog 11 #[.agg #[.int .i64 1, .int .i64 v, .slice A sl.length ca], .string b] w fun e w' => DecTo (t, decF 1 sl b (zi (listN G.high G.low 128)) G.next) w w' e := by
  subst hv
  have HC := Lib.hid (fun W hW => sright_any 1 y1 A ca sl W hW hn)
  rw [decide_eq_true h] at HC
  have HT := Lib.hid (rquad_new w 1 y1 A sl.length ca)
  have HI := Lib.hid (hI.below HT.out.1)
  have HG := Lib.hid hG
  have tb : decide ((b.size : Int) < 4) = false := by simp; omega
  have HM := Lib.hid (fun W => mrefRight_any t W ht)
  rw [hm] at HM
  have hci : (c0 : Int) < 1000 := by omega
  have HY : Hid ((c0 : Int) - 48 = y1 ∧ (c0 : Int) < 1000) := ⟨hy, hci⟩
  have hwr : IntKind.i64.wrap (c0 : Int) = (c0 : Int) := IntWalk.i64_in _ (by omega)
  have HF := Lib.hid (fun (no : Int) W hW => sreffind_any 1 y1 A ca sl no W hW hn)
  have HSK := Lib.hid (fun k2 (hk : k2 < sl.length) => spk_at h hk)
  have HGC : Hid (∀ k2 p x1 x2 x3 x4 x5 W, k2 < sl.length → spAt sl k2 = (x1, x2, x3, x4, x5) → p ≤ b.size → Calls Tryd.prog 26 #[.int .i64 1, .agg #[.int .i64 x1, .int .i64 x2, .int .i64 x3, .int .i64 x4, .int .i64 x5], .string b, .int .i64 (p : Int)] W fun e w' => e = .returned (cgetV (cget 1 x1 x2 x3 x4 x5 b p)) ∧ Below W.heap.size W w') := fun k2 p x1 x2 x3 x4 x5 W hk hx hp => crget_any 1 p x1 x2 x3 x4 x5 b W (by decide) (by have := HSK.out k2 hk; rw [hx] at this; exact this) hbz hp
  have HPOS : Hid (∀ n ∈ zi (listN G.high G.low 128), n ≠ 0) := fun n hn => by have := RiseI.above (rise_listN _ _ _) n hn; omega
  have hll : (zi (listN G.high G.low 128)).length ≤ 128 := by rw [zi_length]; exact listN_length_le _ _ _
  clear hI h ht hm hc hy hG hbz
  unfold ListsN at HG
  rw [hx] at HG
  generalize (zi (listN G.high G.low 128)) = zs at *
  generalize G.next = gn at *
  generalize hR : decF 1 sl b zs gn = R
  obtain ⟨Rl, Rf⟩ := R
  have HR := Lib.hid hR
  have HNX := Lib.hid hnx
  generalize hzl : zs.length = zn at *
  have HZL := Lib.hid hzl
  generalize hsl : sl.length = len at *
  have HSL := Lib.hid hsl
  clear hR hnx hx hzl hsl
  go_enter Tryd.func11, Tryd.ntmps11
  go_wp2_with fail
  generalize (((w.alloc (.cells #[.int .i64 1, .int .i64 y1, .slice A len ca] 24)).alloc (.cells #[.string ⟨#[]⟩, .slice none 0 0] 28)).alloc (.cells #[.int .i64 0, .int .i64 0] 31)).alloc (.cells #[.string ⟨#[]⟩, .slice none 0 0] 28) = U at *
  refine (HC.out _ HI.out).mono ?_
  rintro e w1 ⟨rfl, hb1⟩
  have HT1 := Lib.hid (HT.out.below hb1)
  have HI1 := Lib.hid (HI.out.below hb1)
  clear hb1 HT HI HC
  obtain ⟨s0, s1, s2⟩ := obj_cells3 HT1.out.2.1
  go_wp2_with fail
  have HT2 := Lib.hid HT1.out
  have HI2 := Lib.hid HI1.out
  clear HT1 HI1 s0 s1 s2
  rename World => w2
  clear hcut tb
  refine wp_region_noPanic ?_
  refine wp_region_held_drew (S := (fun u => Below w2.heap.size w2 u)) (by kernel_rfl) ((Below.refl _ _).drew) (fun hS => ?_)
  refine give_val (i := 0) (v := ?_) rfl (by kernel_rfl) (by kernel_rfl) (by kernel_rfl) (fun _ _ _ h => h) (by rfl) (fun u hu => ?_) hS ?_
  rotate_left
  · ((have hT := HT2.out.below hu; obtain ⟨b0, b1, b2⟩ := obj_cells3 hT.2.1; clear hT); go_simp; try (with_reducible rfl))
  try simp only [Act.put, List.setIfInBounds_toArray, List.set_cons_zero, List.set_cons_succ]
  refine only_call (i := 1) 23 #[.string t] rfl (by kernel_rfl) (by rfl) ((HM.out _).mono fun e w' he => ⟨he.1, he.2 ▸ hS⟩) ?_ ?_
  · (go_simp; try (with_reducible rfl))
  clear hS
  intro w1 hS
  try simp only [Act.put, List.setIfInBounds_toArray, List.set_cons_zero, List.set_cons_succ]
  refine give_val (i := 2) (v := ?_) rfl (by kernel_rfl) (by kernel_rfl) (by kernel_rfl) (fun _ _ _ h => h) (by rfl) (fun u hu => ?_) hS ?_
  rotate_left
  · ((have hT := HT2.out.below hu; obtain ⟨b0, b1, b2⟩ := obj_cells3 hT.2.1; clear hT); go_simp; try (with_reducible rfl))
  try simp only [Act.put, List.setIfInBounds_toArray, List.set_cons_zero, List.set_cons_succ]
  refine give_val (i := 3) (v := ?_) rfl (by kernel_rfl) (by kernel_rfl) (by kernel_rfl) (fun _ _ _ h => h) (by rfl) (fun u hu => ?_) hS ?_
  rotate_left
  · ((have hT := HT2.out.below hu; obtain ⟨b0, b1, b2⟩ := obj_cells3 hT.2.1; clear hT); go_simp; try (with_reducible rfl))
  try simp only [Act.put, List.setIfInBounds_toArray, List.set_cons_zero, List.set_cons_succ]
  refine give_val (i := 4) (v := ?_) rfl (by kernel_rfl) (by kernel_rfl) (by kernel_rfl) (fun _ _ _ h => h) (by rfl) (fun u hu => ?_) hS ?_
  rotate_left
  · ((have hT := HT2.out.below hu; obtain ⟨b0, b1, b2⟩ := obj_cells3 hT.2.1; clear hT); go_simp; try (with_reducible rfl))
  try simp only [Act.put, List.setIfInBounds_toArray, List.set_cons_zero, List.set_cons_succ]
  refine give_val (i := 5) (v := ?_) rfl (by kernel_rfl) (by kernel_rfl) (by kernel_rfl) (fun _ _ _ h => h) (by rfl) (fun u hu => ?_) hS ?_
  rotate_left
  · ((have hT := HT2.out.below hu; obtain ⟨b0, b1, b2⟩ := obj_cells3 hT.2.1; clear hT); go_simp; try (with_reducible rfl))
  try simp only [Act.put, List.setIfInBounds_toArray, List.set_cons_zero, List.set_cons_succ]
  refine give_val (i := 6) (v := ?_) rfl (by kernel_rfl) (by kernel_rfl) (by kernel_rfl) (fun _ _ _ h => h) (by rfl) (fun u hu => ?_) hS ?_
  rotate_left
  · ((have hT := HT2.out.below hu; obtain ⟨b0, b1, b2⟩ := obj_cells3 hT.2.1; clear hT); go_simp; try (with_reducible rfl))
  try simp only [Act.put, List.setIfInBounds_toArray, List.set_cons_zero, List.set_cons_succ]
  refine give_val (i := 7) (v := (.int .i64 y1)) rfl (by kernel_rfl) (by kernel_rfl) (by kernel_rfl) (fun _ _ _ h => h) (by rfl) (fun u hu => ?_) hS ?_
  · ((have hT := HT2.out.below hu; obtain ⟨b0, b1, b2⟩ := obj_cells3 hT.2.1; clear hT); go_simp; (have h9 := HY.out; first | omega | (rw [IntWalk.i64_in _ (by omega)]; omega)))
  try simp only [Act.put, List.setIfInBounds_toArray, List.set_cons_zero, List.set_cons_succ]
  refine give_val (i := 8) (v := ?_) rfl (by kernel_rfl) (by kernel_rfl) (by kernel_rfl) (fun _ _ _ h => h) (by rfl) (fun u hu => ?_) hS ?_
  rotate_left
  · ((have hT := HT2.out.below hu; obtain ⟨b0, b1, b2⟩ := obj_cells3 hT.2.1; clear hT); go_simp; try (with_reducible rfl))
  try simp only [Act.put, List.setIfInBounds_toArray, List.set_cons_zero, List.set_cons_succ]
  refine give_val (i := 9) (v := ?_) rfl (by kernel_rfl) (by kernel_rfl) (by kernel_rfl) (fun _ _ _ h => h) (by rfl) (fun u hu => ?_) hS ?_
  rotate_left
  · ((have hT := HT2.out.below hu; obtain ⟨b0, b1, b2⟩ := obj_cells3 hT.2.1; clear hT); go_simp; try (with_reducible rfl))
  try simp only [Act.put, List.setIfInBounds_toArray, List.set_cons_zero, List.set_cons_succ]
  refine give_val (i := 10) (v := ?_) rfl (by kernel_rfl) (by kernel_rfl) (by kernel_rfl) (fun _ _ _ h => h) (by rfl) (fun u hu => ?_) hS ?_
  rotate_left
  · ((have hT := HT2.out.below hu; obtain ⟨b0, b1, b2⟩ := obj_cells3 hT.2.1; clear hT); go_simp; try (with_reducible rfl))
  try simp only [Act.put, List.setIfInBounds_toArray, List.set_cons_zero, List.set_cons_succ]
  refine give_val (i := 11) (v := ?_) rfl (by kernel_rfl) (by kernel_rfl) (by kernel_rfl) (fun _ _ _ h => h) (by rfl) (fun u hu => ?_) hS ?_
  rotate_left
  · ((have hT := HT2.out.below hu; obtain ⟨b0, b1, b2⟩ := obj_cells3 hT.2.1; clear hT); go_simp; try (with_reducible rfl))
  try simp only [Act.put, List.setIfInBounds_toArray, List.set_cons_zero, List.set_cons_succ]
  refine wpAnyH_done (by kernel_rfl) (NoPanic.normal ?_) _
  clear hwr hix hci HY
  have HT3 := Lib.hid (HT2.out.below hS)
  have HI3 := Lib.hid (HI2.out.below hS)
  clear hS HT2 HI2
  rename World => w3
  obtain ⟨z0, z1, z2, z3⟩ := obj_cells HT3.out.2.2.2.2
  obtain ⟨s0, s1, s2⟩ := obj_cells3 HT3.out.2.1
  go_wp2_with fail
  have HT4 := Lib.hid (HT3.out.store t)
  have HI4 : Hid (Spl (w3.setCell ⟨w.heap.size + 3, 0, none⟩ (.string t)) A sl) := (KeepX.set (U := w3) (u := w3) (g := w.heap.size + 3) ⟨Nat.le_refl _, fun _ _ _ => rfl⟩ 0 (.string t)).spl HI3.out HT3.out.2.2.2.2
  clear HT3 HI3 z0 z1 z2 z3 s0 s1 s2
  generalize w3.setCell ⟨w.heap.size + 3, 0, none⟩ (.string t) = U4 at *
  refine (HG.out _).mono ?_
  rintro e w5 ⟨A5, c5, rfl, hi5, hb5⟩
  have HT5 := Lib.hid (HT4.out.below hb5)
  have HI5 := Lib.hid (HI4.out.below hb5)
  have HL5 := Lib.hid hi5
  clear hb5 hi5 HT4 HI4
  go_wp2_with fail
  obtain ⟨i0, hi, hz0, hz1, hz2⟩ := info_parts Tryd.infoVal
  have hg5 := obj_lt HT5.out.2.2.2.2
  go_loopw [10, 12] (fun y i wr => ∃ (j p : Nat) (ks : List Item), j ≤ zn ∧ i = .int .i64 (j : Int) ∧ y = .int .i64 (p : Int) ∧ p ≤ b.size ∧ ks.length ≤ j ∧ (ks ++ (decF 1 sl b (zs.drop j) p).1, (decF 1 sl b (zs.drop j) p).2) = (Rl, Rf) ∧ MWants w w5 (w.heap.size + 3) t ks wr) (fun _ i _ => zn - (intOf i).toNat)
  case atStart => exact ⟨0, gn, [], Nat.zero_le _, rfl, rfl, HNX.out, Nat.le_refl _, by rw [List.drop_zero, HR.out]; rfl, mwants_new HT5.out.2.2.2.2 HT5.out.1⟩
  case round =>
    obtain ⟨j, p, ks, hj, rfl, rfl, hp, hkl, hrest, Y, cp, hbox, hown, hkeep, hb⟩ := hrel
    have HX := Lib.hid hbox
    have HO := Lib.hid hown
    have HK := Lib.hid hkeep
    have HB := Lib.hid hb
    have HRS := Lib.hid hrest
    have HPB := Lib.hid hp
    have HX0 := Lib.hid (hkeep.obj HT5.out.2.1 (by omega))
    have HX1 := Lib.hid (hkeep.obj HT5.out.2.2.1 (by omega))
    have HX2 := Lib.hid (hkeep.obj HT5.out.2.2.2.1 (by omega))
    have HIR := Lib.hid (hkeep.spl HI5.out HT5.out.2.2.2.2)
    have HLR := Lib.hid (hkeep.ints HL5.out HT5.out.2.2.2.2)
    clear hbox hown hkeep hb hrest hp
    generalize hm : ks.length = M at *
    have HMM := Lib.hid hm
    clear hm
    by_cases hlt : j < zn
    · have hjl : j < zs.length := by have := HZL.out; omega
      obtain ⟨a5, rfl, hcU⟩ := HL5.out j hjl
      have hc5 := HK.out.num hcU HT5.out.2.2.2.2
      have HQ2 : Hid ((a5.add j).block ≠ w.heap.size + 2) := num_apart0 hcU HT5.out.2.2.2.1 (int_pos HPOS.out hjl)
      have hd := drop_int hjl
      generalize zs.getD j 0 = no at *
      have HD := Lib.hid hd
      have HFN := Lib.hid (fun W hW => HF.out no W hW)
      clear hd hjl
      rcases fnd_rel no sl 0 with ⟨g1, g2⟩ | ⟨k2, hk2, g2, g1⟩
      · rw [g2] at HFN
        have hdn := decF_none (st := 1) (s := b) (r := zs.drop (j + 1)) (p := p) (show (fndP no sl).2 = false by rw [g1])
        have hr := HRS.out
        rw [HD.out, hdn, List.append_nil] at hr
        obtain ⟨h1, h2⟩ := Prod.mk.inj hr
        have H12 : Hid (ks = Rl ∧ ((9 : Int), no) = Rf) := ⟨h1, h2⟩
        clear g1 g2 hdn hr h1 h2 HRS HD
        go_wp2_with fail
        refine wp_region_noPanic ?_
        refine wp_region_held_drew (S := (fun u => Below wr.heap.size wr u)) (by kernel_rfl) ((Below.refl _ _).drew) (fun hS => ?_)
        refine give_val (i := 0) (v := ?_) rfl (by kernel_rfl) (by kernel_rfl) (by kernel_rfl) (fun _ _ _ h => h) (by rfl) (fun u hu => ?_) hS ?_
        rotate_left
        · ((obtain ⟨b0, b1, b2⟩ := obj_cells3 (obj_below HX0.out hu); have q5 := (hu.cell (block_lt_of_cell hc5)).trans hc5); go_simp; try (with_reducible rfl))
        try simp only [Act.put, List.setIfInBounds_toArray, List.set_cons_zero, List.set_cons_succ]
        refine give_val (i := 1) (v := ?_) rfl (by kernel_rfl) (by kernel_rfl) (by kernel_rfl) (fun _ _ _ h => h) (by rfl) (fun u hu => ?_) hS ?_
        rotate_left
        · ((obtain ⟨b0, b1, b2⟩ := obj_cells3 (obj_below HX0.out hu); have q5 := (hu.cell (block_lt_of_cell hc5)).trans hc5); go_simp; try (with_reducible rfl))
        try simp only [Act.put, List.setIfInBounds_toArray, List.set_cons_zero, List.set_cons_succ]
        refine give_val (i := 2) (v := ?_) rfl (by kernel_rfl) (by kernel_rfl) (by kernel_rfl) (fun _ _ _ h => h) (by rfl) (fun u hu => ?_) hS ?_
        rotate_left
        · ((obtain ⟨b0, b1, b2⟩ := obj_cells3 (obj_below HX0.out hu); have q5 := (hu.cell (block_lt_of_cell hc5)).trans hc5); go_simp; try (with_reducible rfl))
        try simp only [Act.put, List.setIfInBounds_toArray, List.set_cons_zero, List.set_cons_succ]
        refine give_val (i := 3) (v := ?_) rfl (by kernel_rfl) (by kernel_rfl) (by kernel_rfl) (fun _ _ _ h => h) (by rfl) (fun u hu => ?_) hS ?_
        rotate_left
        · ((obtain ⟨b0, b1, b2⟩ := obj_cells3 (obj_below HX0.out hu); have q5 := (hu.cell (block_lt_of_cell hc5)).trans hc5); go_simp; try (with_reducible rfl))
        try simp only [Act.put, List.setIfInBounds_toArray, List.set_cons_zero, List.set_cons_succ]
        refine give_val (i := 4) (v := ?_) rfl (by kernel_rfl) (by kernel_rfl) (by kernel_rfl) (fun _ _ _ h => h) (by rfl) (fun u hu => ?_) hS ?_
        rotate_left
        · ((obtain ⟨b0, b1, b2⟩ := obj_cells3 (obj_below HX0.out hu); have q5 := (hu.cell (block_lt_of_cell hc5)).trans hc5); go_simp; try (with_reducible rfl))
        try simp only [Act.put, List.setIfInBounds_toArray, List.set_cons_zero, List.set_cons_succ]
        refine only_call (i := 5) 25 #[.agg #[.int .i64 1, .int .i64 y1, .slice A len ca], .int .i64 no] rfl (by kernel_rfl) (by rfl) ((HFN.out _ (HIR.out.below hS)).mono fun e w' he => ⟨he.1, hbt hS he.2⟩) ?_ ?_
        · (go_simp; try (with_reducible rfl))
        clear hS
        intro w5 hS
        try simp only [Act.put, List.setIfInBounds_toArray, List.set_cons_zero, List.set_cons_succ]
        refine give_val (i := 6) (v := ?_) rfl (by kernel_rfl) (by kernel_rfl) (by kernel_rfl) (fun _ _ _ h => h) (by rfl) (fun u hu => ?_) hS ?_
        rotate_left
        · ((obtain ⟨b0, b1, b2⟩ := obj_cells3 (obj_below HX0.out hu); have q5 := (hu.cell (block_lt_of_cell hc5)).trans hc5); go_simp; try (with_reducible rfl))
        try simp only [Act.put, List.setIfInBounds_toArray, List.set_cons_zero, List.set_cons_succ]
        refine wpAnyH_done (by kernel_rfl) (NoPanic.normal ?_) _
        have HBW := Lib.hid (hbt HB.out hS)
        have HXW := Lib.hid (HX.out.below hS)
        have HX1W := Lib.hid (obj_below HX1.out hS)
        have HX2W := Lib.hid (obj_below HX2.out hS)
        have HOW := Lib.hid (owns_below HO.out hS)
        have c5' := (hS.cell (block_lt_of_cell hc5)).trans hc5
        clear hS HX0 HX1 HX2 HIR HLR HK hc5
        rename World => w6
        go_wp2_with fail
        refine wp_region_noPanic ?_
        refine wp_region_held_drew (S := (StoreS w t Y M cp (a5.add j) no)) (by kernel_rfl) ((show StoreS w t Y M cp (a5.add j) no w6.drew from ⟨HBW.out.drew, HXW.out, c5', ⟨_, _, HX1W.out⟩, ⟨_, _, HX2W.out⟩⟩)) (fun hS => ?_)
        refine give_val (i := 0) (v := ?_) rfl (by kernel_rfl) (by kernel_rfl) (by kernel_rfl) (fun _ _ _ h => h) (by rfl) (fun u hu => ?_) hS ?_
        rotate_left
        · ((obtain ⟨_, hu2, hu3, _⟩ := hu; obtain ⟨e0, e1, _, _⟩ := obj_cells hu2; clear hu2); go_simp; try (with_reducible rfl))
        try simp only [Act.put, List.setIfInBounds_toArray, List.set_cons_zero, List.set_cons_succ]
        refine give_val (i := 1) (v := ?_) rfl (by kernel_rfl) (by kernel_rfl) (by kernel_rfl) (fun _ _ _ h => h) (by rfl) (fun u hu => ?_) hS ?_
        rotate_left
        · ((obtain ⟨_, hu2, hu3, _⟩ := hu; obtain ⟨e0, e1, _, _⟩ := obj_cells hu2; clear hu2); go_simp; try (with_reducible rfl))
        try simp only [Act.put, List.setIfInBounds_toArray, List.set_cons_zero, List.set_cons_succ]
        refine give_val (i := 2) (v := ?_) rfl (by kernel_rfl) (by kernel_rfl) (by kernel_rfl) (fun _ _ _ h => h) (by rfl) (fun u hu => ?_) hS ?_
        rotate_left
        · ((obtain ⟨_, hu2, hu3, _⟩ := hu; obtain ⟨e0, e1, _, _⟩ := obj_cells hu2; clear hu2); go_simp; try (with_reducible rfl))
        try simp only [Act.put, List.setIfInBounds_toArray, List.set_cons_zero, List.set_cons_succ]
        refine give_val (i := 3) (v := ?_) rfl (by kernel_rfl) (by kernel_rfl) (by kernel_rfl) (fun _ _ _ h => h) (by rfl) (fun u hu => ?_) hS ?_
        rotate_left
        · ((obtain ⟨_, hu2, hu3, _⟩ := hu; obtain ⟨e0, e1, _, _⟩ := obj_cells hu2; clear hu2); go_simp; try (with_reducible rfl))
        try simp only [Act.put, List.setIfInBounds_toArray, List.set_cons_zero, List.set_cons_succ]
        refine give_val (i := 4) (v := ?_) rfl (by kernel_rfl) (by kernel_rfl) (by kernel_rfl) (fun _ _ _ h => h) (by rfl) (fun u hu => ?_) hS ?_
        rotate_left
        · ((obtain ⟨_, hu2, hu3, _⟩ := hu; obtain ⟨e0, e1, _, _⟩ := obj_cells hu2; clear hu2); go_simp; try (with_reducible rfl))
        try simp only [Act.put, List.setIfInBounds_toArray, List.set_cons_zero, List.set_cons_succ]
        refine give_val (i := 5) (v := ?_) rfl (by kernel_rfl) (by kernel_rfl) (by kernel_rfl) (fun _ _ _ h => h) (by rfl) (fun u hu => ?_) hS ?_
        rotate_left
        · ((obtain ⟨_, hu2, hu3, _⟩ := hu; obtain ⟨e0, e1, _, _⟩ := obj_cells hu2; clear hu2); go_simp; try (with_reducible rfl))
        try simp only [Act.put, List.setIfInBounds_toArray, List.set_cons_zero, List.set_cons_succ]
        obtain ⟨c0, c1, c2, c3⟩ := obj_cells HX1W.out
        have f1 := obj_set2 HX1W.out (.string t) (.slice Y M cp)
        have f2 := obj_set_other HX2W.out (show w.heap.size + 2 ≠ w.heap.size + 1 by omega) (.string t) (.slice Y M cp)
        have f3 := below_set2 (p := w.heap.size + 1) HBW.out (by omega) (.string t) (.slice Y M cp)
        have f4 := owns_set1 (owns_set1 HOW.out (show w.heap.size + 1 < w5.heap.size by omega) 0 (.string t)) (show w.heap.size + 1 < w5.heap.size by omega) 1 (.slice Y M cp)
        have f5 := StoreS.first (show StoreS w t Y M cp (a5.add j) no w6 from ⟨HBW.out, HXW.out, c5', ⟨_, _, HX1W.out⟩, ⟨_, _, HX2W.out⟩⟩) (num_apart c5' HX1W.out) (.string t) (.slice Y M cp)
        refine only (i := 6) rfl (by kernel_rfl) (by rfl) (fun K hK => ?_)
        go_simp
        refine hK.out _ _ f5 ?_
        clear hK
        try simp only [Act.put, List.setIfInBounds_toArray, List.set_cons_zero, List.set_cons_succ]
        clear c0 c1 c2 c3
        generalize (w6.setCell ⟨w.heap.size + 1, 0, none⟩ (.string t)).setCell ⟨w.heap.size + 1, 1, none⟩ (.slice Y M cp) = u7 at *
        obtain ⟨c0, c1, c2, c3⟩ := obj_cells f2
        have K1 := Lib.hid (obj_set_other f1 (show w.heap.size + 1 ≠ w.heap.size + 2 by omega) (.int .i64 9) (.int .i64 no))
        have K2 := Lib.hid (obj_set2 f2 (.int .i64 9) (.int .i64 no))
        have K3 := Lib.hid (below_set2 (p := w.heap.size + 2) f3 (by omega) (.int .i64 9) (.int .i64 no))
        have K4 := Lib.hid (vals_own_at (owns_set1 (owns_set1 f4 (show w.heap.size + 2 < w5.heap.size by omega) 0 (.int .i64 9)) (show w.heap.size + 2 < w5.heap.size by omega) 1 (.int .i64 no)) HMM.out.symm)
        have f6 := StoreS.second (show StoreS w t Y M cp (a5.add j) no u7 from ⟨f3, f5.2⟩) HQ2.out (.int .i64 9) (.int .i64 no)
        refine only (i := 7) rfl (by kernel_rfl) (by rfl) (fun K hK => ?_)
        go_simp
        refine hK.out _ _ f6 ?_
        clear hK
        try simp only [Act.put, List.setIfInBounds_toArray, List.set_cons_zero, List.set_cons_succ]
        refine wpAnyH_done (by kernel_rfl) (NoPanic.normal ?_) _
        clear c0 c1 c2 c3 f1 f2 f3 f4 f5 f6
        generalize (u7.setCell ⟨w.heap.size + 2, 0, none⟩ (.int .i64 9)).setCell ⟨w.heap.size + 2, 1, none⟩ (.int .i64 no) = u8 at *
        go_wp2
        refine bodyPost_ret (results_two rfl _ _ (w.heap.size + 1) (w.heap.size + 2) _ _ _ _ _ _ _ _ rfl K1.out rfl K2.out Tryd.underlying28 rfl (by kernel_rfl) Tryd.underlying31 rfl (by kernel_rfl)) rfl ?_
        obtain ⟨h1, h2⟩ := H12.out
        refine ⟨Y, cp, ?_, ?_, K3.out.drew⟩
        · show _ = Ending.returned (.tuple #[.agg #[.string t, .slice Y Rl.length cp], .agg #[.int .i64 Rf.1, .int .i64 Rf.2]])
          rw [← h1, ← h2, HMM.out]
        · show Tlvs _ Y Rl
          rw [← h1]
          exact K4.out
      · rw [g2, Nat.zero_add] at HFN
        obtain ⟨a2, x1, x2, x3, x4, x5, rfl, hx5, d0, d1, d2, d3, d4⟩ := HIR.out.at_ hk2
        have hk3 : k2 < len := by have := HSL.out; omega
        have hcg := fun W => HGC.out k2 p x1 x2 x3 x4 x5 W hk3 hx5 HPB.out
        have hcq : cgetP 1 (fndP no sl).1 b p = cget 1 x1 x2 x3 x4 x5 b p := by rw [g1, hx5]; rfl
        have hfb : (fndP no sl).2 = true := by rw [g1]
        unfold cgetV at hcg
        generalize cget 1 x1 x2 x3 x4 x5 b p = C at *
        obtain ⟨tx, q, ex⟩ := C
        dsimp only at hcg
        have HCG := Lib.hid hcg
        have HCQ := Lib.hid hcq
        have HFB := Lib.hid hfb
        clear hcg hcq hfb g1 g2 hx5 hk2
        have hpb : p ≤ b.size := HPB.out
        go_wp2_with fail
        refine wp_region_noPanic ?_
        refine wp_region_held_drew (S := (fun u => Below wr.heap.size wr u)) (by kernel_rfl) ((Below.refl _ _).drew) (fun hS => ?_)
        refine give_val (i := 0) (v := ?_) rfl (by kernel_rfl) (by kernel_rfl) (by kernel_rfl) (fun _ _ _ h => h) (by rfl) (fun u hu => ?_) hS ?_
        rotate_left
        · ((obtain ⟨b0, b1, b2⟩ := obj_cells3 (obj_below HX0.out hu); have q5 := (hu.cell (block_lt_of_cell hc5)).trans hc5); go_simp; try (with_reducible rfl))
        try simp only [Act.put, List.setIfInBounds_toArray, List.set_cons_zero, List.set_cons_succ]
        refine give_val (i := 1) (v := ?_) rfl (by kernel_rfl) (by kernel_rfl) (by kernel_rfl) (fun _ _ _ h => h) (by rfl) (fun u hu => ?_) hS ?_
        rotate_left
        · ((obtain ⟨b0, b1, b2⟩ := obj_cells3 (obj_below HX0.out hu); have q5 := (hu.cell (block_lt_of_cell hc5)).trans hc5); go_simp; try (with_reducible rfl))
        try simp only [Act.put, List.setIfInBounds_toArray, List.set_cons_zero, List.set_cons_succ]
        refine give_val (i := 2) (v := ?_) rfl (by kernel_rfl) (by kernel_rfl) (by kernel_rfl) (fun _ _ _ h => h) (by rfl) (fun u hu => ?_) hS ?_
        rotate_left
        · ((obtain ⟨b0, b1, b2⟩ := obj_cells3 (obj_below HX0.out hu); have q5 := (hu.cell (block_lt_of_cell hc5)).trans hc5); go_simp; try (with_reducible rfl))
        try simp only [Act.put, List.setIfInBounds_toArray, List.set_cons_zero, List.set_cons_succ]
        refine give_val (i := 3) (v := ?_) rfl (by kernel_rfl) (by kernel_rfl) (by kernel_rfl) (fun _ _ _ h => h) (by rfl) (fun u hu => ?_) hS ?_
        rotate_left
        · ((obtain ⟨b0, b1, b2⟩ := obj_cells3 (obj_below HX0.out hu); have q5 := (hu.cell (block_lt_of_cell hc5)).trans hc5); go_simp; try (with_reducible rfl))
        try simp only [Act.put, List.setIfInBounds_toArray, List.set_cons_zero, List.set_cons_succ]
        refine give_val (i := 4) (v := ?_) rfl (by kernel_rfl) (by kernel_rfl) (by kernel_rfl) (fun _ _ _ h => h) (by rfl) (fun u hu => ?_) hS ?_
        rotate_left
        · ((obtain ⟨b0, b1, b2⟩ := obj_cells3 (obj_below HX0.out hu); have q5 := (hu.cell (block_lt_of_cell hc5)).trans hc5); go_simp; try (with_reducible rfl))
        try simp only [Act.put, List.setIfInBounds_toArray, List.set_cons_zero, List.set_cons_succ]
        refine only_call (i := 5) 25 #[.agg #[.int .i64 1, .int .i64 y1, .slice (some a2) len ca], .int .i64 no] rfl (by kernel_rfl) (by rfl) ((HFN.out _ (HIR.out.below hS)).mono fun e w' he => ⟨he.1, hbt hS he.2⟩) ?_ ?_
        · (go_simp; try (with_reducible rfl))
        clear hS
        intro w5 hS
        try simp only [Act.put, List.setIfInBounds_toArray, List.set_cons_zero, List.set_cons_succ]
        refine give_val (i := 6) (v := ?_) rfl (by kernel_rfl) (by kernel_rfl) (by kernel_rfl) (fun _ _ _ h => h) (by rfl) (fun u hu => ?_) hS ?_
        rotate_left
        · ((obtain ⟨b0, b1, b2⟩ := obj_cells3 (obj_below HX0.out hu); have q5 := (hu.cell (block_lt_of_cell hc5)).trans hc5); go_simp; try (with_reducible rfl))
        try simp only [Act.put, List.setIfInBounds_toArray, List.set_cons_zero, List.set_cons_succ]
        refine wpAnyH_done (by kernel_rfl) (NoPanic.normal ?_) _
        have HBW := Lib.hid (hbt HB.out hS)
        have HX0W := Lib.hid (obj_below HX0.out hS)
        have HXW := Lib.hid (HX.out.below hS)
        have HX1W := Lib.hid (obj_below HX1.out hS)
        have HX2W := Lib.hid (obj_below HX2.out hS)
        have HOW := Lib.hid (owns_below HO.out hS)
        have HKW := Lib.hid (HK.out.step (hS.mono HK.out.1))
        have c5' := (hS.cell (block_lt_of_cell hc5)).trans hc5
        have d0' := (hS.cell (block_lt_of_cell d0)).trans d0
        have d1' := (hS.cell (block_lt_of_cell d1)).trans d1
        have d2' := (hS.cell (block_lt_of_cell d2)).trans d2
        have d3' := (hS.cell (block_lt_of_cell d3)).trans d3
        have d4' := (hS.cell (block_lt_of_cell d4)).trans d4
        clear hS HX0 HX1 HX2 HIR HLR HK HX HO HB hc5 d0 d1 d2 d3 d4
        rename World => w6
        go_wp2_with fail
        refine wp_region_noPanic ?_
        refine wp_region_held_drew (S := (fun u => Below w6.heap.size w6 u)) (by kernel_rfl) ((Below.refl _ _).drew) (fun hS => ?_)
        refine give_val (i := 0) (v := ?_) rfl (by kernel_rfl) (by kernel_rfl) (by kernel_rfl) (fun _ _ _ h => h) (by rfl) (fun u hu => ?_) hS ?_
        rotate_left
        · ((obtain ⟨b0, b1, b2⟩ := obj_cells3 (obj_below HX0W.out hu); have q0 := (hu.cell (block_lt_of_cell d0')).trans d0'; have q1 := (hu.cell (block_lt_of_cell d1')).trans d1'; have q2 := (hu.cell (block_lt_of_cell d2')).trans d2'; have q3 := (hu.cell (block_lt_of_cell d3')).trans d3'; have q4 := (hu.cell (block_lt_of_cell d4')).trans d4'); go_simp; try (with_reducible rfl))
        try simp only [Act.put, List.setIfInBounds_toArray, List.set_cons_zero, List.set_cons_succ]
        refine give_val (i := 1) (v := ?_) rfl (by kernel_rfl) (by kernel_rfl) (by kernel_rfl) (fun _ _ _ h => h) (by rfl) (fun u hu => ?_) hS ?_
        rotate_left
        · ((obtain ⟨b0, b1, b2⟩ := obj_cells3 (obj_below HX0W.out hu); have q0 := (hu.cell (block_lt_of_cell d0')).trans d0'; have q1 := (hu.cell (block_lt_of_cell d1')).trans d1'; have q2 := (hu.cell (block_lt_of_cell d2')).trans d2'; have q3 := (hu.cell (block_lt_of_cell d3')).trans d3'; have q4 := (hu.cell (block_lt_of_cell d4')).trans d4'); go_simp; try (with_reducible rfl))
        try simp only [Act.put, List.setIfInBounds_toArray, List.set_cons_zero, List.set_cons_succ]
        refine give_val (i := 2) (v := ?_) rfl (by kernel_rfl) (by kernel_rfl) (by kernel_rfl) (fun _ _ _ h => h) (by rfl) (fun u hu => ?_) hS ?_
        rotate_left
        · ((obtain ⟨b0, b1, b2⟩ := obj_cells3 (obj_below HX0W.out hu); have q0 := (hu.cell (block_lt_of_cell d0')).trans d0'; have q1 := (hu.cell (block_lt_of_cell d1')).trans d1'; have q2 := (hu.cell (block_lt_of_cell d2')).trans d2'; have q3 := (hu.cell (block_lt_of_cell d3')).trans d3'; have q4 := (hu.cell (block_lt_of_cell d4')).trans d4'); go_simp; try (with_reducible rfl))
        try simp only [Act.put, List.setIfInBounds_toArray, List.set_cons_zero, List.set_cons_succ]
        refine give_val (i := 3) (v := ?_) rfl (by kernel_rfl) (by kernel_rfl) (by kernel_rfl) (fun _ _ _ h => h) (by rfl) (fun u hu => ?_) hS ?_
        rotate_left
        · ((obtain ⟨b0, b1, b2⟩ := obj_cells3 (obj_below HX0W.out hu); have q0 := (hu.cell (block_lt_of_cell d0')).trans d0'; have q1 := (hu.cell (block_lt_of_cell d1')).trans d1'; have q2 := (hu.cell (block_lt_of_cell d2')).trans d2'; have q3 := (hu.cell (block_lt_of_cell d3')).trans d3'; have q4 := (hu.cell (block_lt_of_cell d4')).trans d4'); go_simp; try (with_reducible rfl))
        try simp only [Act.put, List.setIfInBounds_toArray, List.set_cons_zero, List.set_cons_succ]
        refine give_val (i := 4) (v := ?_) rfl (by kernel_rfl) (by kernel_rfl) (by kernel_rfl) (fun _ _ _ h => h) (by rfl) (fun u hu => ?_) hS ?_
        rotate_left
        · ((obtain ⟨b0, b1, b2⟩ := obj_cells3 (obj_below HX0W.out hu); have q0 := (hu.cell (block_lt_of_cell d0')).trans d0'; have q1 := (hu.cell (block_lt_of_cell d1')).trans d1'; have q2 := (hu.cell (block_lt_of_cell d2')).trans d2'; have q3 := (hu.cell (block_lt_of_cell d3')).trans d3'; have q4 := (hu.cell (block_lt_of_cell d4')).trans d4'); go_simp; try (with_reducible rfl))
        try simp only [Act.put, List.setIfInBounds_toArray, List.set_cons_zero, List.set_cons_succ]
        refine give_val (i := 5) (v := ?_) rfl (by kernel_rfl) (by kernel_rfl) (by kernel_rfl) (fun _ _ _ h => h) (by rfl) (fun u hu => ?_) hS ?_
        rotate_left
        · ((obtain ⟨b0, b1, b2⟩ := obj_cells3 (obj_below HX0W.out hu); have q0 := (hu.cell (block_lt_of_cell d0')).trans d0'; have q1 := (hu.cell (block_lt_of_cell d1')).trans d1'; have q2 := (hu.cell (block_lt_of_cell d2')).trans d2'; have q3 := (hu.cell (block_lt_of_cell d3')).trans d3'; have q4 := (hu.cell (block_lt_of_cell d4')).trans d4'); go_simp; try (with_reducible rfl))
        try simp only [Act.put, List.setIfInBounds_toArray, List.set_cons_zero, List.set_cons_succ]
        refine give_val (i := 6) (v := ?_) rfl (by kernel_rfl) (by kernel_rfl) (by kernel_rfl) (fun _ _ _ h => h) (by rfl) (fun u hu => ?_) hS ?_
        rotate_left
        · ((obtain ⟨b0, b1, b2⟩ := obj_cells3 (obj_below HX0W.out hu); have q0 := (hu.cell (block_lt_of_cell d0')).trans d0'; have q1 := (hu.cell (block_lt_of_cell d1')).trans d1'; have q2 := (hu.cell (block_lt_of_cell d2')).trans d2'; have q3 := (hu.cell (block_lt_of_cell d3')).trans d3'; have q4 := (hu.cell (block_lt_of_cell d4')).trans d4'); go_simp; try (with_reducible rfl))
        try simp only [Act.put, List.setIfInBounds_toArray, List.set_cons_zero, List.set_cons_succ]
        refine give_val (i := 7) (v := ?_) rfl (by kernel_rfl) (by kernel_rfl) (by kernel_rfl) (fun _ _ _ h => h) (by rfl) (fun u hu => ?_) hS ?_
        rotate_left
        · ((obtain ⟨b0, b1, b2⟩ := obj_cells3 (obj_below HX0W.out hu); have q0 := (hu.cell (block_lt_of_cell d0')).trans d0'; have q1 := (hu.cell (block_lt_of_cell d1')).trans d1'; have q2 := (hu.cell (block_lt_of_cell d2')).trans d2'; have q3 := (hu.cell (block_lt_of_cell d3')).trans d3'; have q4 := (hu.cell (block_lt_of_cell d4')).trans d4'); go_simp; try (with_reducible rfl))
        try simp only [Act.put, List.setIfInBounds_toArray, List.set_cons_zero, List.set_cons_succ]
        refine give_val (i := 8) (v := ?_) rfl (by kernel_rfl) (by kernel_rfl) (by kernel_rfl) (fun _ _ _ h => h) (by rfl) (fun u hu => ?_) hS ?_
        rotate_left
        · ((obtain ⟨b0, b1, b2⟩ := obj_cells3 (obj_below HX0W.out hu); have q0 := (hu.cell (block_lt_of_cell d0')).trans d0'; have q1 := (hu.cell (block_lt_of_cell d1')).trans d1'; have q2 := (hu.cell (block_lt_of_cell d2')).trans d2'; have q3 := (hu.cell (block_lt_of_cell d3')).trans d3'; have q4 := (hu.cell (block_lt_of_cell d4')).trans d4'); go_simp; try (with_reducible rfl))
        try simp only [Act.put, List.setIfInBounds_toArray, List.set_cons_zero, List.set_cons_succ]
        refine only_call (i := 9) 26 #[.int .i64 1, .agg #[.int .i64 x1, .int .i64 x2, .int .i64 x3, .int .i64 x4, .int .i64 x5], .string b, .int .i64 (p : Int)] rfl (by kernel_rfl) (by rfl) ((HCG.out _).mono fun e w' he => ⟨he.1, hbt hS he.2⟩) ?_ ?_
        · (go_simp; try (with_reducible rfl))
        clear hS
        intro w9 hS
        try simp only [Act.put, List.setIfInBounds_toArray, List.set_cons_zero, List.set_cons_succ]
        refine give_val (i := 10) (v := ?_) rfl (by kernel_rfl) (by kernel_rfl) (by kernel_rfl) (fun _ _ _ h => h) (by rfl) (fun u hu => ?_) hS ?_
        rotate_left
        · ((obtain ⟨b0, b1, b2⟩ := obj_cells3 (obj_below HX0W.out hu); have q0 := (hu.cell (block_lt_of_cell d0')).trans d0'; have q1 := (hu.cell (block_lt_of_cell d1')).trans d1'; have q2 := (hu.cell (block_lt_of_cell d2')).trans d2'; have q3 := (hu.cell (block_lt_of_cell d3')).trans d3'; have q4 := (hu.cell (block_lt_of_cell d4')).trans d4'); go_simp; try (with_reducible rfl))
        try simp only [Act.put, List.setIfInBounds_toArray, List.set_cons_zero, List.set_cons_succ]
        refine give_val (i := 11) (v := ?_) rfl (by kernel_rfl) (by kernel_rfl) (by kernel_rfl) (fun _ _ _ h => h) (by rfl) (fun u hu => ?_) hS ?_
        rotate_left
        · ((obtain ⟨b0, b1, b2⟩ := obj_cells3 (obj_below HX0W.out hu); have q0 := (hu.cell (block_lt_of_cell d0')).trans d0'; have q1 := (hu.cell (block_lt_of_cell d1')).trans d1'; have q2 := (hu.cell (block_lt_of_cell d2')).trans d2'; have q3 := (hu.cell (block_lt_of_cell d3')).trans d3'; have q4 := (hu.cell (block_lt_of_cell d4')).trans d4'); go_simp; try (with_reducible rfl))
        try simp only [Act.put, List.setIfInBounds_toArray, List.set_cons_zero, List.set_cons_succ]
        refine give_val (i := 12) (v := ?_) rfl (by kernel_rfl) (by kernel_rfl) (by kernel_rfl) (fun _ _ _ h => h) (by rfl) (fun u hu => ?_) hS ?_
        rotate_left
        · ((obtain ⟨b0, b1, b2⟩ := obj_cells3 (obj_below HX0W.out hu); have q0 := (hu.cell (block_lt_of_cell d0')).trans d0'; have q1 := (hu.cell (block_lt_of_cell d1')).trans d1'; have q2 := (hu.cell (block_lt_of_cell d2')).trans d2'; have q3 := (hu.cell (block_lt_of_cell d3')).trans d3'; have q4 := (hu.cell (block_lt_of_cell d4')).trans d4'); go_simp; try (with_reducible rfl))
        try simp only [Act.put, List.setIfInBounds_toArray, List.set_cons_zero, List.set_cons_succ]
        refine give_val (i := 13) (v := ?_) rfl (by kernel_rfl) (by kernel_rfl) (by kernel_rfl) (fun _ _ _ h => h) (by rfl) (fun u hu => ?_) hS ?_
        rotate_left
        · ((obtain ⟨b0, b1, b2⟩ := obj_cells3 (obj_below HX0W.out hu); have q0 := (hu.cell (block_lt_of_cell d0')).trans d0'; have q1 := (hu.cell (block_lt_of_cell d1')).trans d1'; have q2 := (hu.cell (block_lt_of_cell d2')).trans d2'; have q3 := (hu.cell (block_lt_of_cell d3')).trans d3'; have q4 := (hu.cell (block_lt_of_cell d4')).trans d4'); go_simp; try (with_reducible rfl))
        try simp only [Act.put, List.setIfInBounds_toArray, List.set_cons_zero, List.set_cons_succ]
        refine give_val (i := 14) (v := ?_) rfl (by kernel_rfl) (by kernel_rfl) (by kernel_rfl) (fun _ _ _ h => h) (by rfl) (fun u hu => ?_) hS ?_
        rotate_left
        · ((obtain ⟨b0, b1, b2⟩ := obj_cells3 (obj_below HX0W.out hu); have q0 := (hu.cell (block_lt_of_cell d0')).trans d0'; have q1 := (hu.cell (block_lt_of_cell d1')).trans d1'; have q2 := (hu.cell (block_lt_of_cell d2')).trans d2'; have q3 := (hu.cell (block_lt_of_cell d3')).trans d3'; have q4 := (hu.cell (block_lt_of_cell d4')).trans d4'); go_simp; try (with_reducible rfl))
        try simp only [Act.put, List.setIfInBounds_toArray, List.set_cons_zero, List.set_cons_succ]
        refine give_val (i := 15) (v := ?_) rfl (by kernel_rfl) (by kernel_rfl) (by kernel_rfl) (fun _ _ _ h => h) (by rfl) (fun u hu => ?_) hS ?_
        rotate_left
        · ((obtain ⟨b0, b1, b2⟩ := obj_cells3 (obj_below HX0W.out hu); have q0 := (hu.cell (block_lt_of_cell d0')).trans d0'; have q1 := (hu.cell (block_lt_of_cell d1')).trans d1'; have q2 := (hu.cell (block_lt_of_cell d2')).trans d2'; have q3 := (hu.cell (block_lt_of_cell d3')).trans d3'; have q4 := (hu.cell (block_lt_of_cell d4')).trans d4'); go_simp; try (with_reducible rfl))
        try simp only [Act.put, List.setIfInBounds_toArray, List.set_cons_zero, List.set_cons_succ]
        refine give_val (i := 16) (v := ?_) rfl (by kernel_rfl) (by kernel_rfl) (by kernel_rfl) (fun _ _ _ h => h) (by rfl) (fun u hu => ?_) hS ?_
        rotate_left
        · ((obtain ⟨b0, b1, b2⟩ := obj_cells3 (obj_below HX0W.out hu); have q0 := (hu.cell (block_lt_of_cell d0')).trans d0'; have q1 := (hu.cell (block_lt_of_cell d1')).trans d1'; have q2 := (hu.cell (block_lt_of_cell d2')).trans d2'; have q3 := (hu.cell (block_lt_of_cell d3')).trans d3'; have q4 := (hu.cell (block_lt_of_cell d4')).trans d4'); go_simp; try (with_reducible rfl))
        try simp only [Act.put, List.setIfInBounds_toArray, List.set_cons_zero, List.set_cons_succ]
        refine wpAnyH_done (by kernel_rfl) (NoPanic.normal ?_) _
        have HBX := Lib.hid (hbt HBW.out hS)
        have HXX := Lib.hid (HXW.out.below hS)
        have HX1X := Lib.hid (obj_below HX1W.out hS)
        have HX2X := Lib.hid (obj_below HX2W.out hS)
        have HOX := Lib.hid (owns_below HOW.out hS)
        have HKX := Lib.hid (HKW.out.step (hS.mono HKW.out.1))
        have c5x := (hS.cell (block_lt_of_cell c5')).trans c5'
        clear hS HX0W HX1W HX2W HOW HXW HKW HBW c5' d0' d1' d2' d3' d4' hpb
        rename World => w7
        by_cases hex : ex = 0
        · subst hex
          have hcn := cell_one HPB.out HFB.out HCQ.out
          have hdo := decF_ok (r := zs.drop (j + 1)) HFB.out HCQ.out
          have hr := HRS.out
          rw [HD.out, hdo] at hr
          have HQB := Lib.hid hcn.2.1
          have HR2 : Hid ((ks ++ [(no, tx)] ++ (decF 1 sl b (zs.drop (j + 1)) q).1, (decF 1 sl b (zs.drop (j + 1)) q).2) = (Rl, Rf)) := by
            show _ = _
            rw [← hr, List.append_assoc]
            rfl
          clear hcn hdo hr HRS HD HCQ HFB
          have hkw := HKX.out.1
          go_wp2_with fail
          refine wp_region_noPanic ?_
          refine wp_region_late (fun u => MBox u (w.heap.size + 3) t Y M cp ∧ u.cell? (a5.add j) = some (.int .i64 no)) 11 (by kernel_rfl) ((show MBox w7 (w.heap.size + 3) t Y M cp ∧ w7.cell? (a5.add j) = some (.int .i64 no) from ⟨HXX.out, c5x⟩)) (fun hT => ?_)
          refine late_val (i := 0) (v := ?_) rfl (by kernel_rfl) (by kernel_rfl) (by kernel_rfl) (by kernel_rfl) (fun _ _ _ h => h) (by rfl) (fun u hu => ?_) hT ?_
          rotate_left
          · ((rcases hu with ⟨hu2, hu3⟩; obtain ⟨e0, e1, _, _⟩ := obj_cells hu2; clear hu2); go_simp; try (with_reducible rfl))
          try simp only [Act.put, List.setIfInBounds_toArray, List.set_cons_zero, List.set_cons_succ]
          refine late_val (i := 1) (v := ?_) rfl (by kernel_rfl) (by kernel_rfl) (by kernel_rfl) (by kernel_rfl) (fun _ _ _ h => h) (by rfl) (fun u hu => ?_) hT ?_
          rotate_left
          · ((rcases hu with ⟨hu2, hu3⟩; obtain ⟨e0, e1, _, _⟩ := obj_cells hu2; clear hu2); go_simp; try (with_reducible rfl))
          try simp only [Act.put, List.setIfInBounds_toArray, List.set_cons_zero, List.set_cons_succ]
          refine late_val (i := 2) (v := ?_) rfl (by kernel_rfl) (by kernel_rfl) (by kernel_rfl) (by kernel_rfl) (fun _ _ _ h => h) (by rfl) (fun u hu => ?_) hT ?_
          rotate_left
          · ((rcases hu with ⟨hu2, hu3⟩; obtain ⟨e0, e1, _, _⟩ := obj_cells hu2; clear hu2); go_simp; try (with_reducible rfl))
          try simp only [Act.put, List.setIfInBounds_toArray, List.set_cons_zero, List.set_cons_succ]
          refine late_val (i := 3) (v := ?_) rfl (by kernel_rfl) (by kernel_rfl) (by kernel_rfl) (by kernel_rfl) (fun _ _ _ h => h) (by rfl) (fun u hu => ?_) hT ?_
          rotate_left
          · ((rcases hu with ⟨hu2, hu3⟩; obtain ⟨e0, e1, _, _⟩ := obj_cells hu2; clear hu2); go_simp; try (with_reducible rfl))
          try simp only [Act.put, List.setIfInBounds_toArray, List.set_cons_zero, List.set_cons_succ]
          refine late_val (i := 4) (v := ?_) rfl (by kernel_rfl) (by kernel_rfl) (by kernel_rfl) (by kernel_rfl) (fun _ _ _ h => h) (by rfl) (fun u hu => ?_) hT ?_
          rotate_left
          · ((rcases hu with ⟨hu2, hu3⟩; obtain ⟨e0, e1, _, _⟩ := obj_cells hu2; clear hu2); go_simp; try (with_reducible rfl))
          try simp only [Act.put, List.setIfInBounds_toArray, List.set_cons_zero, List.set_cons_succ]
          refine late_val (i := 5) (v := ?_) rfl (by kernel_rfl) (by kernel_rfl) (by kernel_rfl) (by kernel_rfl) (fun _ _ _ h => h) (by rfl) (fun u hu => ?_) hT ?_
          rotate_left
          · ((rcases hu with ⟨hu2, hu3⟩; obtain ⟨e0, e1, _, _⟩ := obj_cells hu2; clear hu2); go_simp; try (with_reducible rfl))
          try simp only [Act.put, List.setIfInBounds_toArray, List.set_cons_zero, List.set_cons_succ]
          refine late_val (i := 6) (v := ?_) rfl (by kernel_rfl) (by kernel_rfl) (by kernel_rfl) (by kernel_rfl) (fun _ _ _ h => h) (by rfl) (fun u hu => ?_) hT ?_
          rotate_left
          · ((rcases hu with ⟨hu2, hu3⟩; obtain ⟨e0, e1, _, _⟩ := obj_cells hu2; clear hu2); go_simp; try (with_reducible rfl))
          try simp only [Act.put, List.setIfInBounds_toArray, List.set_cons_zero, List.set_cons_succ]
          refine late_val (i := 7) (v := ?_) rfl (by kernel_rfl) (by kernel_rfl) (by kernel_rfl) (by kernel_rfl) (fun _ _ _ h => h) (by rfl) (fun u hu => ?_) hT ?_
          rotate_left
          · ((rcases hu with ⟨hu2, hu3⟩; obtain ⟨e0, e1, _, _⟩ := obj_cells hu2; clear hu2); go_simp; try (with_reducible rfl))
          try simp only [Act.put, List.setIfInBounds_toArray, List.set_cons_zero, List.set_cons_succ]
          refine late_lone (i := 8) rfl (by kernel_rfl) (by rfl) (fun K hK => ?_)
          go_simp
          refine hK.out _ _ (⟨HXX.out.below (below_al w7 (.cells #[.int .i64 no, .string tx] 42)).drew, ((below_al w7 (.cells #[.int .i64 no, .string tx] 42)).cell (block_lt_of_cell c5x)).trans c5x⟩) ?_
          clear hK
          try simp only [Act.put, List.setIfInBounds_toArray, List.set_cons_zero, List.set_cons_succ]
          refine late_lone (i := 9) rfl (by kernel_rfl) (by rfl) (fun K hK => ?_)
          refine wp_append_lies _ _ _ _ (by rfl) w5.heap.size 42 i0 _ 2 24 Tryd.underlying26 hi hz0 hz1 hz2 rfl (by omega) (.slice Y M cp) M (itemsC ks) (by rfl) ((HOX.out.alloc _).drew) ⟨w7.heap.size, 0, none⟩ 1 1 (itemC (no, tx)) (by rfl) (by rfl) (World.news_of_block (cs := #[.int .i64 no, .string tx]) (t := 42) (fr := (0, 0)) (heap_alloc_new w7 _)) (by simp [itemC, Value.oneCell']) (by omega) (by unfold maxLen; omega) (by omega) (by have := HKX.out.1; simp; omega) (w7.heap.size + 1) (by simp) ?_
          intro g' cap' w8 hown8 hgrow8 hat8 hlt8
          have hbB : Below w5.heap.size w7 w8 := (((Below.refl _ _).alloc HKX.out.1 _).drew).grown hgrow8 (by have := HKX.out.1; simp; omega) (fun q hq => (HOX.out.lt q hq).1)
          have HO8 := Lib.hid hown8
          have HK8 := Lib.hid (HKX.out.step hbB)
          have HX8 : Hid (MBox w8 (w.heap.size + 3) t Y M cp) := (hbB.block _ (by omega)).trans HXX.out
          have HB8 := Lib.hid (HBX.out.trans (hbB.mono (by omega)))
          have q5 : w8.cell? (a5.add j) = some (.int .i64 no) := HK8.out.num hcU HT5.out.2.2.2.2
          clear hown8 hgrow8 hat8 hlt8 hbB
          refine hK.out _ _ (⟨HX8.out, q5⟩) ?_
          clear hK
          try simp only [Act.put, List.setIfInBounds_toArray, List.set_cons_zero, List.set_cons_succ]
          clear hT
          have hT : MBox w8 (w.heap.size + 3) t Y M cp ∧ w8.cell? (a5.add j) = some (.int .i64 no) := ⟨HX8.out, q5⟩
          refine late_val (i := 10) (v := ?_) rfl (by kernel_rfl) (by kernel_rfl) (by kernel_rfl) (by kernel_rfl) (fun _ _ _ h => h) (by rfl) (fun u hu => ?_) hT ?_
          rotate_left
          · ((rcases hu with ⟨hu2, hu3⟩; obtain ⟨e0, e1, _, _⟩ := obj_cells hu2; clear hu2); go_simp; try (with_reducible rfl))
          try simp only [Act.put, List.setIfInBounds_toArray, List.set_cons_zero, List.set_cons_succ]
          refine late_only rfl (by kernel_rfl) (by rfl) (fun K hK => ?_)
          obtain ⟨j0, j1, f0, f1⟩ := obj_cells HX8.out
          go_simp
          refine hK.out _ _ ?_
          clear hK
          try simp only [Act.put, List.setIfInBounds_toArray, List.set_cons_zero, List.set_cons_succ]
          refine late_done (by kernel_rfl) (NoPanic.normal ?_) _
          clear hT j0 j1 f0 f1 q5 c5x
          go_wp2
          go_roundw
          case rel => exact ⟨j + 1, q, ks ++ [(no, tx)], by omega, by go_num, rfl, HQB.out, by rw [List.length_append, HMM.out, List.length_singleton]; omega, HR2.out, mwants_put (by omega) (by omega) HMM.out HX8.out HO8.out HK8.out HB8.out⟩
          case measure => simp [intOf]; omega
        · have tex : (ex != 0) = true := by simpa using hex
          have hdb := decF_bad (st := 1) (s := b) (r := zs.drop (j + 1)) (p := p) HFB.out (by rw [HCQ.out]; exact hex)
          have hr := HRS.out
          rw [HD.out, hdb, HCQ.out, List.append_nil] at hr
          obtain ⟨h1, h2⟩ := Prod.mk.inj hr
          have H12 : Hid (ks = Rl ∧ (ex, no) = Rf) := ⟨h1, h2⟩
          clear hdb hr h1 h2 HRS HD hex HCQ HFB
          go_wp2_with fail
          refine wp_region_noPanic ?_
          refine wp_region_held_drew (S := (StoreS w t Y M cp (a5.add j) no)) (by kernel_rfl) ((show StoreS w t Y M cp (a5.add j) no w7.drew from ⟨HBX.out.drew, HXX.out, c5x, ⟨_, _, HX1X.out⟩, ⟨_, _, HX2X.out⟩⟩)) (fun hS => ?_)
          refine give_val (i := 0) (v := ?_) rfl (by kernel_rfl) (by kernel_rfl) (by kernel_rfl) (fun _ _ _ h => h) (by rfl) (fun u hu => ?_) hS ?_
          rotate_left
          · ((obtain ⟨_, hu2, hu3, _⟩ := hu; obtain ⟨e0, e1, _, _⟩ := obj_cells hu2; clear hu2); go_simp; try (with_reducible rfl))
          try simp only [Act.put, List.setIfInBounds_toArray, List.set_cons_zero, List.set_cons_succ]
          refine give_val (i := 1) (v := ?_) rfl (by kernel_rfl) (by kernel_rfl) (by kernel_rfl) (fun _ _ _ h => h) (by rfl) (fun u hu => ?_) hS ?_
          rotate_left
          · ((obtain ⟨_, hu2, hu3, _⟩ := hu; obtain ⟨e0, e1, _, _⟩ := obj_cells hu2; clear hu2); go_simp; try (with_reducible rfl))
          try simp only [Act.put, List.setIfInBounds_toArray, List.set_cons_zero, List.set_cons_succ]
          refine give_val (i := 2) (v := ?_) rfl (by kernel_rfl) (by kernel_rfl) (by kernel_rfl) (fun _ _ _ h => h) (by rfl) (fun u hu => ?_) hS ?_
          rotate_left
          · ((obtain ⟨_, hu2, hu3, _⟩ := hu; obtain ⟨e0, e1, _, _⟩ := obj_cells hu2; clear hu2); go_simp; try (with_reducible rfl))
          try simp only [Act.put, List.setIfInBounds_toArray, List.set_cons_zero, List.set_cons_succ]
          refine give_val (i := 3) (v := ?_) rfl (by kernel_rfl) (by kernel_rfl) (by kernel_rfl) (fun _ _ _ h => h) (by rfl) (fun u hu => ?_) hS ?_
          rotate_left
          · ((obtain ⟨_, hu2, hu3, _⟩ := hu; obtain ⟨e0, e1, _, _⟩ := obj_cells hu2; clear hu2); go_simp; try (with_reducible rfl))
          try simp only [Act.put, List.setIfInBounds_toArray, List.set_cons_zero, List.set_cons_succ]
          refine give_val (i := 4) (v := ?_) rfl (by kernel_rfl) (by kernel_rfl) (by kernel_rfl) (fun _ _ _ h => h) (by rfl) (fun u hu => ?_) hS ?_
          rotate_left
          · ((obtain ⟨_, hu2, hu3, _⟩ := hu; obtain ⟨e0, e1, _, _⟩ := obj_cells hu2; clear hu2); go_simp; try (with_reducible rfl))
          try simp only [Act.put, List.setIfInBounds_toArray, List.set_cons_zero, List.set_cons_succ]
          refine give_val (i := 5) (v := ?_) rfl (by kernel_rfl) (by kernel_rfl) (by kernel_rfl) (fun _ _ _ h => h) (by rfl) (fun u hu => ?_) hS ?_
          rotate_left
          · ((obtain ⟨_, hu2, hu3, _⟩ := hu; obtain ⟨e0, e1, _, _⟩ := obj_cells hu2; clear hu2); go_simp; try (with_reducible rfl))
          try simp only [Act.put, List.setIfInBounds_toArray, List.set_cons_zero, List.set_cons_succ]
          refine give_val (i := 6) (v := ?_) rfl (by kernel_rfl) (by kernel_rfl) (by kernel_rfl) (fun _ _ _ h => h) (by rfl) (fun u hu => ?_) hS ?_
          rotate_left
          · ((obtain ⟨_, hu2, hu3, _⟩ := hu; obtain ⟨e0, e1, _, _⟩ := obj_cells hu2; clear hu2); go_simp; try (with_reducible rfl))
          try simp only [Act.put, List.setIfInBounds_toArray, List.set_cons_zero, List.set_cons_succ]
          obtain ⟨c0, c1, c2, c3⟩ := obj_cells HX1X.out
          have f1 := obj_set2 HX1X.out (.string t) (.slice Y M cp)
          have f2 := obj_set_other HX2X.out (show w.heap.size + 2 ≠ w.heap.size + 1 by omega) (.string t) (.slice Y M cp)
          have f3 := below_set2 (p := w.heap.size + 1) HBX.out (by omega) (.string t) (.slice Y M cp)
          have f4 := owns_set1 (owns_set1 HOX.out (show w.heap.size + 1 < w5.heap.size by omega) 0 (.string t)) (show w.heap.size + 1 < w5.heap.size by omega) 1 (.slice Y M cp)
          have f5 := StoreS.first (show StoreS w t Y M cp (a5.add j) no w7 from ⟨HBX.out, HXX.out, c5x, ⟨_, _, HX1X.out⟩, ⟨_, _, HX2X.out⟩⟩) (num_apart c5x HX1X.out) (.string t) (.slice Y M cp)
          refine only (i := 7) rfl (by kernel_rfl) (by rfl) (fun K hK => ?_)
          go_simp
          refine hK.out _ _ f5 ?_
          clear hK
          try simp only [Act.put, List.setIfInBounds_toArray, List.set_cons_zero, List.set_cons_succ]
          clear c0 c1 c2 c3
          generalize (w7.setCell ⟨w.heap.size + 1, 0, none⟩ (.string t)).setCell ⟨w.heap.size + 1, 1, none⟩ (.slice Y M cp) = u7 at *
          obtain ⟨c0, c1, c2, c3⟩ := obj_cells f2
          have K1 := Lib.hid (obj_set_other f1 (show w.heap.size + 1 ≠ w.heap.size + 2 by omega) (.int .i64 ex) (.int .i64 no))
          have K2 := Lib.hid (obj_set2 f2 (.int .i64 ex) (.int .i64 no))
          have K3 := Lib.hid (below_set2 (p := w.heap.size + 2) f3 (by omega) (.int .i64 ex) (.int .i64 no))
          have K4 := Lib.hid (vals_own_at (owns_set1 (owns_set1 f4 (show w.heap.size + 2 < w5.heap.size by omega) 0 (.int .i64 ex)) (show w.heap.size + 2 < w5.heap.size by omega) 1 (.int .i64 no)) HMM.out.symm)
          have f6 := StoreS.second (show StoreS w t Y M cp (a5.add j) no u7 from ⟨f3, f5.2⟩) HQ2.out (.int .i64 ex) (.int .i64 no)
          refine only (i := 8) rfl (by kernel_rfl) (by rfl) (fun K hK => ?_)
          go_simp
          refine hK.out _ _ f6 ?_
          clear hK
          try simp only [Act.put, List.setIfInBounds_toArray, List.set_cons_zero, List.set_cons_succ]
          refine wpAnyH_done (by kernel_rfl) (NoPanic.normal ?_) _
          clear c0 c1 c2 c3 f1 f2 f3 f4 f5 f6
          generalize (u7.setCell ⟨w.heap.size + 2, 0, none⟩ (.int .i64 ex)).setCell ⟨w.heap.size + 2, 1, none⟩ (.int .i64 no) = u8 at *
          go_wp2
          refine bodyPost_ret (results_two rfl _ _ (w.heap.size + 1) (w.heap.size + 2) _ _ _ _ _ _ _ _ rfl K1.out rfl K2.out Tryd.underlying28 rfl (by kernel_rfl) Tryd.underlying31 rfl (by kernel_rfl)) rfl ?_
          obtain ⟨h1, h2⟩ := H12.out
          refine ⟨Y, cp, ?_, ?_, K3.out.drew⟩
          · show _ = Ending.returned (.tuple #[.agg #[.string t, .slice Y Rl.length cp], .agg #[.int .i64 Rf.1, .int .i64 Rf.2]])
            rw [← h1, ← h2, HMM.out]
          · show Tlvs _ Y Rl
            rw [← h1]
            exact K4.out
    · have hje : zs.drop j = [] := List.drop_eq_nil_of_le (by have := HZL.out; omega)
      have hr := HRS.out
      rw [hje, decF_nil, List.append_nil] at hr
      obtain ⟨h1, h2⟩ := Prod.mk.inj hr
      have H1 : Hid (ks = Rl) := h1
      have H2 : Hid ((if p < b.size then ((12 : Int), (129 : Int)) else (0, 0)) = Rf) := h2
      clear hje hr h1 h2 HRS
      obtain ⟨c0, c1, c2, c3⟩ := obj_cells HX1.out
      obtain ⟨d0, d1, d2, d3⟩ := obj_cells HX2.out
      obtain ⟨e0, e1, _, _⟩ := obj_cells HX.out
      by_cases hpb : p < b.size
      · have H2' : Hid (((12 : Int), (129 : Int)) = Rf) := by have := H2.out; rwa [if_pos hpb] at this
        clear H2
        go_wp2
        obtain ⟨k1, k2, k3⟩ := two_set (w := w) HX1.out HX2.out (by omega) (by omega) (by omega) HB.out (.string t) (.slice Y M cp) (.int .i64 12) (.int .i64 129)
        refine bodyPost_ret (results_two rfl _ _ (w.heap.size + 1) (w.heap.size + 2) _ _ _ _ _ _ _ _ rfl k1 rfl k2 Tryd.underlying28 rfl (by kernel_rfl) Tryd.underlying31 rfl (by kernel_rfl)) rfl ?_
        refine ⟨Y, cp, ?_, ?_, k3⟩
        · show _ = Ending.returned (.tuple #[.agg #[.string t, .slice Y Rl.length cp], .agg #[.int .i64 Rf.1, .int .i64 Rf.2]])
          rw [← H1.out, ← H2'.out, HMM.out]
        · show Tlvs _ Y Rl
          rw [← H1.out]
          exact own_two HO.out HMM.out.symm (by omega) (by omega) _ _ _ _
      · have H2' : Hid (((0 : Int), (0 : Int)) = Rf) := by have := H2.out; rwa [if_neg hpb] at this
        clear H2
        go_wp2
        obtain ⟨k1, k2, k3⟩ := two_set (w := w) HX1.out HX2.out (by omega) (by omega) (by omega) HB.out (.string t) (.slice Y M cp) (.int .i64 0) (.int .i64 0)
        refine bodyPost_ret (results_two rfl _ _ (w.heap.size + 1) (w.heap.size + 2) _ _ _ _ _ _ _ _ rfl k1 rfl k2 Tryd.underlying28 rfl (by kernel_rfl) Tryd.underlying31 rfl (by kernel_rfl)) rfl ?_
        refine ⟨Y, cp, ?_, ?_, k3⟩
        · show _ = Ending.returned (.tuple #[.agg #[.string t, .slice Y Rl.length cp], .agg #[.int .i64 Rf.1, .int .i64 Rf.2]])
          rw [← H1.out, ← H2'.out, HMM.out]
        · show Tlvs _ Y Rl
          rw [← H1.out]
          exact own_two HO.out HMM.out.symm (by omega) (by omega) _ _ _ _

set_option maxRecDepth 100000 in
set_option maxHeartbeats 25600000 in
theorem sref_loop2 (v : Int) (A : Option Addr) (ca : Nat) (sl : List Sp) (b : ByteArray) (w : World) (hI : Spl w A sl) (hn : sl.length ≤ 1000) (hbz : b.size ≤ 1000000) (h : (schN 2 v sl).1 = 0) (h2 : 2 ≤ b.size) (t t0 : ByteArray) (hcut : ∀ W : World, (Instr.slice 9 (.string b) none (some (.int .i64 2)) none).run Tryd.prog W = .ok (.string t0) W) (x : Int) (y : Int) (hbcd : ∀ W, Calls Tryd.prog 22 #[.string t0, .int .i64 4] W fun e w' => e = .returned (.tuple #[.string t, .int .i64 x, .int .i64 y]) ∧ Below W.heap.size W w') (ht : t.size ≤ maxLen) (hm : mtiB t.data.toList = true) (c0 : Nat) (y1 : Int) (hix : ∀ W, (Instr.index 9 (.string t) (.int .i64 0)).run Tryd.prog W = .ok (.int .u8 (c0 : Int)) W) (hc : c0 < 256) (hy : (c0 : Int) - 48 = y1) (hv : y1 = v) (G : Got) (hG : ∀ W, Calls Tryd.prog 24 #[.int .i64 2, .string b, .int .i64 2] W fun e w' => ListsN G W w' e) (hx : G.err = 0) (hnx : G.next ≤ b.size) :
    Calls Tryd.prog 11 #[.agg #[.int .i64 2, .int .i64 v, .slice A sl.length ca], .string b] w fun e w' => DecTo (t, decF 2 sl b (zi (listN G.high G.low 128)) G.next) w w' e := by
  subst hv
  have HC := Lib.hid (fun W hW => sright_any 2 y1 A ca sl W hW hn)
  rw [decide_eq_true h] at HC
  have HT := Lib.hid (rquad_new w 2 y1 A sl.length ca)
  have HI := Lib.hid (hI.below HT.out.1)
  have HG := Lib.hid hG
  have tb : decide ((b.size : Int) < 2) = false := by simp; omega
  have HM := Lib.hid (fun W => mrefRight_any t W ht)
  rw [hm] at HM
  have hci : (c0 : Int) < 1000 := by omega
  have HY : Hid ((c0 : Int) - 48 = y1 ∧ (c0 : Int) < 1000) := ⟨hy, hci⟩
  have hwr : IntKind.i64.wrap (c0 : Int) = (c0 : Int) := IntWalk.i64_in _ (by omega)
  have HBC := Lib.hid hbcd
  clear hbcd
  have HF := Lib.hid (fun (no : Int) W hW => sreffind_any 2 y1 A ca sl no W hW hn)
  have HSK := Lib.hid (fun k2 (hk : k2 < sl.length) => spk_at h hk)
  have HGC : Hid (∀ k2 p x1 x2 x3 x4 x5 W, k2 < sl.length → spAt sl k2 = (x1, x2, x3, x4, x5) → p ≤ b.size → Calls Tryd.prog 26 #[.int .i64 2, .agg #[.int .i64 x1, .int .i64 x2, .int .i64 x3, .int .i64 x4, .int .i64 x5], .string b, .int .i64 (p : Int)] W fun e w' => e = .returned (cgetV (cget 2 x1 x2 x3 x4 x5 b p)) ∧ Below W.heap.size W w') := fun k2 p x1 x2 x3 x4 x5 W hk hx hp => crget_any 2 p x1 x2 x3 x4 x5 b W (by decide) (by have := HSK.out k2 hk; rw [hx] at this; exact this) hbz hp
  have HPOS : Hid (∀ n ∈ zi (listN G.high G.low 128), n ≠ 0) := fun n hn => by have := RiseI.above (rise_listN _ _ _) n hn; omega
  have hll : (zi (listN G.high G.low 128)).length ≤ 128 := by rw [zi_length]; exact listN_length_le _ _ _
  clear hI h ht hm hc hy hG hbz
  unfold ListsN at HG
  rw [hx] at HG
  generalize (zi (listN G.high G.low 128)) = zs at *
  generalize G.next = gn at *
  generalize hR : decF 2 sl b zs gn = R
  obtain ⟨Rl, Rf⟩ := R
  have HR := Lib.hid hR
  have HNX := Lib.hid hnx
  generalize hzl : zs.length = zn at *
  have HZL := Lib.hid hzl
  generalize hsl : sl.length = len at *
  have HSL := Lib.hid hsl
  clear hR hnx hx hzl hsl
  go_enter Tryd.func11, Tryd.ntmps11
  go_wp2_with fail
  generalize (((w.alloc (.cells #[.int .i64 2, .int .i64 y1, .slice A len ca] 24)).alloc (.cells #[.string ⟨#[]⟩, .slice none 0 0] 28)).alloc (.cells #[.int .i64 0, .int .i64 0] 31)).alloc (.cells #[.string ⟨#[]⟩, .slice none 0 0] 28) = U at *
  refine (HC.out _ HI.out).mono ?_
  rintro e w1 ⟨rfl, hb1⟩
  have HT1 := Lib.hid (HT.out.below hb1)
  have HI1 := Lib.hid (HI.out.below hb1)
  clear hb1 HT HI HC
  obtain ⟨s0, s1, s2⟩ := obj_cells3 HT1.out.2.1
  go_wp2_with fail
  refine (HBC.out _).mono ?_
  rintro e w2 ⟨rfl, hb2⟩
  have HT2 := Lib.hid (HT1.out.below hb2)
  have HI2 := Lib.hid (HI1.out.below hb2)
  clear hb2 HT1 HI1 s0 s1 s2
  go_wp2_with fail
  clear hcut tb
  refine wp_region_noPanic ?_
  refine wp_region_held_drew (S := (fun u => Below w2.heap.size w2 u)) (by kernel_rfl) ((Below.refl _ _).drew) (fun hS => ?_)
  refine give_val (i := 0) (v := ?_) rfl (by kernel_rfl) (by kernel_rfl) (by kernel_rfl) (fun _ _ _ h => h) (by rfl) (fun u hu => ?_) hS ?_
  rotate_left
  · ((have hT := HT2.out.below hu; obtain ⟨b0, b1, b2⟩ := obj_cells3 hT.2.1; clear hT); go_simp; try (with_reducible rfl))
  try simp only [Act.put, List.setIfInBounds_toArray, List.set_cons_zero, List.set_cons_succ]
  refine only_call (i := 1) 23 #[.string t] rfl (by kernel_rfl) (by rfl) ((HM.out _).mono fun e w' he => ⟨he.1, he.2 ▸ hS⟩) ?_ ?_
  · (go_simp; try (with_reducible rfl))
  clear hS
  intro w1 hS
  try simp only [Act.put, List.setIfInBounds_toArray, List.set_cons_zero, List.set_cons_succ]
  refine give_val (i := 2) (v := ?_) rfl (by kernel_rfl) (by kernel_rfl) (by kernel_rfl) (fun _ _ _ h => h) (by rfl) (fun u hu => ?_) hS ?_
  rotate_left
  · ((have hT := HT2.out.below hu; obtain ⟨b0, b1, b2⟩ := obj_cells3 hT.2.1; clear hT); go_simp; try (with_reducible rfl))
  try simp only [Act.put, List.setIfInBounds_toArray, List.set_cons_zero, List.set_cons_succ]
  refine give_val (i := 3) (v := ?_) rfl (by kernel_rfl) (by kernel_rfl) (by kernel_rfl) (fun _ _ _ h => h) (by rfl) (fun u hu => ?_) hS ?_
  rotate_left
  · ((have hT := HT2.out.below hu; obtain ⟨b0, b1, b2⟩ := obj_cells3 hT.2.1; clear hT); go_simp; try (with_reducible rfl))
  try simp only [Act.put, List.setIfInBounds_toArray, List.set_cons_zero, List.set_cons_succ]
  refine give_val (i := 4) (v := ?_) rfl (by kernel_rfl) (by kernel_rfl) (by kernel_rfl) (fun _ _ _ h => h) (by rfl) (fun u hu => ?_) hS ?_
  rotate_left
  · ((have hT := HT2.out.below hu; obtain ⟨b0, b1, b2⟩ := obj_cells3 hT.2.1; clear hT); go_simp; try (with_reducible rfl))
  try simp only [Act.put, List.setIfInBounds_toArray, List.set_cons_zero, List.set_cons_succ]
  refine give_val (i := 5) (v := ?_) rfl (by kernel_rfl) (by kernel_rfl) (by kernel_rfl) (fun _ _ _ h => h) (by rfl) (fun u hu => ?_) hS ?_
  rotate_left
  · ((have hT := HT2.out.below hu; obtain ⟨b0, b1, b2⟩ := obj_cells3 hT.2.1; clear hT); go_simp; try (with_reducible rfl))
  try simp only [Act.put, List.setIfInBounds_toArray, List.set_cons_zero, List.set_cons_succ]
  refine give_val (i := 6) (v := ?_) rfl (by kernel_rfl) (by kernel_rfl) (by kernel_rfl) (fun _ _ _ h => h) (by rfl) (fun u hu => ?_) hS ?_
  rotate_left
  · ((have hT := HT2.out.below hu; obtain ⟨b0, b1, b2⟩ := obj_cells3 hT.2.1; clear hT); go_simp; try (with_reducible rfl))
  try simp only [Act.put, List.setIfInBounds_toArray, List.set_cons_zero, List.set_cons_succ]
  refine give_val (i := 7) (v := (.int .i64 y1)) rfl (by kernel_rfl) (by kernel_rfl) (by kernel_rfl) (fun _ _ _ h => h) (by rfl) (fun u hu => ?_) hS ?_
  · ((have hT := HT2.out.below hu; obtain ⟨b0, b1, b2⟩ := obj_cells3 hT.2.1; clear hT); go_simp; (have h9 := HY.out; first | omega | (rw [IntWalk.i64_in _ (by omega)]; omega)))
  try simp only [Act.put, List.setIfInBounds_toArray, List.set_cons_zero, List.set_cons_succ]
  refine give_val (i := 8) (v := ?_) rfl (by kernel_rfl) (by kernel_rfl) (by kernel_rfl) (fun _ _ _ h => h) (by rfl) (fun u hu => ?_) hS ?_
  rotate_left
  · ((have hT := HT2.out.below hu; obtain ⟨b0, b1, b2⟩ := obj_cells3 hT.2.1; clear hT); go_simp; try (with_reducible rfl))
  try simp only [Act.put, List.setIfInBounds_toArray, List.set_cons_zero, List.set_cons_succ]
  refine give_val (i := 9) (v := ?_) rfl (by kernel_rfl) (by kernel_rfl) (by kernel_rfl) (fun _ _ _ h => h) (by rfl) (fun u hu => ?_) hS ?_
  rotate_left
  · ((have hT := HT2.out.below hu; obtain ⟨b0, b1, b2⟩ := obj_cells3 hT.2.1; clear hT); go_simp; try (with_reducible rfl))
  try simp only [Act.put, List.setIfInBounds_toArray, List.set_cons_zero, List.set_cons_succ]
  refine give_val (i := 10) (v := ?_) rfl (by kernel_rfl) (by kernel_rfl) (by kernel_rfl) (fun _ _ _ h => h) (by rfl) (fun u hu => ?_) hS ?_
  rotate_left
  · ((have hT := HT2.out.below hu; obtain ⟨b0, b1, b2⟩ := obj_cells3 hT.2.1; clear hT); go_simp; try (with_reducible rfl))
  try simp only [Act.put, List.setIfInBounds_toArray, List.set_cons_zero, List.set_cons_succ]
  refine give_val (i := 11) (v := ?_) rfl (by kernel_rfl) (by kernel_rfl) (by kernel_rfl) (fun _ _ _ h => h) (by rfl) (fun u hu => ?_) hS ?_
  rotate_left
  · ((have hT := HT2.out.below hu; obtain ⟨b0, b1, b2⟩ := obj_cells3 hT.2.1; clear hT); go_simp; try (with_reducible rfl))
  try simp only [Act.put, List.setIfInBounds_toArray, List.set_cons_zero, List.set_cons_succ]
  refine wpAnyH_done (by kernel_rfl) (NoPanic.normal ?_) _
  clear hwr hix hci HY
  have HT3 := Lib.hid (HT2.out.below hS)
  have HI3 := Lib.hid (HI2.out.below hS)
  clear hS HT2 HI2
  rename World => w3
  obtain ⟨z0, z1, z2, z3⟩ := obj_cells HT3.out.2.2.2.2
  obtain ⟨s0, s1, s2⟩ := obj_cells3 HT3.out.2.1
  go_wp2_with fail
  have HT4 := Lib.hid (HT3.out.store t)
  have HI4 : Hid (Spl (w3.setCell ⟨w.heap.size + 3, 0, none⟩ (.string t)) A sl) := (KeepX.set (U := w3) (u := w3) (g := w.heap.size + 3) ⟨Nat.le_refl _, fun _ _ _ => rfl⟩ 0 (.string t)).spl HI3.out HT3.out.2.2.2.2
  clear HT3 HI3 z0 z1 z2 z3 s0 s1 s2
  generalize w3.setCell ⟨w.heap.size + 3, 0, none⟩ (.string t) = U4 at *
  refine (HG.out _).mono ?_
  rintro e w5 ⟨A5, c5, rfl, hi5, hb5⟩
  have HT5 := Lib.hid (HT4.out.below hb5)
  have HI5 := Lib.hid (HI4.out.below hb5)
  have HL5 := Lib.hid hi5
  clear hb5 hi5 HT4 HI4
  go_wp2_with fail
  obtain ⟨i0, hi, hz0, hz1, hz2⟩ := info_parts Tryd.infoVal
  have hg5 := obj_lt HT5.out.2.2.2.2
  go_loopw [10, 12] (fun y i wr => ∃ (j p : Nat) (ks : List Item), j ≤ zn ∧ i = .int .i64 (j : Int) ∧ y = .int .i64 (p : Int) ∧ p ≤ b.size ∧ ks.length ≤ j ∧ (ks ++ (decF 2 sl b (zs.drop j) p).1, (decF 2 sl b (zs.drop j) p).2) = (Rl, Rf) ∧ MWants w w5 (w.heap.size + 3) t ks wr) (fun _ i _ => zn - (intOf i).toNat)
  case atStart => exact ⟨0, gn, [], Nat.zero_le _, rfl, rfl, HNX.out, Nat.le_refl _, by rw [List.drop_zero, HR.out]; rfl, mwants_new HT5.out.2.2.2.2 HT5.out.1⟩
  case round =>
    obtain ⟨j, p, ks, hj, rfl, rfl, hp, hkl, hrest, Y, cp, hbox, hown, hkeep, hb⟩ := hrel
    have HX := Lib.hid hbox
    have HO := Lib.hid hown
    have HK := Lib.hid hkeep
    have HB := Lib.hid hb
    have HRS := Lib.hid hrest
    have HPB := Lib.hid hp
    have HX0 := Lib.hid (hkeep.obj HT5.out.2.1 (by omega))
    have HX1 := Lib.hid (hkeep.obj HT5.out.2.2.1 (by omega))
    have HX2 := Lib.hid (hkeep.obj HT5.out.2.2.2.1 (by omega))
    have HIR := Lib.hid (hkeep.spl HI5.out HT5.out.2.2.2.2)
    have HLR := Lib.hid (hkeep.ints HL5.out HT5.out.2.2.2.2)
    clear hbox hown hkeep hb hrest hp
    generalize hm : ks.length = M at *
    have HMM := Lib.hid hm
    clear hm
    by_cases hlt : j < zn
    · have hjl : j < zs.length := by have := HZL.out; omega
      obtain ⟨a5, rfl, hcU⟩ := HL5.out j hjl
      have hc5 := HK.out.num hcU HT5.out.2.2.2.2
      have HQ2 : Hid ((a5.add j).block ≠ w.heap.size + 2) := num_apart0 hcU HT5.out.2.2.2.1 (int_pos HPOS.out hjl)
      have hd := drop_int hjl
      generalize zs.getD j 0 = no at *
      have HD := Lib.hid hd
      have HFN := Lib.hid (fun W hW => HF.out no W hW)
      clear hd hjl
      rcases fnd_rel no sl 0 with ⟨g1, g2⟩ | ⟨k2, hk2, g2, g1⟩
      · rw [g2] at HFN
        have hdn := decF_none (st := 2) (s := b) (r := zs.drop (j + 1)) (p := p) (show (fndP no sl).2 = false by rw [g1])
        have hr := HRS.out
        rw [HD.out, hdn, List.append_nil] at hr
        obtain ⟨h1, h2⟩ := Prod.mk.inj hr
        have H12 : Hid (ks = Rl ∧ ((9 : Int), no) = Rf) := ⟨h1, h2⟩
        clear g1 g2 hdn hr h1 h2 HRS HD
        go_wp2_with fail
        refine wp_region_noPanic ?_
        refine wp_region_held_drew (S := (fun u => Below wr.heap.size wr u)) (by kernel_rfl) ((Below.refl _ _).drew) (fun hS => ?_)
        refine give_val (i := 0) (v := ?_) rfl (by kernel_rfl) (by kernel_rfl) (by kernel_rfl) (fun _ _ _ h => h) (by rfl) (fun u hu => ?_) hS ?_
        rotate_left
        · ((obtain ⟨b0, b1, b2⟩ := obj_cells3 (obj_below HX0.out hu); have q5 := (hu.cell (block_lt_of_cell hc5)).trans hc5); go_simp; try (with_reducible rfl))
        try simp only [Act.put, List.setIfInBounds_toArray, List.set_cons_zero, List.set_cons_succ]
        refine give_val (i := 1) (v := ?_) rfl (by kernel_rfl) (by kernel_rfl) (by kernel_rfl) (fun _ _ _ h => h) (by rfl) (fun u hu => ?_) hS ?_
        rotate_left
        · ((obtain ⟨b0, b1, b2⟩ := obj_cells3 (obj_below HX0.out hu); have q5 := (hu.cell (block_lt_of_cell hc5)).trans hc5); go_simp; try (with_reducible rfl))
        try simp only [Act.put, List.setIfInBounds_toArray, List.set_cons_zero, List.set_cons_succ]
        refine give_val (i := 2) (v := ?_) rfl (by kernel_rfl) (by kernel_rfl) (by kernel_rfl) (fun _ _ _ h => h) (by rfl) (fun u hu => ?_) hS ?_
        rotate_left
        · ((obtain ⟨b0, b1, b2⟩ := obj_cells3 (obj_below HX0.out hu); have q5 := (hu.cell (block_lt_of_cell hc5)).trans hc5); go_simp; try (with_reducible rfl))
        try simp only [Act.put, List.setIfInBounds_toArray, List.set_cons_zero, List.set_cons_succ]
        refine give_val (i := 3) (v := ?_) rfl (by kernel_rfl) (by kernel_rfl) (by kernel_rfl) (fun _ _ _ h => h) (by rfl) (fun u hu => ?_) hS ?_
        rotate_left
        · ((obtain ⟨b0, b1, b2⟩ := obj_cells3 (obj_below HX0.out hu); have q5 := (hu.cell (block_lt_of_cell hc5)).trans hc5); go_simp; try (with_reducible rfl))
        try simp only [Act.put, List.setIfInBounds_toArray, List.set_cons_zero, List.set_cons_succ]
        refine give_val (i := 4) (v := ?_) rfl (by kernel_rfl) (by kernel_rfl) (by kernel_rfl) (fun _ _ _ h => h) (by rfl) (fun u hu => ?_) hS ?_
        rotate_left
        · ((obtain ⟨b0, b1, b2⟩ := obj_cells3 (obj_below HX0.out hu); have q5 := (hu.cell (block_lt_of_cell hc5)).trans hc5); go_simp; try (with_reducible rfl))
        try simp only [Act.put, List.setIfInBounds_toArray, List.set_cons_zero, List.set_cons_succ]
        refine only_call (i := 5) 25 #[.agg #[.int .i64 2, .int .i64 y1, .slice A len ca], .int .i64 no] rfl (by kernel_rfl) (by rfl) ((HFN.out _ (HIR.out.below hS)).mono fun e w' he => ⟨he.1, hbt hS he.2⟩) ?_ ?_
        · (go_simp; try (with_reducible rfl))
        clear hS
        intro w5 hS
        try simp only [Act.put, List.setIfInBounds_toArray, List.set_cons_zero, List.set_cons_succ]
        refine give_val (i := 6) (v := ?_) rfl (by kernel_rfl) (by kernel_rfl) (by kernel_rfl) (fun _ _ _ h => h) (by rfl) (fun u hu => ?_) hS ?_
        rotate_left
        · ((obtain ⟨b0, b1, b2⟩ := obj_cells3 (obj_below HX0.out hu); have q5 := (hu.cell (block_lt_of_cell hc5)).trans hc5); go_simp; try (with_reducible rfl))
        try simp only [Act.put, List.setIfInBounds_toArray, List.set_cons_zero, List.set_cons_succ]
        refine wpAnyH_done (by kernel_rfl) (NoPanic.normal ?_) _
        have HBW := Lib.hid (hbt HB.out hS)
        have HXW := Lib.hid (HX.out.below hS)
        have HX1W := Lib.hid (obj_below HX1.out hS)
        have HX2W := Lib.hid (obj_below HX2.out hS)
        have HOW := Lib.hid (owns_below HO.out hS)
        have c5' := (hS.cell (block_lt_of_cell hc5)).trans hc5
        clear hS HX0 HX1 HX2 HIR HLR HK hc5
        rename World => w6
        go_wp2_with fail
        refine wp_region_noPanic ?_
        refine wp_region_held_drew (S := (StoreS w t Y M cp (a5.add j) no)) (by kernel_rfl) ((show StoreS w t Y M cp (a5.add j) no w6.drew from ⟨HBW.out.drew, HXW.out, c5', ⟨_, _, HX1W.out⟩, ⟨_, _, HX2W.out⟩⟩)) (fun hS => ?_)
        refine give_val (i := 0) (v := ?_) rfl (by kernel_rfl) (by kernel_rfl) (by kernel_rfl) (fun _ _ _ h => h) (by rfl) (fun u hu => ?_) hS ?_
        rotate_left
        · ((obtain ⟨_, hu2, hu3, _⟩ := hu; obtain ⟨e0, e1, _, _⟩ := obj_cells hu2; clear hu2); go_simp; try (with_reducible rfl))
        try simp only [Act.put, List.setIfInBounds_toArray, List.set_cons_zero, List.set_cons_succ]
        refine give_val (i := 1) (v := ?_) rfl (by kernel_rfl) (by kernel_rfl) (by kernel_rfl) (fun _ _ _ h => h) (by rfl) (fun u hu => ?_) hS ?_
        rotate_left
        · ((obtain ⟨_, hu2, hu3, _⟩ := hu; obtain ⟨e0, e1, _, _⟩ := obj_cells hu2; clear hu2); go_simp; try (with_reducible rfl))
        try simp only [Act.put, List.setIfInBounds_toArray, List.set_cons_zero, List.set_cons_succ]
        refine give_val (i := 2) (v := ?_) rfl (by kernel_rfl) (by kernel_rfl) (by kernel_rfl) (fun _ _ _ h => h) (by rfl) (fun u hu => ?_) hS ?_
        rotate_left
        · ((obtain ⟨_, hu2, hu3, _⟩ := hu; obtain ⟨e0, e1, _, _⟩ := obj_cells hu2; clear hu2); go_simp; try (with_reducible rfl))
        try simp only [Act.put, List.setIfInBounds_toArray, List.set_cons_zero, List.set_cons_succ]
        refine give_val (i := 3) (v := ?_) rfl (by kernel_rfl) (by kernel_rfl) (by kernel_rfl) (fun _ _ _ h => h) (by rfl) (fun u hu => ?_) hS ?_
        rotate_left
        · ((obtain ⟨_, hu2, hu3, _⟩ := hu; obtain ⟨e0, e1, _, _⟩ := obj_cells hu2; clear hu2); go_simp; try (with_reducible rfl))
        try simp only [Act.put, List.setIfInBounds_toArray, List.set_cons_zero, List.set_cons_succ]
        refine give_val (i := 4) (v := ?_) rfl (by kernel_rfl) (by kernel_rfl) (by kernel_rfl) (fun _ _ _ h => h) (by rfl) (fun u hu => ?_) hS ?_
        rotate_left
        · ((obtain ⟨_, hu2, hu3, _⟩ := hu; obtain ⟨e0, e1, _, _⟩ := obj_cells hu2; clear hu2); go_simp; try (with_reducible rfl))
        try simp only [Act.put, List.setIfInBounds_toArray, List.set_cons_zero, List.set_cons_succ]
        refine give_val (i := 5) (v := ?_) rfl (by kernel_rfl) (by kernel_rfl) (by kernel_rfl) (fun _ _ _ h => h) (by rfl) (fun u hu => ?_) hS ?_
        rotate_left
        · ((obtain ⟨_, hu2, hu3, _⟩ := hu; obtain ⟨e0, e1, _, _⟩ := obj_cells hu2; clear hu2); go_simp; try (with_reducible rfl))
        try simp only [Act.put, List.setIfInBounds_toArray, List.set_cons_zero, List.set_cons_succ]
        obtain ⟨c0, c1, c2, c3⟩ := obj_cells HX1W.out
        have f1 := obj_set2 HX1W.out (.string t) (.slice Y M cp)
        have f2 := obj_set_other HX2W.out (show w.heap.size + 2 ≠ w.heap.size + 1 by omega) (.string t) (.slice Y M cp)
        have f3 := below_set2 (p := w.heap.size + 1) HBW.out (by omega) (.string t) (.slice Y M cp)
        have f4 := owns_set1 (owns_set1 HOW.out (show w.heap.size + 1 < w5.heap.size by omega) 0 (.string t)) (show w.heap.size + 1 < w5.heap.size by omega) 1 (.slice Y M cp)
        have f5 := StoreS.first (show StoreS w t Y M cp (a5.add j) no w6 from ⟨HBW.out, HXW.out, c5', ⟨_, _, HX1W.out⟩, ⟨_, _, HX2W.out⟩⟩) (num_apart c5' HX1W.out) (.string t) (.slice Y M cp)
        refine only (i := 6) rfl (by kernel_rfl) (by rfl) (fun K hK => ?_)
        go_simp
        refine hK.out _ _ f5 ?_
        clear hK
        try simp only [Act.put, List.setIfInBounds_toArray, List.set_cons_zero, List.set_cons_succ]
        clear c0 c1 c2 c3
        generalize (w6.setCell ⟨w.heap.size + 1, 0, none⟩ (.string t)).setCell ⟨w.heap.size + 1, 1, none⟩ (.slice Y M cp) = u7 at *
        obtain ⟨c0, c1, c2, c3⟩ := obj_cells f2
        have K1 := Lib.hid (obj_set_other f1 (show w.heap.size + 1 ≠ w.heap.size + 2 by omega) (.int .i64 9) (.int .i64 no))
        have K2 := Lib.hid (obj_set2 f2 (.int .i64 9) (.int .i64 no))
        have K3 := Lib.hid (below_set2 (p := w.heap.size + 2) f3 (by omega) (.int .i64 9) (.int .i64 no))
        have K4 := Lib.hid (vals_own_at (owns_set1 (owns_set1 f4 (show w.heap.size + 2 < w5.heap.size by omega) 0 (.int .i64 9)) (show w.heap.size + 2 < w5.heap.size by omega) 1 (.int .i64 no)) HMM.out.symm)
        have f6 := StoreS.second (show StoreS w t Y M cp (a5.add j) no u7 from ⟨f3, f5.2⟩) HQ2.out (.int .i64 9) (.int .i64 no)
        refine only (i := 7) rfl (by kernel_rfl) (by rfl) (fun K hK => ?_)
        go_simp
        refine hK.out _ _ f6 ?_
        clear hK
        try simp only [Act.put, List.setIfInBounds_toArray, List.set_cons_zero, List.set_cons_succ]
        refine wpAnyH_done (by kernel_rfl) (NoPanic.normal ?_) _
        clear c0 c1 c2 c3 f1 f2 f3 f4 f5 f6
        generalize (u7.setCell ⟨w.heap.size + 2, 0, none⟩ (.int .i64 9)).setCell ⟨w.heap.size + 2, 1, none⟩ (.int .i64 no) = u8 at *
        go_wp2
        refine bodyPost_ret (results_two rfl _ _ (w.heap.size + 1) (w.heap.size + 2) _ _ _ _ _ _ _ _ rfl K1.out rfl K2.out Tryd.underlying28 rfl (by kernel_rfl) Tryd.underlying31 rfl (by kernel_rfl)) rfl ?_
        obtain ⟨h1, h2⟩ := H12.out
        refine ⟨Y, cp, ?_, ?_, K3.out.drew⟩
        · show _ = Ending.returned (.tuple #[.agg #[.string t, .slice Y Rl.length cp], .agg #[.int .i64 Rf.1, .int .i64 Rf.2]])
          rw [← h1, ← h2, HMM.out]
        · show Tlvs _ Y Rl
          rw [← h1]
          exact K4.out
      · rw [g2, Nat.zero_add] at HFN
        obtain ⟨a2, x1, x2, x3, x4, x5, rfl, hx5, d0, d1, d2, d3, d4⟩ := HIR.out.at_ hk2
        have hk3 : k2 < len := by have := HSL.out; omega
        have hcg := fun W => HGC.out k2 p x1 x2 x3 x4 x5 W hk3 hx5 HPB.out
        have hcq : cgetP 2 (fndP no sl).1 b p = cget 2 x1 x2 x3 x4 x5 b p := by rw [g1, hx5]; rfl
        have hfb : (fndP no sl).2 = true := by rw [g1]
        unfold cgetV at hcg
        generalize cget 2 x1 x2 x3 x4 x5 b p = C at *
        obtain ⟨tx, q, ex⟩ := C
        dsimp only at hcg
        have HCG := Lib.hid hcg
        have HCQ := Lib.hid hcq
        have HFB := Lib.hid hfb
        clear hcg hcq hfb g1 g2 hx5 hk2
        have hpb : p ≤ b.size := HPB.out
        go_wp2_with fail
        refine wp_region_noPanic ?_
        refine wp_region_held_drew (S := (fun u => Below wr.heap.size wr u)) (by kernel_rfl) ((Below.refl _ _).drew) (fun hS => ?_)
        refine give_val (i := 0) (v := ?_) rfl (by kernel_rfl) (by kernel_rfl) (by kernel_rfl) (fun _ _ _ h => h) (by rfl) (fun u hu => ?_) hS ?_
        rotate_left
        · ((obtain ⟨b0, b1, b2⟩ := obj_cells3 (obj_below HX0.out hu); have q5 := (hu.cell (block_lt_of_cell hc5)).trans hc5); go_simp; try (with_reducible rfl))
        try simp only [Act.put, List.setIfInBounds_toArray, List.set_cons_zero, List.set_cons_succ]
        refine give_val (i := 1) (v := ?_) rfl (by kernel_rfl) (by kernel_rfl) (by kernel_rfl) (fun _ _ _ h => h) (by rfl) (fun u hu => ?_) hS ?_
        rotate_left
        · ((obtain ⟨b0, b1, b2⟩ := obj_cells3 (obj_below HX0.out hu); have q5 := (hu.cell (block_lt_of_cell hc5)).trans hc5); go_simp; try (with_reducible rfl))
        try simp only [Act.put, List.setIfInBounds_toArray, List.set_cons_zero, List.set_cons_succ]
        refine give_val (i := 2) (v := ?_) rfl (by kernel_rfl) (by kernel_rfl) (by kernel_rfl) (fun _ _ _ h => h) (by rfl) (fun u hu => ?_) hS ?_
        rotate_left
        · ((obtain ⟨b0, b1, b2⟩ := obj_cells3 (obj_below HX0.out hu); have q5 := (hu.cell (block_lt_of_cell hc5)).trans hc5); go_simp; try (with_reducible rfl))
        try simp only [Act.put, List.setIfInBounds_toArray, List.set_cons_zero, List.set_cons_succ]
        refine give_val (i := 3) (v := ?_) rfl (by kernel_rfl) (by kernel_rfl) (by kernel_rfl) (fun _ _ _ h => h) (by rfl) (fun u hu => ?_) hS ?_
        rotate_left
        · ((obtain ⟨b0, b1, b2⟩ := obj_cells3 (obj_below HX0.out hu); have q5 := (hu.cell (block_lt_of_cell hc5)).trans hc5); go_simp; try (with_reducible rfl))
        try simp only [Act.put, List.setIfInBounds_toArray, List.set_cons_zero, List.set_cons_succ]
        refine give_val (i := 4) (v := ?_) rfl (by kernel_rfl) (by kernel_rfl) (by kernel_rfl) (fun _ _ _ h => h) (by rfl) (fun u hu => ?_) hS ?_
        rotate_left
        · ((obtain ⟨b0, b1, b2⟩ := obj_cells3 (obj_below HX0.out hu); have q5 := (hu.cell (block_lt_of_cell hc5)).trans hc5); go_simp; try (with_reducible rfl))
        try simp only [Act.put, List.setIfInBounds_toArray, List.set_cons_zero, List.set_cons_succ]
        refine only_call (i := 5) 25 #[.agg #[.int .i64 2, .int .i64 y1, .slice (some a2) len ca], .int .i64 no] rfl (by kernel_rfl) (by rfl) ((HFN.out _ (HIR.out.below hS)).mono fun e w' he => ⟨he.1, hbt hS he.2⟩) ?_ ?_
        · (go_simp; try (with_reducible rfl))
        clear hS
        intro w5 hS
        try simp only [Act.put, List.setIfInBounds_toArray, List.set_cons_zero, List.set_cons_succ]
        refine give_val (i := 6) (v := ?_) rfl (by kernel_rfl) (by kernel_rfl) (by kernel_rfl) (fun _ _ _ h => h) (by rfl) (fun u hu => ?_) hS ?_
        rotate_left
        · ((obtain ⟨b0, b1, b2⟩ := obj_cells3 (obj_below HX0.out hu); have q5 := (hu.cell (block_lt_of_cell hc5)).trans hc5); go_simp; try (with_reducible rfl))
        try simp only [Act.put, List.setIfInBounds_toArray, List.set_cons_zero, List.set_cons_succ]
        refine wpAnyH_done (by kernel_rfl) (NoPanic.normal ?_) _
        have HBW := Lib.hid (hbt HB.out hS)
        have HX0W := Lib.hid (obj_below HX0.out hS)
        have HXW := Lib.hid (HX.out.below hS)
        have HX1W := Lib.hid (obj_below HX1.out hS)
        have HX2W := Lib.hid (obj_below HX2.out hS)
        have HOW := Lib.hid (owns_below HO.out hS)
        have HKW := Lib.hid (HK.out.step (hS.mono HK.out.1))
        have c5' := (hS.cell (block_lt_of_cell hc5)).trans hc5
        have d0' := (hS.cell (block_lt_of_cell d0)).trans d0
        have d1' := (hS.cell (block_lt_of_cell d1)).trans d1
        have d2' := (hS.cell (block_lt_of_cell d2)).trans d2
        have d3' := (hS.cell (block_lt_of_cell d3)).trans d3
        have d4' := (hS.cell (block_lt_of_cell d4)).trans d4
        clear hS HX0 HX1 HX2 HIR HLR HK HX HO HB hc5 d0 d1 d2 d3 d4
        rename World => w6
        go_wp2_with fail
        refine wp_region_noPanic ?_
        refine wp_region_held_drew (S := (fun u => Below w6.heap.size w6 u)) (by kernel_rfl) ((Below.refl _ _).drew) (fun hS => ?_)
        refine give_val (i := 0) (v := ?_) rfl (by kernel_rfl) (by kernel_rfl) (by kernel_rfl) (fun _ _ _ h => h) (by rfl) (fun u hu => ?_) hS ?_
        rotate_left
        · ((obtain ⟨b0, b1, b2⟩ := obj_cells3 (obj_below HX0W.out hu); have q0 := (hu.cell (block_lt_of_cell d0')).trans d0'; have q1 := (hu.cell (block_lt_of_cell d1')).trans d1'; have q2 := (hu.cell (block_lt_of_cell d2')).trans d2'; have q3 := (hu.cell (block_lt_of_cell d3')).trans d3'; have q4 := (hu.cell (block_lt_of_cell d4')).trans d4'); go_simp; try (with_reducible rfl))
        try simp only [Act.put, List.setIfInBounds_toArray, List.set_cons_zero, List.set_cons_succ]
        refine give_val (i := 1) (v := ?_) rfl (by kernel_rfl) (by kernel_rfl) (by kernel_rfl) (fun _ _ _ h => h) (by rfl) (fun u hu => ?_) hS ?_
        rotate_left
        · ((obtain ⟨b0, b1, b2⟩ := obj_cells3 (obj_below HX0W.out hu); have q0 := (hu.cell (block_lt_of_cell d0')).trans d0'; have q1 := (hu.cell (block_lt_of_cell d1')).trans d1'; have q2 := (hu.cell (block_lt_of_cell d2')).trans d2'; have q3 := (hu.cell (block_lt_of_cell d3')).trans d3'; have q4 := (hu.cell (block_lt_of_cell d4')).trans d4'); go_simp; try (with_reducible rfl))
        try simp only [Act.put, List.setIfInBounds_toArray, List.set_cons_zero, List.set_cons_succ]
        refine give_val (i := 2) (v := ?_) rfl (by kernel_rfl) (by kernel_rfl) (by kernel_rfl) (fun _ _ _ h => h) (by rfl) (fun u hu => ?_) hS ?_
        rotate_left
        · ((obtain ⟨b0, b1, b2⟩ := obj_cells3 (obj_below HX0W.out hu); have q0 := (hu.cell (block_lt_of_cell d0')).trans d0'; have q1 := (hu.cell (block_lt_of_cell d1')).trans d1'; have q2 := (hu.cell (block_lt_of_cell d2')).trans d2'; have q3 := (hu.cell (block_lt_of_cell d3')).trans d3'; have q4 := (hu.cell (block_lt_of_cell d4')).trans d4'); go_simp; try (with_reducible rfl))
        try simp only [Act.put, List.setIfInBounds_toArray, List.set_cons_zero, List.set_cons_succ]
        refine give_val (i := 3) (v := ?_) rfl (by kernel_rfl) (by kernel_rfl) (by kernel_rfl) (fun _ _ _ h => h) (by rfl) (fun u hu => ?_) hS ?_
        rotate_left
        · ((obtain ⟨b0, b1, b2⟩ := obj_cells3 (obj_below HX0W.out hu); have q0 := (hu.cell (block_lt_of_cell d0')).trans d0'; have q1 := (hu.cell (block_lt_of_cell d1')).trans d1'; have q2 := (hu.cell (block_lt_of_cell d2')).trans d2'; have q3 := (hu.cell (block_lt_of_cell d3')).trans d3'; have q4 := (hu.cell (block_lt_of_cell d4')).trans d4'); go_simp; try (with_reducible rfl))
        try simp only [Act.put, List.setIfInBounds_toArray, List.set_cons_zero, List.set_cons_succ]
        refine give_val (i := 4) (v := ?_) rfl (by kernel_rfl) (by kernel_rfl) (by kernel_rfl) (fun _ _ _ h => h) (by rfl) (fun u hu => ?_) hS ?_
        rotate_left
        · ((obtain ⟨b0, b1, b2⟩ := obj_cells3 (obj_below HX0W.out hu); have q0 := (hu.cell (block_lt_of_cell d0')).trans d0'; have q1 := (hu.cell (block_lt_of_cell d1')).trans d1'; have q2 := (hu.cell (block_lt_of_cell d2')).trans d2'; have q3 := (hu.cell (block_lt_of_cell d3')).trans d3'; have q4 := (hu.cell (block_lt_of_cell d4')).trans d4'); go_simp; try (with_reducible rfl))
        try simp only [Act.put, List.setIfInBounds_toArray, List.set_cons_zero, List.set_cons_succ]
        refine give_val (i := 5) (v := ?_) rfl (by kernel_rfl) (by kernel_rfl) (by kernel_rfl) (fun _ _ _ h => h) (by rfl) (fun u hu => ?_) hS ?_
        rotate_left
        · ((obtain ⟨b0, b1, b2⟩ := obj_cells3 (obj_below HX0W.out hu); have q0 := (hu.cell (block_lt_of_cell d0')).trans d0'; have q1 := (hu.cell (block_lt_of_cell d1')).trans d1'; have q2 := (hu.cell (block_lt_of_cell d2')).trans d2'; have q3 := (hu.cell (block_lt_of_cell d3')).trans d3'; have q4 := (hu.cell (block_lt_of_cell d4')).trans d4'); go_simp; try (with_reducible rfl))
        try simp only [Act.put, List.setIfInBounds_toArray, List.set_cons_zero, List.set_cons_succ]
        refine give_val (i := 6) (v := ?_) rfl (by kernel_rfl) (by kernel_rfl) (by kernel_rfl) (fun _ _ _ h => h) (by rfl) (fun u hu => ?_) hS ?_
        rotate_left
        · ((obtain ⟨b0, b1, b2⟩ := obj_cells3 (obj_below HX0W.out hu); have q0 := (hu.cell (block_lt_of_cell d0')).trans d0'; have q1 := (hu.cell (block_lt_of_cell d1')).trans d1'; have q2 := (hu.cell (block_lt_of_cell d2')).trans d2'; have q3 := (hu.cell (block_lt_of_cell d3')).trans d3'; have q4 := (hu.cell (block_lt_of_cell d4')).trans d4'); go_simp; try (with_reducible rfl))
        try simp only [Act.put, List.setIfInBounds_toArray, List.set_cons_zero, List.set_cons_succ]
        refine give_val (i := 7) (v := ?_) rfl (by kernel_rfl) (by kernel_rfl) (by kernel_rfl) (fun _ _ _ h => h) (by rfl) (fun u hu => ?_) hS ?_
        rotate_left
        · ((obtain ⟨b0, b1, b2⟩ := obj_cells3 (obj_below HX0W.out hu); have q0 := (hu.cell (block_lt_of_cell d0')).trans d0'; have q1 := (hu.cell (block_lt_of_cell d1')).trans d1'; have q2 := (hu.cell (block_lt_of_cell d2')).trans d2'; have q3 := (hu.cell (block_lt_of_cell d3')).trans d3'; have q4 := (hu.cell (block_lt_of_cell d4')).trans d4'); go_simp; try (with_reducible rfl))
        try simp only [Act.put, List.setIfInBounds_toArray, List.set_cons_zero, List.set_cons_succ]
        refine give_val (i := 8) (v := ?_) rfl (by kernel_rfl) (by kernel_rfl) (by kernel_rfl) (fun _ _ _ h => h) (by rfl) (fun u hu => ?_) hS ?_
        rotate_left
        · ((obtain ⟨b0, b1, b2⟩ := obj_cells3 (obj_below HX0W.out hu); have q0 := (hu.cell (block_lt_of_cell d0')).trans d0'; have q1 := (hu.cell (block_lt_of_cell d1')).trans d1'; have q2 := (hu.cell (block_lt_of_cell d2')).trans d2'; have q3 := (hu.cell (block_lt_of_cell d3')).trans d3'; have q4 := (hu.cell (block_lt_of_cell d4')).trans d4'); go_simp; try (with_reducible rfl))
        try simp only [Act.put, List.setIfInBounds_toArray, List.set_cons_zero, List.set_cons_succ]
        refine only_call (i := 9) 26 #[.int .i64 2, .agg #[.int .i64 x1, .int .i64 x2, .int .i64 x3, .int .i64 x4, .int .i64 x5], .string b, .int .i64 (p : Int)] rfl (by kernel_rfl) (by rfl) ((HCG.out _).mono fun e w' he => ⟨he.1, hbt hS he.2⟩) ?_ ?_
        · (go_simp; try (with_reducible rfl))
        clear hS
        intro w9 hS
        try simp only [Act.put, List.setIfInBounds_toArray, List.set_cons_zero, List.set_cons_succ]
        refine give_val (i := 10) (v := ?_) rfl (by kernel_rfl) (by kernel_rfl) (by kernel_rfl) (fun _ _ _ h => h) (by rfl) (fun u hu => ?_) hS ?_
        rotate_left
        · ((obtain ⟨b0, b1, b2⟩ := obj_cells3 (obj_below HX0W.out hu); have q0 := (hu.cell (block_lt_of_cell d0')).trans d0'; have q1 := (hu.cell (block_lt_of_cell d1')).trans d1'; have q2 := (hu.cell (block_lt_of_cell d2')).trans d2'; have q3 := (hu.cell (block_lt_of_cell d3')).trans d3'; have q4 := (hu.cell (block_lt_of_cell d4')).trans d4'); go_simp; try (with_reducible rfl))
        try simp only [Act.put, List.setIfInBounds_toArray, List.set_cons_zero, List.set_cons_succ]
        refine give_val (i := 11) (v := ?_) rfl (by kernel_rfl) (by kernel_rfl) (by kernel_rfl) (fun _ _ _ h => h) (by rfl) (fun u hu => ?_) hS ?_
        rotate_left
        · ((obtain ⟨b0, b1, b2⟩ := obj_cells3 (obj_below HX0W.out hu); have q0 := (hu.cell (block_lt_of_cell d0')).trans d0'; have q1 := (hu.cell (block_lt_of_cell d1')).trans d1'; have q2 := (hu.cell (block_lt_of_cell d2')).trans d2'; have q3 := (hu.cell (block_lt_of_cell d3')).trans d3'; have q4 := (hu.cell (block_lt_of_cell d4')).trans d4'); go_simp; try (with_reducible rfl))
        try simp only [Act.put, List.setIfInBounds_toArray, List.set_cons_zero, List.set_cons_succ]
        refine give_val (i := 12) (v := ?_) rfl (by kernel_rfl) (by kernel_rfl) (by kernel_rfl) (fun _ _ _ h => h) (by rfl) (fun u hu => ?_) hS ?_
        rotate_left
        · ((obtain ⟨b0, b1, b2⟩ := obj_cells3 (obj_below HX0W.out hu); have q0 := (hu.cell (block_lt_of_cell d0')).trans d0'; have q1 := (hu.cell (block_lt_of_cell d1')).trans d1'; have q2 := (hu.cell (block_lt_of_cell d2')).trans d2'; have q3 := (hu.cell (block_lt_of_cell d3')).trans d3'; have q4 := (hu.cell (block_lt_of_cell d4')).trans d4'); go_simp; try (with_reducible rfl))
        try simp only [Act.put, List.setIfInBounds_toArray, List.set_cons_zero, List.set_cons_succ]
        refine give_val (i := 13) (v := ?_) rfl (by kernel_rfl) (by kernel_rfl) (by kernel_rfl) (fun _ _ _ h => h) (by rfl) (fun u hu => ?_) hS ?_
        rotate_left
        · ((obtain ⟨b0, b1, b2⟩ := obj_cells3 (obj_below HX0W.out hu); have q0 := (hu.cell (block_lt_of_cell d0')).trans d0'; have q1 := (hu.cell (block_lt_of_cell d1')).trans d1'; have q2 := (hu.cell (block_lt_of_cell d2')).trans d2'; have q3 := (hu.cell (block_lt_of_cell d3')).trans d3'; have q4 := (hu.cell (block_lt_of_cell d4')).trans d4'); go_simp; try (with_reducible rfl))
        try simp only [Act.put, List.setIfInBounds_toArray, List.set_cons_zero, List.set_cons_succ]
        refine give_val (i := 14) (v := ?_) rfl (by kernel_rfl) (by kernel_rfl) (by kernel_rfl) (fun _ _ _ h => h) (by rfl) (fun u hu => ?_) hS ?_
        rotate_left
        · ((obtain ⟨b0, b1, b2⟩ := obj_cells3 (obj_below HX0W.out hu); have q0 := (hu.cell (block_lt_of_cell d0')).trans d0'; have q1 := (hu.cell (block_lt_of_cell d1')).trans d1'; have q2 := (hu.cell (block_lt_of_cell d2')).trans d2'; have q3 := (hu.cell (block_lt_of_cell d3')).trans d3'; have q4 := (hu.cell (block_lt_of_cell d4')).trans d4'); go_simp; try (with_reducible rfl))
        try simp only [Act.put, List.setIfInBounds_toArray, List.set_cons_zero, List.set_cons_succ]
        refine give_val (i := 15) (v := ?_) rfl (by kernel_rfl) (by kernel_rfl) (by kernel_rfl) (fun _ _ _ h => h) (by rfl) (fun u hu => ?_) hS ?_
        rotate_left
        · ((obtain ⟨b0, b1, b2⟩ := obj_cells3 (obj_below HX0W.out hu); have q0 := (hu.cell (block_lt_of_cell d0')).trans d0'; have q1 := (hu.cell (block_lt_of_cell d1')).trans d1'; have q2 := (hu.cell (block_lt_of_cell d2')).trans d2'; have q3 := (hu.cell (block_lt_of_cell d3')).trans d3'; have q4 := (hu.cell (block_lt_of_cell d4')).trans d4'); go_simp; try (with_reducible rfl))
        try simp only [Act.put, List.setIfInBounds_toArray, List.set_cons_zero, List.set_cons_succ]
        refine give_val (i := 16) (v := ?_) rfl (by kernel_rfl) (by kernel_rfl) (by kernel_rfl) (fun _ _ _ h => h) (by rfl) (fun u hu => ?_) hS ?_
        rotate_left
        · ((obtain ⟨b0, b1, b2⟩ := obj_cells3 (obj_below HX0W.out hu); have q0 := (hu.cell (block_lt_of_cell d0')).trans d0'; have q1 := (hu.cell (block_lt_of_cell d1')).trans d1'; have q2 := (hu.cell (block_lt_of_cell d2')).trans d2'; have q3 := (hu.cell (block_lt_of_cell d3')).trans d3'; have q4 := (hu.cell (block_lt_of_cell d4')).trans d4'); go_simp; try (with_reducible rfl))
        try simp only [Act.put, List.setIfInBounds_toArray, List.set_cons_zero, List.set_cons_succ]
        refine wpAnyH_done (by kernel_rfl) (NoPanic.normal ?_) _
        have HBX := Lib.hid (hbt HBW.out hS)
        have HXX := Lib.hid (HXW.out.below hS)
        have HX1X := Lib.hid (obj_below HX1W.out hS)
        have HX2X := Lib.hid (obj_below HX2W.out hS)
        have HOX := Lib.hid (owns_below HOW.out hS)
        have HKX := Lib.hid (HKW.out.step (hS.mono HKW.out.1))
        have c5x := (hS.cell (block_lt_of_cell c5')).trans c5'
        clear hS HX0W HX1W HX2W HOW HXW HKW HBW c5' d0' d1' d2' d3' d4' hpb
        rename World => w7
        by_cases hex : ex = 0
        · subst hex
          have hcn := cell_one HPB.out HFB.out HCQ.out
          have hdo := decF_ok (r := zs.drop (j + 1)) HFB.out HCQ.out
          have hr := HRS.out
          rw [HD.out, hdo] at hr
          have HQB := Lib.hid hcn.2.1
          have HR2 : Hid ((ks ++ [(no, tx)] ++ (decF 2 sl b (zs.drop (j + 1)) q).1, (decF 2 sl b (zs.drop (j + 1)) q).2) = (Rl, Rf)) := by
            show _ = _
            rw [← hr, List.append_assoc]
            rfl
          clear hcn hdo hr HRS HD HCQ HFB
          have hkw := HKX.out.1
          go_wp2_with fail
          refine wp_region_noPanic ?_
          refine wp_region_late (fun u => MBox u (w.heap.size + 3) t Y M cp ∧ u.cell? (a5.add j) = some (.int .i64 no)) 11 (by kernel_rfl) ((show MBox w7 (w.heap.size + 3) t Y M cp ∧ w7.cell? (a5.add j) = some (.int .i64 no) from ⟨HXX.out, c5x⟩)) (fun hT => ?_)
          refine late_val (i := 0) (v := ?_) rfl (by kernel_rfl) (by kernel_rfl) (by kernel_rfl) (by kernel_rfl) (fun _ _ _ h => h) (by rfl) (fun u hu => ?_) hT ?_
          rotate_left
          · ((rcases hu with ⟨hu2, hu3⟩; obtain ⟨e0, e1, _, _⟩ := obj_cells hu2; clear hu2); go_simp; try (with_reducible rfl))
          try simp only [Act.put, List.setIfInBounds_toArray, List.set_cons_zero, List.set_cons_succ]
          refine late_val (i := 1) (v := ?_) rfl (by kernel_rfl) (by kernel_rfl) (by kernel_rfl) (by kernel_rfl) (fun _ _ _ h => h) (by rfl) (fun u hu => ?_) hT ?_
          rotate_left
          · ((rcases hu with ⟨hu2, hu3⟩; obtain ⟨e0, e1, _, _⟩ := obj_cells hu2; clear hu2); go_simp; try (with_reducible rfl))
          try simp only [Act.put, List.setIfInBounds_toArray, List.set_cons_zero, List.set_cons_succ]
          refine late_val (i := 2) (v := ?_) rfl (by kernel_rfl) (by kernel_rfl) (by kernel_rfl) (by kernel_rfl) (fun _ _ _ h => h) (by rfl) (fun u hu => ?_) hT ?_
          rotate_left
          · ((rcases hu with ⟨hu2, hu3⟩; obtain ⟨e0, e1, _, _⟩ := obj_cells hu2; clear hu2); go_simp; try (with_reducible rfl))
          try simp only [Act.put, List.setIfInBounds_toArray, List.set_cons_zero, List.set_cons_succ]
          refine late_val (i := 3) (v := ?_) rfl (by kernel_rfl) (by kernel_rfl) (by kernel_rfl) (by kernel_rfl) (fun _ _ _ h => h) (by rfl) (fun u hu => ?_) hT ?_
          rotate_left
          · ((rcases hu with ⟨hu2, hu3⟩; obtain ⟨e0, e1, _, _⟩ := obj_cells hu2; clear hu2); go_simp; try (with_reducible rfl))
          try simp only [Act.put, List.setIfInBounds_toArray, List.set_cons_zero, List.set_cons_succ]
          refine late_val (i := 4) (v := ?_) rfl (by kernel_rfl) (by kernel_rfl) (by kernel_rfl) (by kernel_rfl) (fun _ _ _ h => h) (by rfl) (fun u hu => ?_) hT ?_
          rotate_left
          · ((rcases hu with ⟨hu2, hu3⟩; obtain ⟨e0, e1, _, _⟩ := obj_cells hu2; clear hu2); go_simp; try (with_reducible rfl))
          try simp only [Act.put, List.setIfInBounds_toArray, List.set_cons_zero, List.set_cons_succ]
          refine late_val (i := 5) (v := ?_) rfl (by kernel_rfl) (by kernel_rfl) (by kernel_rfl) (by kernel_rfl) (fun _ _ _ h => h) (by rfl) (fun u hu => ?_) hT ?_
          rotate_left
          · ((rcases hu with ⟨hu2, hu3⟩; obtain ⟨e0, e1, _, _⟩ := obj_cells hu2; clear hu2); go_simp; try (with_reducible rfl))
          try simp only [Act.put, List.setIfInBounds_toArray, List.set_cons_zero, List.set_cons_succ]
          refine late_val (i := 6) (v := ?_) rfl (by kernel_rfl) (by kernel_rfl) (by kernel_rfl) (by kernel_rfl) (fun _ _ _ h => h) (by rfl) (fun u hu => ?_) hT ?_
          rotate_left
          · ((rcases hu with ⟨hu2, hu3⟩; obtain ⟨e0, e1, _, _⟩ := obj_cells hu2; clear hu2); go_simp; try (with_reducible rfl))
          try simp only [Act.put, List.setIfInBounds_toArray, List.set_cons_zero, List.set_cons_succ]
          refine late_val (i := 7) (v := ?_) rfl (by kernel_rfl) (by kernel_rfl) (by kernel_rfl) (by kernel_rfl) (fun _ _ _ h => h) (by rfl) (fun u hu => ?_) hT ?_
          rotate_left
          · ((rcases hu with ⟨hu2, hu3⟩; obtain ⟨e0, e1, _, _⟩ := obj_cells hu2; clear hu2); go_simp; try (with_reducible rfl))
          try simp only [Act.put, List.setIfInBounds_toArray, List.set_cons_zero, List.set_cons_succ]
          refine late_lone (i := 8) rfl (by kernel_rfl) (by rfl) (fun K hK => ?_)
          go_simp
          refine hK.out _ _ (⟨HXX.out.below (below_al w7 (.cells #[.int .i64 no, .string tx] 42)).drew, ((below_al w7 (.cells #[.int .i64 no, .string tx] 42)).cell (block_lt_of_cell c5x)).trans c5x⟩) ?_
          clear hK
          try simp only [Act.put, List.setIfInBounds_toArray, List.set_cons_zero, List.set_cons_succ]
          refine late_lone (i := 9) rfl (by kernel_rfl) (by rfl) (fun K hK => ?_)
          refine wp_append_lies _ _ _ _ (by rfl) w5.heap.size 42 i0 _ 2 24 Tryd.underlying26 hi hz0 hz1 hz2 rfl (by omega) (.slice Y M cp) M (itemsC ks) (by rfl) ((HOX.out.alloc _).drew) ⟨w7.heap.size, 0, none⟩ 1 1 (itemC (no, tx)) (by rfl) (by rfl) (World.news_of_block (cs := #[.int .i64 no, .string tx]) (t := 42) (fr := (0, 0)) (heap_alloc_new w7 _)) (by simp [itemC, Value.oneCell']) (by omega) (by unfold maxLen; omega) (by omega) (by have := HKX.out.1; simp; omega) (w7.heap.size + 1) (by simp) ?_
          intro g' cap' w8 hown8 hgrow8 hat8 hlt8
          have hbB : Below w5.heap.size w7 w8 := (((Below.refl _ _).alloc HKX.out.1 _).drew).grown hgrow8 (by have := HKX.out.1; simp; omega) (fun q hq => (HOX.out.lt q hq).1)
          have HO8 := Lib.hid hown8
          have HK8 := Lib.hid (HKX.out.step hbB)
          have HX8 : Hid (MBox w8 (w.heap.size + 3) t Y M cp) := (hbB.block _ (by omega)).trans HXX.out
          have HB8 := Lib.hid (HBX.out.trans (hbB.mono (by omega)))
          have q5 : w8.cell? (a5.add j) = some (.int .i64 no) := HK8.out.num hcU HT5.out.2.2.2.2
          clear hown8 hgrow8 hat8 hlt8 hbB
          refine hK.out _ _ (⟨HX8.out, q5⟩) ?_
          clear hK
          try simp only [Act.put, List.setIfInBounds_toArray, List.set_cons_zero, List.set_cons_succ]
          clear hT
          have hT : MBox w8 (w.heap.size + 3) t Y M cp ∧ w8.cell? (a5.add j) = some (.int .i64 no) := ⟨HX8.out, q5⟩
          refine late_val (i := 10) (v := ?_) rfl (by kernel_rfl) (by kernel_rfl) (by kernel_rfl) (by kernel_rfl) (fun _ _ _ h => h) (by rfl) (fun u hu => ?_) hT ?_
          rotate_left
          · ((rcases hu with ⟨hu2, hu3⟩; obtain ⟨e0, e1, _, _⟩ := obj_cells hu2; clear hu2); go_simp; try (with_reducible rfl))
          try simp only [Act.put, List.setIfInBounds_toArray, List.set_cons_zero, List.set_cons_succ]
          refine late_only rfl (by kernel_rfl) (by rfl) (fun K hK => ?_)
          obtain ⟨j0, j1, f0, f1⟩ := obj_cells HX8.out
          go_simp
          refine hK.out _ _ ?_
          clear hK
          try simp only [Act.put, List.setIfInBounds_toArray, List.set_cons_zero, List.set_cons_succ]
          refine late_done (by kernel_rfl) (NoPanic.normal ?_) _
          clear hT j0 j1 f0 f1 q5 c5x
          go_wp2
          go_roundw
          case rel => exact ⟨j + 1, q, ks ++ [(no, tx)], by omega, by go_num, rfl, HQB.out, by rw [List.length_append, HMM.out, List.length_singleton]; omega, HR2.out, mwants_put (by omega) (by omega) HMM.out HX8.out HO8.out HK8.out HB8.out⟩
          case measure => simp [intOf]; omega
        · have tex : (ex != 0) = true := by simpa using hex
          have hdb := decF_bad (st := 2) (s := b) (r := zs.drop (j + 1)) (p := p) HFB.out (by rw [HCQ.out]; exact hex)
          have hr := HRS.out
          rw [HD.out, hdb, HCQ.out, List.append_nil] at hr
          obtain ⟨h1, h2⟩ := Prod.mk.inj hr
          have H12 : Hid (ks = Rl ∧ (ex, no) = Rf) := ⟨h1, h2⟩
          clear hdb hr h1 h2 HRS HD hex HCQ HFB
          go_wp2_with fail
          refine wp_region_noPanic ?_
          refine wp_region_held_drew (S := (StoreS w t Y M cp (a5.add j) no)) (by kernel_rfl) ((show StoreS w t Y M cp (a5.add j) no w7.drew from ⟨HBX.out.drew, HXX.out, c5x, ⟨_, _, HX1X.out⟩, ⟨_, _, HX2X.out⟩⟩)) (fun hS => ?_)
          refine give_val (i := 0) (v := ?_) rfl (by kernel_rfl) (by kernel_rfl) (by kernel_rfl) (fun _ _ _ h => h) (by rfl) (fun u hu => ?_) hS ?_
          rotate_left
          · ((obtain ⟨_, hu2, hu3, _⟩ := hu; obtain ⟨e0, e1, _, _⟩ := obj_cells hu2; clear hu2); go_simp; try (with_reducible rfl))
          try simp only [Act.put, List.setIfInBounds_toArray, List.set_cons_zero, List.set_cons_succ]
          refine give_val (i := 1) (v := ?_) rfl (by kernel_rfl) (by kernel_rfl) (by kernel_rfl) (fun _ _ _ h => h) (by rfl) (fun u hu => ?_) hS ?_
          rotate_left
          · ((obtain ⟨_, hu2, hu3, _⟩ := hu; obtain ⟨e0, e1, _, _⟩ := obj_cells hu2; clear hu2); go_simp; try (with_reducible rfl))
          try simp only [Act.put, List.setIfInBounds_toArray, List.set_cons_zero, List.set_cons_succ]
          refine give_val (i := 2) (v := ?_) rfl (by kernel_rfl) (by kernel_rfl) (by kernel_rfl) (fun _ _ _ h => h) (by rfl) (fun u hu => ?_) hS ?_
          rotate_left
          · ((obtain ⟨_, hu2, hu3, _⟩ := hu; obtain ⟨e0, e1, _, _⟩ := obj_cells hu2; clear hu2); go_simp; try (with_reducible rfl))
          try simp only [Act.put, List.setIfInBounds_toArray, List.set_cons_zero, List.set_cons_succ]
          refine give_val (i := 3) (v := ?_) rfl (by kernel_rfl) (by kernel_rfl) (by kernel_rfl) (fun _ _ _ h => h) (by rfl) (fun u hu => ?_) hS ?_
          rotate_left
          · ((obtain ⟨_, hu2, hu3, _⟩ := hu; obtain ⟨e0, e1, _, _⟩ := obj_cells hu2; clear hu2); go_simp; try (with_reducible rfl))
          try simp only [Act.put, List.setIfInBounds_toArray, List.set_cons_zero, List.set_cons_succ]
          refine give_val (i := 4) (v := ?_) rfl (by kernel_rfl) (by kernel_rfl) (by kernel_rfl) (fun _ _ _ h => h) (by rfl) (fun u hu => ?_) hS ?_
          rotate_left
          · ((obtain ⟨_, hu2, hu3, _⟩ := hu; obtain ⟨e0, e1, _, _⟩ := obj_cells hu2; clear hu2); go_simp; try (with_reducible rfl))
          try simp only [Act.put, List.setIfInBounds_toArray, List.set_cons_zero, List.set_cons_succ]
          refine give_val (i := 5) (v := ?_) rfl (by kernel_rfl) (by kernel_rfl) (by kernel_rfl) (fun _ _ _ h => h) (by rfl) (fun u hu => ?_) hS ?_
          rotate_left
          · ((obtain ⟨_, hu2, hu3, _⟩ := hu; obtain ⟨e0, e1, _, _⟩ := obj_cells hu2; clear hu2); go_simp; try (with_reducible rfl))
          try simp only [Act.put, List.setIfInBounds_toArray, List.set_cons_zero, List.set_cons_succ]
          refine give_val (i := 6) (v := ?_) rfl (by kernel_rfl) (by kernel_rfl) (by kernel_rfl) (fun _ _ _ h => h) (by rfl) (fun u hu => ?_) hS ?_
          rotate_left
          · ((obtain ⟨_, hu2, hu3, _⟩ := hu; obtain ⟨e0, e1, _, _⟩ := obj_cells hu2; clear hu2); go_simp; try (with_reducible rfl))
          try simp only [Act.put, List.setIfInBounds_toArray, List.set_cons_zero, List.set_cons_succ]
          obtain ⟨c0, c1, c2, c3⟩ := obj_cells HX1X.out
          have f1 := obj_set2 HX1X.out (.string t) (.slice Y M cp)
          have f2 := obj_set_other HX2X.out (show w.heap.size + 2 ≠ w.heap.size + 1 by omega) (.string t) (.slice Y M cp)
          have f3 := below_set2 (p := w.heap.size + 1) HBX.out (by omega) (.string t) (.slice Y M cp)
          have f4 := owns_set1 (owns_set1 HOX.out (show w.heap.size + 1 < w5.heap.size by omega) 0 (.string t)) (show w.heap.size + 1 < w5.heap.size by omega) 1 (.slice Y M cp)
          have f5 := StoreS.first (show StoreS w t Y M cp (a5.add j) no w7 from ⟨HBX.out, HXX.out, c5x, ⟨_, _, HX1X.out⟩, ⟨_, _, HX2X.out⟩⟩) (num_apart c5x HX1X.out) (.string t) (.slice Y M cp)
          refine only (i := 7) rfl (by kernel_rfl) (by rfl) (fun K hK => ?_)
          go_simp
          refine hK.out _ _ f5 ?_
          clear hK
          try simp only [Act.put, List.setIfInBounds_toArray, List.set_cons_zero, List.set_cons_succ]
          clear c0 c1 c2 c3
          generalize (w7.setCell ⟨w.heap.size + 1, 0, none⟩ (.string t)).setCell ⟨w.heap.size + 1, 1, none⟩ (.slice Y M cp) = u7 at *
          obtain ⟨c0, c1, c2, c3⟩ := obj_cells f2
          have K1 := Lib.hid (obj_set_other f1 (show w.heap.size + 1 ≠ w.heap.size + 2 by omega) (.int .i64 ex) (.int .i64 no))
          have K2 := Lib.hid (obj_set2 f2 (.int .i64 ex) (.int .i64 no))
          have K3 := Lib.hid (below_set2 (p := w.heap.size + 2) f3 (by omega) (.int .i64 ex) (.int .i64 no))
          have K4 := Lib.hid (vals_own_at (owns_set1 (owns_set1 f4 (show w.heap.size + 2 < w5.heap.size by omega) 0 (.int .i64 ex)) (show w.heap.size + 2 < w5.heap.size by omega) 1 (.int .i64 no)) HMM.out.symm)
          have f6 := StoreS.second (show StoreS w t Y M cp (a5.add j) no u7 from ⟨f3, f5.2⟩) HQ2.out (.int .i64 ex) (.int .i64 no)
          refine only (i := 8) rfl (by kernel_rfl) (by rfl) (fun K hK => ?_)
          go_simp
          refine hK.out _ _ f6 ?_
          clear hK
          try simp only [Act.put, List.setIfInBounds_toArray, List.set_cons_zero, List.set_cons_succ]
          refine wpAnyH_done (by kernel_rfl) (NoPanic.normal ?_) _
          clear c0 c1 c2 c3 f1 f2 f3 f4 f5 f6
          generalize (u7.setCell ⟨w.heap.size + 2, 0, none⟩ (.int .i64 ex)).setCell ⟨w.heap.size + 2, 1, none⟩ (.int .i64 no) = u8 at *
          go_wp2
          refine bodyPost_ret (results_two rfl _ _ (w.heap.size + 1) (w.heap.size + 2) _ _ _ _ _ _ _ _ rfl K1.out rfl K2.out Tryd.underlying28 rfl (by kernel_rfl) Tryd.underlying31 rfl (by kernel_rfl)) rfl ?_
          obtain ⟨h1, h2⟩ := H12.out
          refine ⟨Y, cp, ?_, ?_, K3.out.drew⟩
          · show _ = Ending.returned (.tuple #[.agg #[.string t, .slice Y Rl.length cp], .agg #[.int .i64 Rf.1, .int .i64 Rf.2]])
            rw [← h1, ← h2, HMM.out]
          · show Tlvs _ Y Rl
            rw [← h1]
            exact K4.out
    · have hje : zs.drop j = [] := List.drop_eq_nil_of_le (by have := HZL.out; omega)
      have hr := HRS.out
      rw [hje, decF_nil, List.append_nil] at hr
      obtain ⟨h1, h2⟩ := Prod.mk.inj hr
      have H1 : Hid (ks = Rl) := h1
      have H2 : Hid ((if p < b.size then ((12 : Int), (129 : Int)) else (0, 0)) = Rf) := h2
      clear hje hr h1 h2 HRS
      obtain ⟨c0, c1, c2, c3⟩ := obj_cells HX1.out
      obtain ⟨d0, d1, d2, d3⟩ := obj_cells HX2.out
      obtain ⟨e0, e1, _, _⟩ := obj_cells HX.out
      by_cases hpb : p < b.size
      · have H2' : Hid (((12 : Int), (129 : Int)) = Rf) := by have := H2.out; rwa [if_pos hpb] at this
        clear H2
        go_wp2
        obtain ⟨k1, k2, k3⟩ := two_set (w := w) HX1.out HX2.out (by omega) (by omega) (by omega) HB.out (.string t) (.slice Y M cp) (.int .i64 12) (.int .i64 129)
        refine bodyPost_ret (results_two rfl _ _ (w.heap.size + 1) (w.heap.size + 2) _ _ _ _ _ _ _ _ rfl k1 rfl k2 Tryd.underlying28 rfl (by kernel_rfl) Tryd.underlying31 rfl (by kernel_rfl)) rfl ?_
        refine ⟨Y, cp, ?_, ?_, k3⟩
        · show _ = Ending.returned (.tuple #[.agg #[.string t, .slice Y Rl.length cp], .agg #[.int .i64 Rf.1, .int .i64 Rf.2]])
          rw [← H1.out, ← H2'.out, HMM.out]
        · show Tlvs _ Y Rl
          rw [← H1.out]
          exact own_two HO.out HMM.out.symm (by omega) (by omega) _ _ _ _
      · have H2' : Hid (((0 : Int), (0 : Int)) = Rf) := by have := H2.out; rwa [if_neg hpb] at this
        clear H2
        go_wp2
        obtain ⟨k1, k2, k3⟩ := two_set (w := w) HX1.out HX2.out (by omega) (by omega) (by omega) HB.out (.string t) (.slice Y M cp) (.int .i64 0) (.int .i64 0)
        refine bodyPost_ret (results_two rfl _ _ (w.heap.size + 1) (w.heap.size + 2) _ _ _ _ _ _ _ _ rfl k1 rfl k2 Tryd.underlying28 rfl (by kernel_rfl) Tryd.underlying31 rfl (by kernel_rfl)) rfl ?_
        refine ⟨Y, cp, ?_, ?_, k3⟩
        · show _ = Ending.returned (.tuple #[.agg #[.string t, .slice Y Rl.length cp], .agg #[.int .i64 Rf.1, .int .i64 Rf.2]])
          rw [← H1.out, ← H2'.out, HMM.out]
        · show Tlvs _ Y Rl
          rw [← H1.out]
          exact own_two HO.out HMM.out.symm (by omega) (by omega) _ _ _ _


end Go.Proofs.YtlkpiapmdflahaaDoor
