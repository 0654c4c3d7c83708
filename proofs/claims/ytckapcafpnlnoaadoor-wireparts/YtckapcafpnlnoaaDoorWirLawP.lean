/-
  The law WireParts: for every schema and message, in every world that holds the table of kinds.
-/
import Derived.Test.YtckapcafpnlnoaaDoorWirAwk
import Derived.Test.YtckapcafpnlnoaaDoorWirRef
import Derived.Test.YtckapcafpnlnoaaDoorWirCut
import Derived.Test.YtckapcafpnlnoaaDoorMsgRead
import Derived.Test.YtckapcafpnlnoaaDoorPackBmp
import Derived.Test.YtckapcafpnlnoaaDoorPackCel
namespace Go.Proofs.YtckapcafpnlnoaaDoor
open Go.RowKit

set_option maxRecDepth 100000 in
set_option maxHeartbeats 3200000 in
theorem wparts_long (st v : Int) (A : Option Addr) (len cap : Nat) (m : ByteArray) (B : Option Addr) (n c : Nat) (w : World) (hK : Kinds w) (h : 200 < len) :
    Calls Tryd.prog 5 #[.agg #[.int .i64 st, .int .i64 v, .slice A len cap], .agg #[.string m, .slice B n c]] w fun e w' => e = .returned (.bool true) ∧ Below w.heap.size w w' := by
  have t : decide ((200 : Int) < (len : Int)) = true := by simp; omega
  have HT := Lib.hid (wduo_new w st v A len cap m B n c)
  have HK := Lib.hid (hK.below HT.out.1)
  clear h hK
  go_enter Tryd.func5, Tryd.ntmps5
  go_wp2_with fail
  generalize (w.alloc (.cells #[.int .i64 st, .int .i64 v, .slice A len cap] 30)).alloc (.cells #[.string m, .slice B n c] 33) = U at *
  refine (wawake_any _ HK.out).mono ?_
  rintro e w1 ⟨rfl, hb1⟩
  have HT1 := Lib.hid (HT.out.below hb1)
  have HK1 := Lib.hid (HK.out.below hb1)
  obtain ⟨b0, b1, b2⟩ := obj_cells3 HT1.out.2.1
  clear hb1
  go_wp2_with fail
  refine (wawake_any _ HK1.out).mono ?_
  rintro e w2 ⟨rfl, hb2⟩
  have HB2 := Lib.hid (hbt HT1.out.1 hb2)
  clear hb2 b0 b1 b2
  go_wp2
  go_ret
  exact ⟨rfl, HB2.out⟩
set_option maxRecDepth 100000 in
set_option maxHeartbeats 3200000 in
theorem wparts_great (st v : Int) (A : Option Addr) (len cap : Nat) (m : ByteArray) (B : Option Addr) (c : Nat) (l : List Item) (w : World) (hK : Kinds w) (hL : Tlvs w B l) (hf : ∀ x ∈ l, x.2.size ≤ maxLen) (h : ¬ 200 < len) (hg : greatM m l = true) :
    Calls Tryd.prog 5 #[.agg #[.int .i64 st, .int .i64 v, .slice A len cap], .agg #[.string m, .slice B l.length c]] w fun e w' => e = .returned (.bool true) ∧ Below w.heap.size w w' := by
  have t : decide ((200 : Int) < (len : Int)) = false := by simp; omega
  have HT := Lib.hid (wduo_new w st v A len cap m B l.length c)
  have HK := Lib.hid (hK.below HT.out.1)
  have HL := Lib.hid (hL.below HT.out.1)
  have HG := Lib.hid (fun W hW => mgreat_any m B c l W hW hf)
  rw [hg] at HG
  clear h hK hL hf hg
  generalize l.length = n at *
  go_enter Tryd.func5, Tryd.ntmps5
  go_wp2_with fail
  generalize (w.alloc (.cells #[.int .i64 st, .int .i64 v, .slice A len cap] 30)).alloc (.cells #[.string m, .slice B n c] 33) = U at *
  refine (wawake_any _ HK.out).mono ?_
  rintro e w1 ⟨rfl, hb1⟩
  have HT1 := Lib.hid (HT.out.below hb1)
  have HK1 := Lib.hid (HK.out.below hb1)
  have HL1 := Lib.hid (HL.out.below hb1)
  obtain ⟨b0, b1, b2⟩ := obj_cells3 HT1.out.2.1
  obtain ⟨b3, b4, _, _⟩ := obj_cells HT1.out.2.2
  clear hb1
  go_wp2_with fail
  refine (HG.out _ HL1.out).mono ?_
  rintro e w2 ⟨rfl, hb2⟩
  have HB2 := Lib.hid (hbt HT1.out.1 hb2)
  have HK2 := Lib.hid (HK1.out.below hb2)
  clear hb2 b0 b1 b2 b3 b4
  go_wp2_with fail
  refine (wawake_any _ HK2.out).mono ?_
  rintro e w3 ⟨rfl, hb3⟩
  have HB3 := Lib.hid (hbt HB2.out hb3)
  clear hb3
  go_wp2
  go_ret
  exact ⟨rfl, HB3.out⟩
set_option maxRecDepth 100000 in
set_option maxHeartbeats 3200000 in
theorem wparts_bad (st v : Int) (A : Option Addr) (cap : Nat) (sl : List Sp) (m : ByteArray) (B : Option Addr) (c : Nat) (l : List Item) (w : World) (hK : Kinds w) (hI : Spl w A sl) (hL : Tlvs w B l) (hf : ∀ x ∈ l, x.2.size ≤ maxLen) (h : ¬ 200 < sl.length) (hg : greatM m l = false) (hz : (msgN st v sl m l).1 ≠ 0) :
    Calls Tryd.prog 5 #[.agg #[.int .i64 st, .int .i64 v, .slice A sl.length cap], .agg #[.string m, .slice B l.length c]] w fun e w' => e = .returned (.bool true) ∧ Below w.heap.size w w' := by
  have t : decide ((200 : Int) < (sl.length : Int)) = false := by simp; omega
  have hn : sl.length ≤ 1000 := by omega
  have hl : l.length ≤ 1000 := by have := (great_in hg).2.1; omega
  have HT := Lib.hid (wduo_new w st v A sl.length cap m B l.length c)
  have HK := Lib.hid (hK.below HT.out.1)
  have HL := Lib.hid (hL.below HT.out.1)
  have HI := Lib.hid (hI.below HT.out.1)
  have HG := Lib.hid (fun W hW => mgreat_any m B c l W hW hf)
  rw [hg] at HG
  have HC := Lib.hid (fun W h0 h1 h2 => wenc_any st v A cap sl m B c l W h0 h1 h2 hn hl hf)
  rw [encS_no (fun e => hz (by rw [e]))] at HC
  clear h hK hL hI hf hg hl hn
  generalize (msgN st v sl m l).1 = z at *
  generalize (msgN st v sl m l).2 = z' at *
  have tz : (z == 0) = false := by simpa using hz
  clear hz
  generalize sl.length = len at *
  generalize l.length = n at *
  go_enter Tryd.func5, Tryd.ntmps5
  go_wp2_with fail
  generalize (w.alloc (.cells #[.int .i64 st, .int .i64 v, .slice A len cap] 30)).alloc (.cells #[.string m, .slice B n c] 33) = U at *
  refine (wawake_any _ HK.out).mono ?_
  rintro e x1 ⟨rfl, hb1⟩
  have HT1 := Lib.hid (HT.out.below hb1)
  have HK1 := Lib.hid (HK.out.below hb1)
  have HL1 := Lib.hid (HL.out.below hb1)
  have HI1 := Lib.hid (HI.out.below hb1)
  obtain ⟨b0, b1, b2⟩ := obj_cells3 HT1.out.2.1
  obtain ⟨b3, b4, _, _⟩ := obj_cells HT1.out.2.2
  clear hb1 HT HK HL HI
  go_wp2_with fail
  refine (HG.out _ HL1.out).mono ?_
  rintro e x2 ⟨rfl, hb2⟩
  have HT2 := Lib.hid (HT1.out.below hb2)
  have HK2 := Lib.hid (HK1.out.below hb2)
  have HL2 := Lib.hid (HL1.out.below hb2)
  have HI2 := Lib.hid (HI1.out.below hb2)
  clear hb2 b0 b1 b2 b3 b4 HT1 HK1 HL1 HI1
  obtain ⟨b0, b1, b2⟩ := obj_cells3 HT2.out.2.1
  obtain ⟨b3, b4, _, _⟩ := obj_cells HT2.out.2.2
  go_wp2_with fail
  refine (HC.out _ HK2.out HI2.out HL2.out).mono ?_
  rintro e x3 ⟨rfl, hb3⟩
  have HB3 := Lib.hid (hbt (hbt HT2.out.1 hb3) (below_al x3 (.cells #[.int .i64 z, .int .i64 z'] 37)))
  clear hb3 b0 b1 b2 b3 b4
  go_wp2
  go_ret
  exact ⟨rfl, HB3.out⟩
set_option maxRecDepth 100000 in
set_option maxHeartbeats 25600000 in
theorem wparts_good (k : Nat) (v : Int) (A : Option Addr) (cap : Nat) (sl : List Sp) (m : ByteArray) (B : Option Addr) (c : Nat) (l : List Item) (w : World) (hK : Kinds w) (hI : Spl w A sl) (hL : Tlvs w B l) (hf : ∀ x ∈ l, x.2.size ≤ maxLen) (h : ¬ 200 < sl.length) (hg : greatM m l = false) (hk : k = 1 ∨ k = 2) (hz : msgN (k : Int) v sl m l = (0, 0)) :
    Calls Tryd.prog 5 #[.agg #[.int .i64 (k : Int), .int .i64 v, .slice A sl.length cap], .agg #[.string m, .slice B l.length c]] w fun e w' => e = .returned (.bool true) ∧ Below w.heap.size w w' := by
  have t : decide ((200 : Int) < (sl.length : Int)) = false := by simp; omega
  have hn : sl.length ≤ 1000 := by omega
  have hl : l.length ≤ 200 := (great_in hg).2.1
  have hall := valid_all hz
  have hone := (tags_one hall.2).1
  have HT := Lib.hid (wduo_new w (k : Int) v A sl.length cap m B l.length c)
  have HK := Lib.hid (hK.below HT.out.1)
  have HL := Lib.hid (hL.below HT.out.1)
  have HI := Lib.hid (hI.below HT.out.1)
  have HG := Lib.hid (fun W hW => mgreat_any m B c l W hW hf)
  rw [hg] at HG
  have HC := Lib.hid (fun W h0 h1 h2 => wenc_yes k v A cap sl m B c l W h0 h1 h2 hn (by omega) hf hk hz)
  have HX := Lib.hid (fun W => wtype_yes k m W hall.1 hk)
  have HS := Lib.hid (fun W hW => mset_any m B c l W hW (by omega))
  have HF := Lib.hid (fun (no : Int) W hW => sfind_any (k : Int) v A cap sl no W hW hn)
  have hsz : (⟨(encL k sl m l).toArray⟩ : ByteArray).size ≤ 1000000 := by
    rw [mk_size]
    have := enc_len (st := k) hall.1 hall.2
    omega
  have hpre : (⟨(typL k m.data.toList).toArray⟩ : ByteArray).size ≤ (⟨(encL k sl m l).toArray⟩ : ByteArray).size := by
    rw [mk_size, mk_size]; unfold encL; rw [List.length_append]; omega
  have hcut : ∀ W : World, (Instr.slice 9 (.string (⟨(encL k sl m l).toArray⟩ : ByteArray)) none (some (.int .i64 ((⟨(typL k m.data.toList).toArray⟩ : ByteArray).size : Int))) none).run Tryd.prog W = .ok (.string ⟨(typL k m.data.toList).toArray⟩) W := fun W => by
    rw [cut_str _ _ hpre W]
    have : (⟨(encL k sl m l).toArray⟩ : ByteArray).extract 0 (⟨(typL k m.data.toList).toArray⟩ : ByteArray).size = ⟨(typL k m.data.toList).toArray⟩ := by
      apply ext_eq
      rw [mk_size, mk_list]
      simp [encL]
    rw [this]
  obtain ⟨P, hP⟩ : ∃ P : Nat → Nat, ∀ j, P j = (typL k m.data.toList ++ (setL k l ++ fldsL k sl (l.take j))).length := ⟨_, fun _ => rfl⟩
  have HP0 : Hid (∀ W, Calls Tryd.prog 17 #[.int .i64 (k : Int), .string ⟨(encL k sl m l).toArray⟩, .int .i64 ((⟨(typL k m.data.toList).toArray⟩ : ByteArray).size : Int)] W fun e w' => e = .returned (.tuple #[setV (ofH (tagsOf l)) (ofL (tagsOf l)), .int .i64 (P 0 : Int), .int .i64 0]) ∧ Below W.heap.size W w') := fun W => by
    have g := bmpget_any k ⟨(encL k sl m l).toArray⟩ (⟨(typL k m.data.toList).toArray⟩ : ByteArray).size W hk hsz hpre
    rw [getN_put (st := k) (a := typL k m.data.toList) (c := fldsL k sl l) (of_lt (tagsOf l)).1 (of_lt (tagsOf l)).2 hone (by rw [mk_list]; rfl) (by rw [mk_size])] at g
    rw [hP 0, show (typL k m.data.toList ++ (setL k l ++ fldsL k sl (l.take 0))).length = (⟨(typL k m.data.toList).toArray⟩ : ByteArray).size + (bmpL k (ofH (tagsOf l)) (ofL (tagsOf l))).length from by rw [mk_size]; simp [fldsL, setL]]
    exact g
  have HPN : Hid (P l.length = (⟨(encL k sl m l).toArray⟩ : ByteArray).size) := by
    show _ = _
    rw [hP, mk_size, List.take_length]; rfl
  have HPS : Hid (∀ j a s, j < l.length → itemAt l j = (a, s) → P j < P (j + 1) ∧ ∀ W, Kinds W → Calls Tryd.prog 20 #[.int .i64 (k : Int), .agg #[.int .i64 (fndP a sl).1.1, .int .i64 (fndP a sl).1.2.1, .int .i64 (fndP a sl).1.2.2.1, .int .i64 (fndP a sl).1.2.2.2.1, .int .i64 (fndP a sl).1.2.2.2.2], .string ⟨(encL k sl m l).toArray⟩, .int .i64 (P j : Int)] W fun e w' => e = .returned (.tuple #[.string s, .int .i64 (P (j + 1) : Int), .int .i64 0]) ∧ Below W.heap.size W w') := fun j a s hj hx => by
    have ho := hall.2 _ (List.getElem_mem hj)
    rw [← itemAt_get hj, hx] at ho
    have h1 : P (j + 1) = P j + (cellL k sl (a, s)).length := by
      rw [hP, hP, flds_step k sl hj, hx]
      simp only [List.length_append]
      omega
    have h2 := (cell_len (st := k) ho).1
    refine ⟨by omega, fun W hW => ?_⟩
    have hle : P j ≤ (⟨(encL k sl m l).toArray⟩ : ByteArray).size := by
      rw [hP, mk_size]
      have := flds_part k sl l j
      unfold encL
      simp only [List.length_append]
      omega
    have g := cget_any k (P j) (fndP a sl).1.1 (fndP a sl).1.2.1 (fndP a sl).1.2.2.1 (fndP a sl).1.2.2.2.1 (fndP a sl).1.2.2.2.2 ⟨(encL k sl m l).toArray⟩ W hW hk (spv_in ho.2).1 hsz hle
    have q := cell_at (st := k) (s := ⟨(encL k sl m l).toArray⟩) (a := typL k m.data.toList ++ (setL k l ++ fldsL k sl (l.take j))) (c := fldsL k sl (l.drop (j + 1))) ho (by
      rw [mk_list]
      unfold encL
      rw [flds_split k sl l (j + 1), flds_step k sl hj, hx]
      simp only [List.append_assoc])
    rw [← hP j] at q
    dsimp only at q
    rw [q, ← h1] at g
    exact g
  clear h hK hL hI hf hg hz hall hone hk hP
  unfold setV at HS HP0
  generalize (ofH (tagsOf l)) = sh at *
  generalize (ofL (tagsOf l)) = so at *
  generalize (⟨(encL k sl m l).toArray⟩ : ByteArray) = b at *
  generalize (⟨(typL k m.data.toList).toArray⟩ : ByteArray) = hd at *
  have tlt : decide ((b.size : Int) < (hd.size : Int)) = false := by simp; omega
  generalize hsl : sl.length = len at *
  have HSL := Lib.hid hsl
  clear hsl
  generalize hlen : l.length = n at *
  have HLEN := Lib.hid hlen
  clear hlen
  go_enter Tryd.func5, Tryd.ntmps5
  go_wp2_with fail
  generalize (w.alloc (.cells #[.int .i64 (k : Int), .int .i64 v, .slice A len cap] 30)).alloc (.cells #[.string m, .slice B n c] 33) = U at *
  refine (wawake_any _ HK.out).mono ?_
  rintro e x1 ⟨rfl, hb1⟩
  have HT1 := Lib.hid (HT.out.below hb1)
  have HK1 := Lib.hid (HK.out.below hb1)
  have HL1 := Lib.hid (HL.out.below hb1)
  have HI1 := Lib.hid (HI.out.below hb1)
  obtain ⟨b0, b1, b2⟩ := obj_cells3 HT1.out.2.1
  obtain ⟨b3, b4, _, _⟩ := obj_cells HT1.out.2.2
  clear hb1 HT HK HL HI
  go_wp2_with fail
  refine (HG.out _ HL1.out).mono ?_
  rintro e x2 ⟨rfl, hb2⟩
  have HT2 := Lib.hid (HT1.out.below hb2)
  have HK2 := Lib.hid (HK1.out.below hb2)
  have HL2 := Lib.hid (HL1.out.below hb2)
  have HI2 := Lib.hid (HI1.out.below hb2)
  clear hb2 b0 b1 b2 b3 b4 HT1 HK1 HL1 HI1
  obtain ⟨b0, b1, b2⟩ := obj_cells3 HT2.out.2.1
  obtain ⟨b3, b4, _, _⟩ := obj_cells HT2.out.2.2
  go_wp2_with fail
  refine (HC.out _ HK2.out HI2.out HL2.out).mono ?_
  rintro e x3 ⟨rfl, hb3⟩
  have hal := hbt hb3 (below_al x3 (.cells #[.int .i64 0, .int .i64 0] 37))
  have HT4 := Lib.hid (HT2.out.below hal)
  have HK4 := Lib.hid (HK2.out.below hal)
  have HL4 := Lib.hid (HL2.out.below hal)
  have HI4 := Lib.hid (HI2.out.below hal)
  clear b0 b1 b2 b3 b4
  obtain ⟨b0, b1, b2⟩ := obj_cells3 (HT2.out.below hb3).2.1
  obtain ⟨b3, b4, _, _⟩ := obj_cells (HT2.out.below hb3).2.2
  have hlt1 := obj_lt (HT2.out.below hb3).2.1
  have hlt2 := obj_lt (HT2.out.below hb3).2.2
  clear hb3 hal HT2 HK2 HL2 HI2
  go_wp2_with fail
  generalize x3.alloc (.cells #[.int .i64 0, .int .i64 0] 37) = X4 at *
  clear b0 b1 b2 b3 b4 hlt1 hlt2
  refine (HX.out _).mono ?_
  rintro e x5 ⟨rfl, hb5⟩
  have HT5 := Lib.hid (HT4.out.below hb5)
  have HK5 := Lib.hid (HK4.out.below hb5)
  have HL5 := Lib.hid (HL4.out.below hb5)
  have HI5 := Lib.hid (HI4.out.below hb5)
  clear hb5 HT4 HK4 HL4 HI4
  obtain ⟨b0, b1, b2⟩ := obj_cells3 HT5.out.2.1
  go_wp2_with fail
  refine (HP0.out _).mono ?_
  rintro e x6 ⟨rfl, hb6⟩
  have hal := hbt hb6 (below_al x6 (.cells #[.int .u64 (sh : Int), .int .u64 (so : Int)] 46))
  have HT7 := Lib.hid (HT5.out.below hal)
  have HK7 := Lib.hid (HK5.out.below hal)
  have HL7 := Lib.hid (HL5.out.below hal)
  have HI7 := Lib.hid (HI5.out.below hal)
  have HP7 := Lib.hid (heap_alloc_new x6 (.cells #[.int .u64 (sh : Int), .int .u64 (so : Int)] 46))
  clear hb6 hal HT5 HK5 HL5 HI5 b0 b1 b2 hcut tlt
  go_wp2_with fail
  generalize x6.alloc (.cells #[.int .u64 (sh : Int), .int .u64 (so : Int)] 46) = X7 at *
  refine wp_region_noPanic ?_
  refine wp_region_held_drew (S := (fun u => Below X7.heap.size X7 u)) (by kernel_rfl) ((Below.refl _ _).drew) (fun hS => ?_)
  refine give_val (i := 0) (v := ?_) rfl (by kernel_rfl) (by kernel_rfl) (by kernel_rfl) (fun _ _ _ h => h) (by rfl) (fun u hu => ?_) hS ?_
  rotate_left
  · ((have hT := HT7.out.below hu; obtain ⟨b3, b4, _, _⟩ := obj_cells hT.2.2; obtain ⟨c0, c1, _, _⟩ := obj_cells (obj_below HP7.out hu); clear hT); go_simp; try (with_reducible rfl))
  try simp only [Act.put, List.setIfInBounds_toArray, List.set_cons_zero, List.set_cons_succ]
  refine give_val (i := 1) (v := ?_) rfl (by kernel_rfl) (by kernel_rfl) (by kernel_rfl) (fun _ _ _ h => h) (by rfl) (fun u hu => ?_) hS ?_
  rotate_left
  · ((have hT := HT7.out.below hu; obtain ⟨b3, b4, _, _⟩ := obj_cells hT.2.2; obtain ⟨c0, c1, _, _⟩ := obj_cells (obj_below HP7.out hu); clear hT); go_simp; try (with_reducible rfl))
  try simp only [Act.put, List.setIfInBounds_toArray, List.set_cons_zero, List.set_cons_succ]
  refine give_val (i := 2) (v := ?_) rfl (by kernel_rfl) (by kernel_rfl) (by kernel_rfl) (fun _ _ _ h => h) (by rfl) (fun u hu => ?_) hS ?_
  rotate_left
  · ((have hT := HT7.out.below hu; obtain ⟨b3, b4, _, _⟩ := obj_cells hT.2.2; obtain ⟨c0, c1, _, _⟩ := obj_cells (obj_below HP7.out hu); clear hT); go_simp; try (with_reducible rfl))
  try simp only [Act.put, List.setIfInBounds_toArray, List.set_cons_zero, List.set_cons_succ]
  refine give_val (i := 3) (v := ?_) rfl (by kernel_rfl) (by kernel_rfl) (by kernel_rfl) (fun _ _ _ h => h) (by rfl) (fun u hu => ?_) hS ?_
  rotate_left
  · ((have hT := HT7.out.below hu; obtain ⟨b3, b4, _, _⟩ := obj_cells hT.2.2; obtain ⟨c0, c1, _, _⟩ := obj_cells (obj_below HP7.out hu); clear hT); go_simp; try (with_reducible rfl))
  try simp only [Act.put, List.setIfInBounds_toArray, List.set_cons_zero, List.set_cons_succ]
  refine give_val (i := 4) (v := ?_) rfl (by kernel_rfl) (by kernel_rfl) (by kernel_rfl) (fun _ _ _ h => h) (by rfl) (fun u hu => ?_) hS ?_
  rotate_left
  · ((have hT := HT7.out.below hu; obtain ⟨b3, b4, _, _⟩ := obj_cells hT.2.2; obtain ⟨c0, c1, _, _⟩ := obj_cells (obj_below HP7.out hu); clear hT); go_simp; try (with_reducible rfl))
  try simp only [Act.put, List.setIfInBounds_toArray, List.set_cons_zero, List.set_cons_succ]
  refine only_call (i := 5) 18 #[.agg #[.string m, .slice B n c]] rfl (by kernel_rfl) (by rfl) ((HS.out _ (HL7.out.below hS)).mono fun e w' he => ⟨he.1, hbt hS he.2⟩) ?_ ?_
  · (go_simp; try (with_reducible rfl))
  clear hS
  intro w5 hS
  try simp only [Act.put, List.setIfInBounds_toArray, List.set_cons_zero, List.set_cons_succ]
  refine give_val (i := 6) (v := (.bool false)) rfl (by kernel_rfl) (by kernel_rfl) (by kernel_rfl) (fun _ _ _ h => h) (by rfl) (fun u hu => ?_) hS ?_
  · ((have hT := HT7.out.below hu; obtain ⟨b3, b4, _, _⟩ := obj_cells hT.2.2; obtain ⟨c0, c1, _, _⟩ := obj_cells (obj_below HP7.out hu); clear hT); go_simp; (try simp))
  try simp only [Act.put, List.setIfInBounds_toArray, List.set_cons_zero, List.set_cons_succ]
  refine give_val (i := 7) (v := ?_) rfl (by kernel_rfl) (by kernel_rfl) (by kernel_rfl) (fun _ _ _ h => h) (by rfl) (fun u hu => ?_) hS ?_
  rotate_left
  · ((have hT := HT7.out.below hu; obtain ⟨b3, b4, _, _⟩ := obj_cells hT.2.2; obtain ⟨c0, c1, _, _⟩ := obj_cells (obj_below HP7.out hu); clear hT); go_simp; try (with_reducible rfl))
  try simp only [Act.put, List.setIfInBounds_toArray, List.set_cons_zero, List.set_cons_succ]
  refine wpAnyH_done (by kernel_rfl) (NoPanic.normal ?_) _
  have HT8 := Lib.hid (HT7.out.below hS)
  have HK8 := Lib.hid (HK7.out.below hS)
  have HL8 := Lib.hid (HL7.out.below hS)
  have HI8 := Lib.hid (HI7.out.below hS)
  clear hS HT7 HK7 HL7 HI7 HP7
  rename World => x8
  obtain ⟨b3, b4, _, _⟩ := obj_cells HT8.out.2.2
  go_wp2_with fail
  clear b3 b4
  go_loopw [10, 85] (fun y i wr => ∃ j : Nat, j ≤ n ∧ i = .int .i64 (j : Int) ∧ y = .int .i64 (P j : Int) ∧ Below x8.heap.size x8 wr) (fun _ i _ => n - (intOf i).toNat)
  case atStart => exact ⟨0, Nat.zero_le _, rfl, rfl, Below.refl _ _⟩
  case round =>
    obtain ⟨j, hj, rfl, rfl, hb⟩ := hrel
    have HT9 := Lib.hid (HT8.out.below hb)
    have HK9 := Lib.hid (HK8.out.below hb)
    have HL9 := Lib.hid (HL8.out.below hb)
    have HI9 := Lib.hid (HI8.out.below hb)
    have HB := Lib.hid hb
    clear hb
    by_cases hlt : j < n
    · have hjl : j < l.length := by have := HLEN.out; omega
      obtain ⟨a, no, s, rfl, hx, c0, c1⟩ := HL9.out.at_ hjl
      obtain ⟨hpq, hcell⟩ := HPS.out j no s hlt hx
      have HCE := Lib.hid hcell
      have HFN := Lib.hid (fun W hW => HF.out no W hW)
      clear hx hcell hjl
      generalize hp : P j = p at *
      generalize hq : P (j + 1) = q at *
      have HQ := Lib.hid hq
      have HPP := Lib.hid hp
      have tpq : decide ((q : Int) ≤ (p : Int)) = false := by simp; omega
      have hnp : ¬ q ≤ p := by omega
      clear hp hq
      generalize fndP no sl = R at *
      obtain ⟨⟨n', c', f', lo', hi'⟩, ok⟩ := R
      dsimp only at HCE HFN
      have HB0 := Lib.hid (below_al wr (.cells #[.int .i64 no, .string s] 51))
      have HV0 := Lib.hid (heap_alloc_new wr (.cells #[.int .i64 no, .string s] 51))
      obtain ⟨b0, b1, b2⟩ := obj_cells3 HT9.out.2.1
      have hz := obj_lt HT9.out.2.1
      have HK10 := Lib.hid (HK9.out.below HB0.out)
      have HI10 := Lib.hid (HI9.out.below HB0.out)
      have HT10 := Lib.hid (HT9.out.below HB0.out)
      have HB10 := Lib.hid (hbt HB.out HB0.out)
      clear HT9 HK9 HL9 HI9 HB HB0
      go_wp2_with fail
      generalize wr.alloc (.cells #[.int .i64 no, .string s] 51) = W1 at *
      refine (HFN.out _ HI10.out).mono ?_
      rintro e w2 ⟨rfl, hb2⟩
      have hal := hbt hb2 (below_al w2 (.cells #[.int .i64 n', .int .i64 c', .int .i64 f', .int .i64 lo', .int .i64 hi'] 53))
      have HK11 := Lib.hid (HK10.out.below hal)
      have HT11 := Lib.hid (HT10.out.below hal)
      have HB11 := Lib.hid (hbt HB10.out hal)
      have HV11 := Lib.hid (obj_below HV0.out hal)
      clear b0 b1 b2 hz c0 c1
      obtain ⟨b0, b1, b2⟩ := obj_cells3 (HT10.out.below hb2).2.1
      have hz := obj_lt (HT10.out.below hb2).2.1
      clear hb2 hal HT10 HK10 HI10 HB10 HV0
      go_wp2_with fail
      generalize w2.alloc (.cells #[.int .i64 n', .int .i64 c', .int .i64 f', .int .i64 lo', .int .i64 hi'] 53) = W3 at *
      refine (HCE.out _ HK11.out).mono ?_
      rintro e w4 ⟨rfl, hb4⟩
      have HB12 := Lib.hid (hbt HB11.out hb4)
      obtain ⟨c0, c1, _, _⟩ := obj_cells (obj_below HV11.out hb4)
      clear hb4 b0 b1 b2 hz HT11 HK11 HB11 HV11
      go_wp2
      go_roundw
      case rel => exact ⟨j + 1, by omega, by go_num, by rw [HQ.out], HB12.out⟩
      case measure => simp [intOf]; omega
    · have hjn : j = n := by omega
      have he := HPN.out
      rw [← hjn] at he
      have tb : ((P j : Int) == (b.size : Int)) = true := by simp [he]
      clear he hjn
      go_wp2
      go_ret
      exact ⟨by simp, HT9.out.1⟩

theorem wparts_walk (st v : Int) (A : Option Addr) (cap : Nat) (sl : List Sp) (m : ByteArray) (B : Option Addr) (c : Nat) (l : List Item) (w : World) (hK : Kinds w) (hI : Spl w A sl) (_h1 : sl.length ≤ maxLen) (_hm : m.size ≤ maxLen) (hL : Tlvs w B l) (_h2 : l.length ≤ maxLen) (hf : ∀ x ∈ l, x.2.size ≤ maxLen) :
    Calls Tryd.prog 5 #[.agg #[.int .i64 st, .int .i64 v, .slice A sl.length cap], .agg #[.string m, .slice B l.length c]] w fun e w' => e = .returned (.bool true) ∧ Below w.heap.size w w' := by
  by_cases h : 200 < sl.length
  · exact wparts_long st v A _ cap m B _ c w hK h
  · cases hg : greatM m l
    · by_cases hz : (msgN st v sl m l).1 = 0
      · have h1 := wmsgN_first hz
        obtain ⟨k, rfl, hk⟩ := valid_style h1
        exact wparts_good k v A cap sl m B c l w hK hI hL hf h hg hk h1
      · exact wparts_bad st v A cap sl m B c l w hK hI hL hf h hg hz
    · exact wparts_great st v A _ cap m B c l w hK hL hf h hg

end Go.Proofs.YtckapcafpnlnoaaDoor
