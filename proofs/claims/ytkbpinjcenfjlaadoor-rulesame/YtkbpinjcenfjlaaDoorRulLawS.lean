/-
  RuleSame: for every input, in every world that holds the table of kinds, where the program's Check and Apply answer as they are to.
-/
import Derived.Test.YtkbpinjcenfjlaaDoorRulAwk
import Derived.Test.YtkbpinjcenfjlaaDoorRulPure
import Derived.Test.YtkbpinjcenfjlaaDoorPackSch
import Derived.Test.YtkbpinjcenfjlaaDoorPackSpc
namespace Go.Proofs.YtkbpinjcenfjlaaDoor
open Go.RowKit

theorem rbox_other {u : World} {g p : Nat} {O : Obj} (h : u.heap[g]? = some O) (hne : g ≠ p) (i : Nat) (x : Value) : (u.setCell ⟨p, i, none⟩ x).heap[g]? = some O := (heap_setCell_other _ _ _ _ hne).trans h
set_option maxRecDepth 100000 in
set_option maxHeartbeats 6400000 in
theorem rls_long (hchk : RChk) (happ : RApp) (st v : Int) (A : Option Addr) (ca : Nat) (l : List Sp) (no : Int) (x : ByteArray) (w : World) (hK : Kinds w) (_ : Spl w A l) (hm : l.length ≤ maxLen) (_ : x.size ≤ maxLen) (h1 : 200 < l.length) : Calls Tryd.prog 6 #[.agg #[.int .i64 st, .int .i64 v, .slice A l.length ca], .int .i64 no, .string x] w fun e w' => e = .returned (.bool true) ∧ Below w.heap.size w w' := by
  have HK := Lib.hid hK
  have HB0 := Lib.hid (below_al w (.cells #[.int .i64 st, .int .i64 v, .slice A l.length ca] 27))
  have HX0 := Lib.hid (box_new w st v A l.length ca)
  clear hK
  generalize l.length = n at *
  unfold maxLen at hm
  go_enter Tryd.func6, Tryd.ntmps6
  go_wp2_with fail
  generalize w.alloc (.cells #[.int .i64 st, .int .i64 v, .slice A n ca] 27) = U at *
  refine (rawake_any hchk happ _ (HK.out.below HB0.out)).mono ?_
  rintro e w1 ⟨rfl, hb1⟩
  have HB1 := Lib.hid (hbt HB0.out hb1)
  have HX1 := Lib.hid (HX0.out.below hb1)
  clear hb1 HB0 HX0
  obtain ⟨a0, a1, a2⟩ := obj_cells3 HX1.out
  go_wp2_with fail
  refine (rawake_any hchk happ _ (HK.out.below HB1.out)).mono ?_
  rintro e w9 ⟨rfl, hb9⟩
  have HB9 := Lib.hid (hbt HB1.out hb9)
  clear hb9
  go_wp2
  go_ret
  exact ⟨rfl, HB9.out⟩
set_option maxRecDepth 100000 in
set_option maxHeartbeats 6400000 in
theorem rls_wrong (hchk : RChk) (happ : RApp) (st v : Int) (A : Option Addr) (ca : Nat) (l : List Sp) (no : Int) (x : ByteArray) (w : World) (hK : Kinds w) (hA : Spl w A l) (_ : l.length ≤ maxLen) (_ : x.size ≤ maxLen) (h1 : l.length ≤ 200) (h2 : (schN st v l).1 ≠ 0) : Calls Tryd.prog 6 #[.agg #[.int .i64 st, .int .i64 v, .slice A l.length ca], .int .i64 no, .string x] w fun e w' => e = .returned (.bool true) ∧ Below w.heap.size w w' := by
  have HK := Lib.hid hK
  have HB0 := Lib.hid (below_al w (.cells #[.int .i64 st, .int .i64 v, .slice A l.length ca] 27))
  have HX0 := Lib.hid (box_new w st v A l.length ca)
  have HA := Lib.hid hA
  have HR := Lib.hid (fun W h => sright_any st v A ca l W h (by omega))
  have e : decide ((schN st v l).1 = 0) = false := by simpa using h2
  rw [e] at HR
  clear e h2 hA
  clear hK
  generalize l.length = n at *
  go_enter Tryd.func6, Tryd.ntmps6
  go_wp2_with fail
  generalize w.alloc (.cells #[.int .i64 st, .int .i64 v, .slice A n ca] 27) = U at *
  refine (rawake_any hchk happ _ (HK.out.below HB0.out)).mono ?_
  rintro e w1 ⟨rfl, hb1⟩
  have HB1 := Lib.hid (hbt HB0.out hb1)
  have HX1 := Lib.hid (HX0.out.below hb1)
  clear hb1 HB0 HX0
  obtain ⟨a0, a1, a2⟩ := obj_cells3 HX1.out
  go_wp2_with fail
  clear a0 a1 a2
  refine (HR.out _ (HA.out.below HB1.out)).mono ?_
  rintro e w2 ⟨rfl, hb2⟩
  have HB2 := Lib.hid (hbt HB1.out hb2)
  have HX2 := Lib.hid (HX1.out.below hb2)
  clear hb2 HB1 HX1 HR
  obtain ⟨a0, a1, a2⟩ := obj_cells3 HX2.out
  go_wp2_with fail
  refine (rawake_any hchk happ _ (HK.out.below HB2.out)).mono ?_
  rintro e w9 ⟨rfl, hb9⟩
  have HB9 := Lib.hid (hbt HB2.out hb9)
  clear hb9
  go_wp2
  go_ret
  exact ⟨rfl, HB9.out⟩
set_option maxRecDepth 100000 in
set_option maxHeartbeats 6400000 in
theorem rls_text (hchk : RChk) (happ : RApp) (st v : Int) (A : Option Addr) (ca : Nat) (l : List Sp) (no : Int) (x : ByteArray) (w : World) (hK : Kinds w) (hA : Spl w A l) (_ : l.length ≤ maxLen) (hx : x.size ≤ maxLen) (h1 : l.length ≤ 200) (h2 : (schN st v l).1 = 0) (h3 : 1200 < x.size) : Calls Tryd.prog 6 #[.agg #[.int .i64 st, .int .i64 v, .slice A l.length ca], .int .i64 no, .string x] w fun e w' => e = .returned (.bool true) ∧ Below w.heap.size w w' := by
  have HK := Lib.hid hK
  have HB0 := Lib.hid (below_al w (.cells #[.int .i64 st, .int .i64 v, .slice A l.length ca] 27))
  have HX0 := Lib.hid (box_new w st v A l.length ca)
  have HA := Lib.hid hA
  have HR := Lib.hid (fun W h => sright_any st v A ca l W h (by omega))
  have e : decide ((schN st v l).1 = 0) = true := by simpa using h2
  rw [e] at HR
  unfold maxLen at hx
  clear e h2 hA
  clear hK
  generalize l.length = n at *
  go_enter Tryd.func6, Tryd.ntmps6
  go_wp2_with fail
  generalize w.alloc (.cells #[.int .i64 st, .int .i64 v, .slice A n ca] 27) = U at *
  refine (rawake_any hchk happ _ (HK.out.below HB0.out)).mono ?_
  rintro e w1 ⟨rfl, hb1⟩
  have HB1 := Lib.hid (hbt HB0.out hb1)
  have HX1 := Lib.hid (HX0.out.below hb1)
  clear hb1 HB0 HX0
  obtain ⟨a0, a1, a2⟩ := obj_cells3 HX1.out
  go_wp2_with fail
  clear a0 a1 a2
  refine (HR.out _ (HA.out.below HB1.out)).mono ?_
  rintro e w2 ⟨rfl, hb2⟩
  have HB2 := Lib.hid (hbt HB1.out hb2)
  have HX2 := Lib.hid (HX1.out.below hb2)
  clear hb2 HB1 HX1 HR
  obtain ⟨a0, a1, a2⟩ := obj_cells3 HX2.out
  go_wp2_with fail
  refine (rawake_any hchk happ _ (HK.out.below HB2.out)).mono ?_
  rintro e w9 ⟨rfl, hb9⟩
  have HB9 := Lib.hid (hbt HB2.out hb9)
  clear hb9
  go_wp2
  go_ret
  exact ⟨rfl, HB9.out⟩
set_option maxRecDepth 100000 in
set_option maxHeartbeats 6400000 in
theorem rls_none (hchk : RChk) (happ : RApp) (st v : Int) (A : Option Addr) (ca : Nat) (l : List Sp) (no : Int) (x : ByteArray) (w : World) (hK : Kinds w) (hA : Spl w A l) (_ : l.length ≤ maxLen) (_ : x.size ≤ maxLen) (h1 : l.length ≤ 200) (h2 : (schN st v l).1 = 0) (h3 : x.size ≤ 1200) (hi : fndI no 0 l = -1) (hn : (fndP no l).2 = false) : Calls Tryd.prog 6 #[.agg #[.int .i64 st, .int .i64 v, .slice A l.length ca], .int .i64 no, .string x] w fun e w' => e = .returned (.bool true) ∧ Below w.heap.size w w' := by
  have HK := Lib.hid hK
  have HB0 := Lib.hid (below_al w (.cells #[.int .i64 st, .int .i64 v, .slice A l.length ca] 27))
  have HX0 := Lib.hid (box_new w st v A l.length ca)
  have HA := Lib.hid hA
  have HR := Lib.hid (fun W h => sright_any st v A ca l W h (by omega))
  have e : decide ((schN st v l).1 = 0) = true := by simpa using h2
  rw [e] at HR
  have HF := Lib.hid (fun W h => sreffind_any st v A ca l no W h (by omega))
  clear e
  have HC : Hid (∀ W, Kinds W → Spl W A l → Calls Tryd.prog 9 #[.agg #[.int .i64 1, .int .i64 no, .int .i64 no, .string ⟨#[]⟩, .slice none 0 0], .agg #[.int .i64 st, .int .i64 v, .slice A l.length ca], .agg #[.int .i64 st, .int .i64 v, .slice A l.length ca]] W fun e w' => e = .returned (.int .i64 9) ∧ Below W.heap.size W w') := fun W k1 k2 => by
    have := hchk 1 no no ⟨#[]⟩ none 0 [] st v A ca l st v A ca l W k1 (prs_nil _ _) k2 k2 (by omega) (by omega) (Nat.zero_le _) fit2_nil (Nat.zero_le _)
    rw [rul_copy_none hn] at this
    exact this
  rw [hi] at HF
  clear h2 hi hn hA
  clear hK
  generalize l.length = n at *
  go_enter Tryd.func6, Tryd.ntmps6
  go_wp2_with fail
  generalize w.alloc (.cells #[.int .i64 st, .int .i64 v, .slice A n ca] 27) = U at *
  refine (rawake_any hchk happ _ (HK.out.below HB0.out)).mono ?_
  rintro e w1 ⟨rfl, hb1⟩
  have HB1 := Lib.hid (hbt HB0.out hb1)
  have HX1 := Lib.hid (HX0.out.below hb1)
  clear hb1 HB0 HX0
  obtain ⟨a0, a1, a2⟩ := obj_cells3 HX1.out
  go_wp2_with fail
  clear a0 a1 a2
  refine (HR.out _ (HA.out.below HB1.out)).mono ?_
  rintro e w2 ⟨rfl, hb2⟩
  have HB2 := Lib.hid (hbt HB1.out hb2)
  have HX2 := Lib.hid (HX1.out.below hb2)
  clear hb2 HB1 HX1 HR
  obtain ⟨a0, a1, a2⟩ := obj_cells3 HX2.out
  go_wp2_with fail
  clear a0 a1 a2
  refine (HF.out _ (HA.out.below HB2.out)).mono ?_
  rintro e w3 ⟨rfl, hb3⟩
  have HB3 := Lib.hid (hbt HB2.out (hbt hb3 (below_al w3 (.cells #[.int .i64 1, .int .i64 no, .int .i64 no, .string ⟨#[]⟩, .slice none 0 0] 24))))
  have HX3 := Lib.hid (HX2.out.below (hbt hb3 (below_al w3 (.cells #[.int .i64 1, .int .i64 no, .int .i64 no, .string ⟨#[]⟩, .slice none 0 0] 24))))
  have HR3 : Hid (RBox (w3.alloc (.cells #[.int .i64 1, .int .i64 no, .int .i64 no, .string ⟨#[]⟩, .slice none 0 0] 24)) w3.heap.size 1 no no ⟨#[]⟩ none 0 0) := heap_alloc_new _ _
  have HL3 : Hid (w.heap.size ≤ w3.heap.size) := (hbt HB2.out hb3).size
  clear hb3 HB2 HX2 HF
  obtain ⟨a0, a1, a2⟩ := obj_cells3 HX3.out
  go_wp2_with fail
  clear a0 a1 a2
  generalize w3.alloc (.cells #[.int .i64 1, .int .i64 no, .int .i64 no, .string ⟨#[]⟩, .slice none 0 0] 24) = W3 at *
  refine (HC.out _ (HK.out.below HB3.out) (HA.out.below HB3.out)).mono ?_
  rintro e w4 ⟨rfl, hb4⟩
  have HB4 := Lib.hid (hbt HB3.out hb4)
  clear hb4
  go_wp2
  go_ret
  exact ⟨rfl, HB4.out⟩
set_option maxRecDepth 100000 in
set_option maxHeartbeats 6400000 in
theorem rls_main (hchk : RChk) (happ : RApp) (st v : Int) (A : Option Addr) (ca : Nat) (l : List Sp) (no : Int) (x : ByteArray) (w : World) (hK : Kinds w) (hA : Spl w A l) (_ : l.length ≤ maxLen) (hx : x.size ≤ maxLen) (h1 : l.length ≤ 200) (h2 : (schN st v l).1 = 0) (h3 : x.size ≤ 1200) (i : Nat) (hil : i < l.length) (hi : fndI no 0 l = (i : Int)) (hp : fndP no l = (spAt l i, true)) : Calls Tryd.prog 6 #[.agg #[.int .i64 st, .int .i64 v, .slice A l.length ca], .int .i64 no, .string x] w fun e w' => e = .returned (.bool true) ∧ Below w.heap.size w w' := by
  have HK := Lib.hid hK
  have HB0 := Lib.hid (below_al w (.cells #[.int .i64 st, .int .i64 v, .slice A l.length ca] 27))
  have HX0 := Lib.hid (box_new w st v A l.length ca)
  have HA := Lib.hid hA
  have HR := Lib.hid (fun W h => sright_any st v A ca l W h (by omega))
  have e : decide ((schN st v l).1 = 0) = true := by simpa using h2
  rw [e] at HR
  have HF := Lib.hid (fun W h => sreffind_any st v A ca l no W h (by omega))
  clear e
  rw [hi] at HF
  obtain ⟨pa, n1, c1, f1, lo1, hi1, rfl, hxa, hca⟩ := spl_all hA hil
  have HCA := Lib.hid hca
  have HRL : Hid (rlR (spAt l i) = ((c1 == 1) && (f1 == 1))) := by show _ = _; rw [hxa]; rfl
  have HVL : Hid (rlV (spAt l i) x = spv n1 c1 f1 lo1 hi1 x) := by show _ = _; rw [hxa]; rfl
  have HV := Lib.hid (fun W => sprefValue_any n1 c1 f1 lo1 hi1 x W hx)
  have HC1 : Hid (∀ W, Kinds W → Spl W (some pa) l → Calls Tryd.prog 9 #[.agg #[.int .i64 1, .int .i64 no, .int .i64 no, .string ⟨#[]⟩, .slice none 0 0], .agg #[.int .i64 st, .int .i64 v, .slice (some pa) l.length ca], .agg #[.int .i64 st, .int .i64 v, .slice (some pa) l.length ca]] W fun e w' => e = .returned (.int .i64 0) ∧ Below W.heap.size W w') := fun W k1 k2 => by
    have := hchk 1 no no ⟨#[]⟩ none 0 [] st v (some pa) ca l st v (some pa) ca l W k1 (prs_nil _ _) k2 k2 (by omega) (by omega) (Nat.zero_le _) fit2_nil (Nat.zero_le _)
    rw [rul_copy h2 hil hp] at this
    exact this
  have HP1 : Hid (∀ W, Kinds W → Spl W (some pa) l → Calls Tryd.prog 13 #[.agg #[.int .i64 1, .int .i64 no, .int .i64 no, .string ⟨#[]⟩, .slice none 0 0], .agg #[.int .i64 st, .int .i64 v, .slice (some pa) l.length ca], .string x] W fun e w' => e = .returned (.tuple #[.agg #[.int .i64 no, .string x], .int .i64 0]) ∧ Below W.heap.size W w') := fun W k1 k2 => by
    have := happ 1 no no ⟨#[]⟩ none 0 [] st v (some pa) ca l x W k1 (prs_nil _ _) k2 (by omega) (Nat.zero_le _) fit2_nil (Nat.zero_le _) hx
    rw [show rapN 1 no ⟨#[]⟩ [] l x = (no, x, 0) from rfl] at this
    exact this
  have HC4 : Hid (rlR (spAt l i) = true → ∀ W, Kinds W → Spl W (some pa) l → Calls Tryd.prog 9 #[.agg #[.int .i64 4, .int .i64 no, .int .i64 no, .string ⟨#[]⟩, .slice none 0 0], .agg #[.int .i64 st, .int .i64 v, .slice (some pa) l.length ca], .agg #[.int .i64 st, .int .i64 v, .slice (some pa) l.length ca]] W fun e w' => e = .returned (.int .i64 0) ∧ Below W.heap.size W w') := fun hr W h1 h2 => by
    have := hchk 4 no no ⟨#[]⟩ none 0 [] st v (some pa) ca l st v (some pa) ca l W h1 (prs_nil _ _) h2 h2 (by omega) (by omega) (Nat.zero_le _) fit2_nil (Nat.zero_le _)
    rw [rul_repad hp hr] at this
    exact this
  have HP4 : Hid (rlR (spAt l i) = true → rlV (spAt l i) x = 0 → ∀ W, Kinds W → Spl W (some pa) l → Calls Tryd.prog 13 #[.agg #[.int .i64 4, .int .i64 no, .int .i64 no, .string ⟨#[]⟩, .slice none 0 0], .agg #[.int .i64 st, .int .i64 v, .slice (some pa) l.length ca], .string x] W fun e w' => e = .returned (.tuple #[.agg #[.int .i64 no, .string x], .int .i64 0]) ∧ Below W.heap.size W w') := fun hr hv W h1 h2 => by
    have := happ 4 no no ⟨#[]⟩ none 0 [] st v (some pa) ca l x W h1 (prs_nil _ _) h2 (by omega) (Nat.zero_le _) fit2_nil (Nat.zero_le _) hx
    rw [rap_repad hp hr hv] at this
    exact this
  rw [HRL.out] at HC4 HP4
  rw [HVL.out] at HP4
  clear h2 hi hp hA hca hxa hx HRL HVL
  clear hK
  generalize l.length = n at *
  generalize spv n1 c1 f1 lo1 hi1 x = r at *
  go_enter Tryd.func6, Tryd.ntmps6
  go_wp2_with fail
  generalize w.alloc (.cells #[.int .i64 st, .int .i64 v, .slice (some pa) n ca] 27) = U at *
  refine (rawake_any hchk happ _ (HK.out.below HB0.out)).mono ?_
  rintro e w1 ⟨rfl, hb1⟩
  have HB1 := Lib.hid (hbt HB0.out hb1)
  have HX1 := Lib.hid (HX0.out.below hb1)
  clear hb1 HB0 HX0
  obtain ⟨a0, a1, a2⟩ := obj_cells3 HX1.out
  go_wp2_with fail
  clear a0 a1 a2
  refine (HR.out _ (HA.out.below HB1.out)).mono ?_
  rintro e w2 ⟨rfl, hb2⟩
  have HB2 := Lib.hid (hbt HB1.out hb2)
  have HX2 := Lib.hid (HX1.out.below hb2)
  clear hb2 HB1 HX1 HR
  obtain ⟨a0, a1, a2⟩ := obj_cells3 HX2.out
  go_wp2_with fail
  clear a0 a1 a2
  refine (HF.out _ (HA.out.below HB2.out)).mono ?_
  rintro e w3 ⟨rfl, hb3⟩
  have HB3 := Lib.hid (hbt HB2.out (hbt hb3 (below_al w3 (.cells #[.int .i64 1, .int .i64 no, .int .i64 no, .string ⟨#[]⟩, .slice none 0 0] 24))))
  have HX3 := Lib.hid (HX2.out.below (hbt hb3 (below_al w3 (.cells #[.int .i64 1, .int .i64 no, .int .i64 no, .string ⟨#[]⟩, .slice none 0 0] 24))))
  have HR3 : Hid (RBox (w3.alloc (.cells #[.int .i64 1, .int .i64 no, .int .i64 no, .string ⟨#[]⟩, .slice none 0 0] 24)) w3.heap.size 1 no no ⟨#[]⟩ none 0 0) := heap_alloc_new _ _
  have HL3 : Hid (w.heap.size ≤ w3.heap.size) := (hbt HB2.out hb3).size
  clear hb3 HB2 HX2 HF
  obtain ⟨a0, a1, a2⟩ := obj_cells3 HX3.out
  go_wp2_with fail
  clear a0 a1 a2
  generalize w3.alloc (.cells #[.int .i64 1, .int .i64 no, .int .i64 no, .string ⟨#[]⟩, .slice none 0 0] 24) = W3 at *
  refine (HP1.out _ (HK.out.below HB3.out) (HA.out.below HB3.out)).mono ?_
  rintro e w4 ⟨rfl, hb4⟩
  have hb4' := hbt hb4 (below_al w4 (.cells #[.int .i64 no, .string x] 37))
  have HB4 := Lib.hid (hbt HB3.out hb4')
  have HX4 := Lib.hid (HX3.out.below hb4')
  have HR4 := Lib.hid (HR3.out.below hb4')
  have HG4 : Hid (w3.heap.size < w4.heap.size) := obj_lt (HR3.out.below hb4)
  have HH4 : Hid (w.heap.size < w4.heap.size) := obj_lt (HX3.out.below hb4)
  have HV4 : Hid ((w4.alloc (.cells #[.int .i64 no, .string x] 37)).heap[w4.heap.size]? = some (.cells #[.int .i64 no, .string x] 37)) := heap_alloc_new _ _
  clear hb4 hb4' HB3 HX3 HR3 HP1
  obtain ⟨a0, a1, a2⟩ := obj_cells3 HX4.out
  obtain ⟨r0, r1, r2, r3, r4⟩ := obj_cells5 HR4.out
  go_wp2_with fail
  clear a0 a1 a2 r0 r1 r2 r3 r4
  generalize w4.alloc (.cells #[.int .i64 no, .string x] 37) = W4 at *
  refine (HC1.out _ (HK.out.below HB4.out) (HA.out.below HB4.out)).mono ?_
  rintro e w5 ⟨rfl, hb5⟩
  have HB5 := Lib.hid (hbt HB4.out hb5)
  have HX5 := Lib.hid (HX4.out.below hb5)
  have HR5 := Lib.hid (HR4.out.below hb5)
  have HV5 := Lib.hid (obj_below HV4.out hb5)
  clear hb5 HB4 HX4 HR4 HV4 HC1
  obtain ⟨v0, v1, _, _⟩ := obj_cells HV5.out
  obtain ⟨r0, r1, r2, r3, r4⟩ := obj_cells5 HR5.out
  obtain ⟨g0, g1, g2, g3, g4⟩ := obj_warm5 HR5.out
  have HR6 : Hid (RBox (w5.setCell ⟨w3.heap.size, 0, none⟩ (.int .i64 4)) w3.heap.size 4 no no ⟨#[]⟩ none 0 0) := heap_setCell_same _ _ 0 _ _ _ HR5.out
  have HX6 : Hid (Box (w5.setCell ⟨w3.heap.size, 0, none⟩ (.int .i64 4)) w.heap.size st v (some pa) n ca) := rbox_other HX5.out (by have := HL3.out; have h := HX5.out; have k := HR5.out; intro e; unfold Box at h; unfold RBox at k; rw [e, k] at h; injection h with h; injection h with h; simp at h) 0 _
  have HV6 := Lib.hid (rbox_other HV5.out (by have := HG4.out; omega : w4.heap.size ≠ w3.heap.size) 0 (.int .i64 4))
  have HB6 := Lib.hid (HB5.out.setCell (p := ⟨w3.heap.size, 0, none⟩) HL3.out (.int .i64 4))
  obtain ⟨b0, b1, b2⟩ := obj_cells3 HX6.out
  obtain ⟨x0, x1, x2, x3, x4⟩ := HCA.out _ HB6.out
  have hbs := below_al (w5.setCell ⟨w3.heap.size, 0, none⟩ (.int .i64 4)) (.cells #[.int .i64 n1, .int .i64 c1, .int .i64 f1, .int .i64 lo1, .int .i64 hi1] 48)
  have HB7 := Lib.hid (hbt HB6.out hbs)
  have HX7 := Lib.hid (HX6.out.below hbs)
  have HR7 := Lib.hid (HR6.out.below hbs)
  have HV7 := Lib.hid (obj_below HV6.out hbs)
  clear hbs HB5 HX5 HR5 HV5 HB6 HX6 HR6 HV6 HCA
  by_cases hc : c1 = 1
  · subst hc
    by_cases hf : f1 = 1
    · subst hf
      go_wp2_with fail
      clear v0 v1 r0 r1 r2 r3 r4 g0 g1 g2 g3 g4 b0 b1 b2 x0 x1 x2 x3 x4
      generalize (w5.setCell ⟨w3.heap.size, 0, none⟩ (.int .i64 4)).alloc (.cells #[.int .i64 n1, .int .i64 1, .int .i64 1, .int .i64 lo1, .int .i64 hi1] 48) = W7 at *
      refine (HV.out _).mono ?_
      rintro e w8 ⟨rfl, hb8⟩
      have HB8 := Lib.hid (hbt HB7.out hb8)
      have HX8 := Lib.hid (HX7.out.below hb8)
      have HR8 := Lib.hid (HR7.out.below hb8)
      have HV8 := Lib.hid (obj_below HV7.out hb8)
      clear hb8 HB7 HX7 HR7 HV7
      by_cases hr : r = 0
      · subst hr
        have HC5 := Lib.hid (HC4.out rfl)
        have HP5 := Lib.hid (HP4.out rfl rfl)
        obtain ⟨a0, a1, a2⟩ := obj_cells3 HX8.out
        obtain ⟨r0, r1, r2, r3, r4⟩ := obj_cells5 HR8.out
        go_wp2_with fail
        clear a0 a1 a2 r0 r1 r2 r3 r4
        refine (HP5.out _ (HK.out.below HB8.out) (HA.out.below HB8.out)).mono ?_
        rintro e w9 ⟨rfl, hb9⟩
        have HB9 := Lib.hid (hbt HB8.out hb9)
        have HX9 := Lib.hid (HX8.out.below hb9)
        have HR9 := Lib.hid (HR8.out.below hb9)
        have HV9 := Lib.hid (obj_below HV8.out hb9)
        clear hb9 HB8 HX8 HR8 HV8
        obtain ⟨v0, v1, g0, g1⟩ := obj_cells HV9.out
        have HVa := Lib.hid (obj_set2 HV9.out (.int .i64 no) (.string x))
        have HXa := Lib.hid (obj_set_other HX9.out (by have := HH4.out; omega : w.heap.size ≠ w4.heap.size) (.int .i64 no) (.string x))
        have HRa := Lib.hid (obj_set_other HR9.out (by have := HG4.out; omega : w3.heap.size ≠ w4.heap.size) (.int .i64 no) (.string x))
        have HBa := Lib.hid (below_set2 HB9.out (by have := HH4.out; omega : w.heap.size ≤ w4.heap.size) (.int .i64 no) (.string x))
        obtain ⟨a0, a1, a2⟩ := obj_cells3 HXa.out
        obtain ⟨r0, r1, r2, r3, r4⟩ := obj_cells5 HRa.out
        go_wp2_with fail
        clear a0 a1 a2 r0 r1 r2 r3 r4 v0 v1 g0 g1
        refine (HC5.out _ (HK.out.below HBa.out) (HA.out.below HBa.out)).mono ?_
        rintro e w10 ⟨rfl, hb10⟩
        have HV10 := Lib.hid (obj_below HVa.out hb10)
        have HB10 := Lib.hid (hbt HBa.out hb10)
        clear hb10
        obtain ⟨v0, v1, _, _⟩ := obj_cells HV10.out
        go_wp2
        go_ret
        exact ⟨by simp, HB10.out⟩
      · have tr : (r != 0) = true := by simpa using hr
        clear hr
        go_wp2
        go_ret
        exact ⟨rfl, HB8.out⟩
    · have tf : (f1 != 1) = true := by simpa using hf
      clear hf
      go_wp2
      go_ret
      exact ⟨rfl, HB7.out⟩
  · have tc : (c1 != 1) = true := by simpa using hc
    clear hc
    go_wp2
    go_ret
    exact ⟨rfl, HB7.out⟩
theorem ruleSame_walk (hchk : RChk) (happ : RApp) (st v : Int) (A : Option Addr) (ca : Nat) (l : List Sp) (no : Int) (x : ByteArray) (w : World) (hK : Kinds w) (hA : Spl w A l) (hm : l.length ≤ maxLen) (hx : x.size ≤ maxLen) : Calls Tryd.prog 6 #[.agg #[.int .i64 st, .int .i64 v, .slice A l.length ca], .int .i64 no, .string x] w fun e w' => e = .returned (.bool true) ∧ Below w.heap.size w w' := by
  by_cases h1 : 200 < l.length
  · exact rls_long hchk happ st v A ca l no x w hK hA hm hx h1
  · by_cases h2 : (schN st v l).1 = 0
    · by_cases h3 : 1200 < x.size
      · exact rls_text hchk happ st v A ca l no x w hK hA hm hx (by omega) h2 h3
      · rcases fnd_cases no l with ⟨hi, hn⟩ | ⟨i, hil, hi, hp⟩
        · exact rls_none hchk happ st v A ca l no x w hK hA hm hx (by omega) h2 (by omega) hi hn
        · exact rls_main hchk happ st v A ca l no x w hK hA hm hx (by omega) h2 (by omega) i hil hi hp
    · exact rls_wrong hchk happ st v A ca l no x w hK hA hm hx (by omega) h2

end Go.Proofs.YtkbpinjcenfjlaaDoor
