/-
  The law's awake answers true, in every world that holds the table of kinds, where the program's Check and Apply answer as they are to.
-/
import Derived.Test.YtkbpinjcenfjlaaDoorRulOf
import Derived.Test.YtkbpinjcenfjlaaDoorPackDia
import Derived.Test.YtkbpinjcenfjlaaDoorPackSpc
namespace Go.Proofs.YtkbpinjcenfjlaaDoor
open Go.RowKit

/-- What the program's Check and Apply are to answer. -/
def RChk : Prop := ∀ (k f t : Int) (s : ByteArray) (B : Option Addr) (cP : Nat) (P : List PairT) (st v : Int) (A : Option Addr) (ca : Nat) (a : List Sp) (st' v' : Int) (A' : Option Addr) (cb : Nat) (b : List Sp) (w : World), Kinds w → Prs w B P → Spl w A a → Spl w A' b → a.length ≤ 1000 → b.length ≤ 1000 → P.length ≤ 5000000 → Fit2 P → s.size ≤ maxLen →
  Calls Tryd.prog 9 #[.agg #[.int .i64 k, .int .i64 f, .int .i64 t, .string s, .slice B P.length cP], .agg #[.int .i64 st, .int .i64 v, .slice A a.length ca], .agg #[.int .i64 st', .int .i64 v', .slice A' b.length cb]] w fun e w' => e = .returned (.int .i64 (rulN k f t s P a b)) ∧ Below w.heap.size w w'
def RApp : Prop := ∀ (k f t : Int) (s : ByteArray) (B : Option Addr) (cP : Nat) (P : List PairT) (st v : Int) (A : Option Addr) (ca : Nat) (b : List Sp) (x : ByteArray) (w : World), Kinds w → Prs w B P → Spl w A b → b.length ≤ 1000 → P.length ≤ 5000000 → Fit2 P → s.size ≤ maxLen → x.size ≤ maxLen →
  Calls Tryd.prog 13 #[.agg #[.int .i64 k, .int .i64 f, .int .i64 t, .string s, .slice B P.length cP], .agg #[.int .i64 st, .int .i64 v, .slice A b.length ca], .string x] w fun e w' => e = .returned (.tuple #[.agg #[.int .i64 (rapN k t s P b x).1, .string (rapN k t s P b x).2.1], .int .i64 (rapN k t s P b x).2.2]) ∧ Below w.heap.size w w'

abbrev raX : ByteArray := ⟨#[49, 50, 51, 52, 53, 54]⟩
abbrev raY : ByteArray := ⟨#[48, 48, 48, 48, 48, 48, 49, 50, 51, 52, 53, 54]⟩
abbrev raP : List PairT := [(⟨#[48, 48]⟩, ⟨#[48, 48, 48]⟩)]
theorem raw_told : rapN 4 12 ⟨#[]⟩ [] (refL 1 diaT) raX = (12, raY, 0) ∧ rapN 5 39 ⟨#[]⟩ raP (refL 1 diaT) ⟨#[48, 53]⟩ = (0, ⟨#[]⟩, 15) := by decide +kernel
theorem raw_chk : rulN 4 12 12 ⟨#[]⟩ [] (refL 0 diaT) (refL 1 diaT) = 0 ∧ rulN 5 39 39 ⟨#[]⟩ raP (refL 0 diaT) (refL 1 diaT) = 0 ∧ rulN 1 22 22 ⟨#[]⟩ [] (refL 0 diaT) (refL 1 diaT) = 6 ∧ rulN 2 90 0 ⟨#[]⟩ [] (refL 0 diaT) (refL 1 diaT) = 0 := by decide +kernel
theorem raw_len : (refL 0 diaT).length ≤ 1000 ∧ (refL 1 diaT).length ≤ 1000 := by decide +kernel
theorem raw_fit : Fit2 raP := by
  intro x hx
  simp only [List.mem_singleton] at hx
  subst hx
  exact ⟨by show 2 ≤ _; decide, by show 3 ≤ _; decide⟩
theorem fit2_nil : Fit2 [] := fun x hx => by simp at hx

set_option maxRecDepth 100000 in
set_option maxHeartbeats 12800000 in
theorem rawake_any (hchk : RChk) (happ : RApp) (w : World) (hK : Kinds w) : Calls Tryd.prog 7 #[] w fun e w' => e = .returned (.bool true) ∧ Below w.heap.size w w' := by
  have HK := Lib.hid hK
  have HS0 := Lib.hid (fun W => refsch_0 W)
  have HS1 := Lib.hid (fun W => refsch_1 W)
  have HP1 : Hid (∀ A c W, Kinds W → Spl W A (refL 1 diaT) → Calls Tryd.prog 13 #[.agg #[.int .i64 4, .int .i64 12, .int .i64 12, .string ⟨#[]⟩, .slice none 0 0], .agg #[.int .i64 2, .int .i64 1, .slice A (refL 1 diaT).length c], .string raX] W fun e w' => e = .returned (.tuple #[.agg #[.int .i64 12, .string raY], .int .i64 0]) ∧ Below W.heap.size W w') := fun A c W h1 h2 => by
    have := happ 4 12 12 ⟨#[]⟩ none 0 [] 2 1 A c (refL 1 diaT) raX W h1 (prs_nil _ _) h2 raw_len.2 (Nat.zero_le _) fit2_nil (Nat.zero_le _) (by decide)
    rw [raw_told.1] at this
    exact this
  have HP2 : Hid (∀ A c B d W, Kinds W → Spl W A (refL 1 diaT) → Prs W B raP → Calls Tryd.prog 13 #[.agg #[.int .i64 5, .int .i64 39, .int .i64 39, .string ⟨#[]⟩, .slice B 1 d], .agg #[.int .i64 2, .int .i64 1, .slice A (refL 1 diaT).length c], .string ⟨#[48, 53]⟩] W fun e w' => e = .returned (.tuple #[.agg #[.int .i64 0, .string ⟨#[]⟩], .int .i64 15]) ∧ Below W.heap.size W w') := fun A c B d W h1 h2 h3 => by
    have := happ 5 39 39 ⟨#[]⟩ B d raP 2 1 A c (refL 1 diaT) ⟨#[48, 53]⟩ W h1 h3 h2 raw_len.2 (by decide) raw_fit (Nat.zero_le _) (by decide)
    rw [raw_told.2] at this
    exact this
  have HC : Hid (∀ k f t z, rulN k f t ⟨#[]⟩ [] (refL 0 diaT) (refL 1 diaT) = z → ∀ A c A' c' W, Kinds W → Spl W A (refL 0 diaT) → Spl W A' (refL 1 diaT) → Calls Tryd.prog 9 #[.agg #[.int .i64 k, .int .i64 f, .int .i64 t, .string ⟨#[]⟩, .slice none 0 0], .agg #[.int .i64 1, .int .i64 0, .slice A (refL 0 diaT).length c], .agg #[.int .i64 2, .int .i64 1, .slice A' (refL 1 diaT).length c']] W fun e w' => e = .returned (.int .i64 z) ∧ Below W.heap.size W w') := fun k f t z hz A c A' c' W h1 h2 h3 => by
    have := hchk k f t ⟨#[]⟩ none 0 [] 1 0 A c (refL 0 diaT) 2 1 A' c' (refL 1 diaT) W h1 (prs_nil _ _) h2 h3 raw_len.1 raw_len.2 (Nat.zero_le _) fit2_nil (Nat.zero_le _)
    rw [hz] at this
    exact this
  have HC1 := Lib.hid (HC.out _ _ _ _ raw_chk.1)
  have HC3 := Lib.hid (HC.out _ _ _ _ raw_chk.2.2.1)
  have HC4 := Lib.hid (HC.out _ _ _ _ raw_chk.2.2.2)
  have HC2 : Hid (∀ A c A' c' B d W, Kinds W → Spl W A (refL 0 diaT) → Spl W A' (refL 1 diaT) → Prs W B raP → Calls Tryd.prog 9 #[.agg #[.int .i64 5, .int .i64 39, .int .i64 39, .string ⟨#[]⟩, .slice B 1 d], .agg #[.int .i64 1, .int .i64 0, .slice A (refL 0 diaT).length c], .agg #[.int .i64 2, .int .i64 1, .slice A' (refL 1 diaT).length c']] W fun e w' => e = .returned (.int .i64 0) ∧ Below W.heap.size W w') := fun A c A' c' B d W h1 h2 h3 h4 => by
    have := hchk 5 39 39 ⟨#[]⟩ B d raP 1 0 A c (refL 0 diaT) 2 1 A' c' (refL 1 diaT) W h1 h4 h2 h3 raw_len.1 raw_len.2 (by decide) raw_fit (Nat.zero_le _)
    rw [raw_chk.2.1] at this
    exact this
  clear hK HC
  generalize (refL 0 diaT).length = n0 at *
  generalize refL 0 diaT = L0 at *
  generalize (refL 1 diaT).length = n1 at *
  generalize refL 1 diaT = L1 at *
  go_enter Tryd.func7, Tryd.ntmps7
  go_wp2_with fail
  refine (HS0.out _).mono ?_
  rintro e w1 ⟨A, c, rfl, ht1, _, hb1⟩
  have HB1 := Lib.hid hb1
  have HA1 := Lib.hid ht1
  clear hb1 ht1 HS0
  go_wp2_with fail
  refine (HS1.out _).mono ?_
  rintro e w2 ⟨A', c', rfl, ht2, _, hb2⟩
  have HB2 := Lib.hid (hbt HB1.out hb2)
  have HA2 := Lib.hid (HA1.out.below hb2)
  have HD2 := Lib.hid ht2
  have hba := below_al w2 (.cells #[.int .i64 1, .int .i64 0, .slice A n0 c] 27)
  have hbb := below_al (w2.alloc (.cells #[.int .i64 1, .int .i64 0, .slice A n0 c] 27)) (.cells #[.int .i64 2, .int .i64 1, .slice A' n1 c'] 27)
  have hbr := below_al ((w2.alloc (.cells #[.int .i64 1, .int .i64 0, .slice A n0 c] 27)).alloc (.cells #[.int .i64 2, .int .i64 1, .slice A' n1 c'] 27)) (.cells #[.int .i64 4, .int .i64 12, .int .i64 12, .string ⟨#[]⟩, .slice none 0 0] 24)
  have HX3 := Lib.hid (((box_new w2 1 0 A n0 c).below hbb).below hbr)
  have HY3 : Hid (Box (((w2.alloc (.cells #[.int .i64 1, .int .i64 0, .slice A n0 c] 27)).alloc (.cells #[.int .i64 2, .int .i64 1, .slice A' n1 c'] 27)).alloc (.cells #[.int .i64 4, .int .i64 12, .int .i64 12, .string ⟨#[]⟩, .slice none 0 0] 24)) (w2.heap.size + 1) 2 1 A' n1 c') := obj_below (heap_al _ _ _ (by simp)) hbr
  have HR3 : Hid (RBox (((w2.alloc (.cells #[.int .i64 1, .int .i64 0, .slice A n0 c] 27)).alloc (.cells #[.int .i64 2, .int .i64 1, .slice A' n1 c'] 27)).alloc (.cells #[.int .i64 4, .int .i64 12, .int .i64 12, .string ⟨#[]⟩, .slice none 0 0] 24)) (w2.heap.size + 2) 4 12 12 ⟨#[]⟩ none 0 0) := heap_al _ _ _ (by simp)
  have HB3 := Lib.hid (hbt HB2.out (hbt (hbt hba hbb) hbr))
  have HA3 := Lib.hid (HA2.out.below (hbt (hbt hba hbb) hbr))
  have HD3 := Lib.hid (HD2.out.below (hbt (hbt hba hbb) hbr))
  clear hba hbb hbr hb2 ht2 HS1 HA1 HA2 HD2 HB1
  obtain ⟨x0, x1, x2⟩ := obj_cells3 HY3.out
  go_wp2_with fail
  clear x0 x1 x2
  generalize ((w2.alloc (.cells #[.int .i64 1, .int .i64 0, .slice A n0 c] 27)).alloc (.cells #[.int .i64 2, .int .i64 1, .slice A' n1 c'] 27)).alloc (.cells #[.int .i64 4, .int .i64 12, .int .i64 12, .string ⟨#[]⟩, .slice none 0 0] 24) = W3 at *
  refine (HP1.out _ _ _ (HK.out.below HB3.out) HD3.out).mono ?_
  rintro e w4 ⟨rfl, hb4⟩
  have hbv := below_al w4 (.cells #[.int .i64 12, .string raY] 37)
  have hbp := below_al (w4.alloc (.cells #[.int .i64 12, .string raY] 37)) (.cells #[.string ⟨#[48, 48]⟩, .string ⟨#[48, 48, 48]⟩] 53)
  have hbs := below_al ((w4.alloc (.cells #[.int .i64 12, .string raY] 37)).alloc (.cells #[.string ⟨#[48, 48]⟩, .string ⟨#[48, 48, 48]⟩] 53)) (.cells #[.int .i64 5, .int .i64 39, .int .i64 39, .string ⟨#[]⟩, .slice (some ⟨w4.heap.size + 1, 0, none⟩) 1 1] 24)
  have hb5 := hbt hb4 (hbt (hbt hbv hbp) hbs)
  have HX5 := Lib.hid (HX3.out.below hb5)
  have HY5 := Lib.hid (HY3.out.below hb5)
  have HR5 := Lib.hid (HR3.out.below hb5)
  have HA5 := Lib.hid (HA3.out.below hb5)
  have HD5 := Lib.hid (HD3.out.below hb5)
  have HB5 := Lib.hid (hbt HB3.out hb5)
  have HV5 := Lib.hid (obj_below (obj_below (heap_alloc_new w4 (.cells #[.int .i64 12, .string raY] 37)) hbp) hbs)
  have HPR5 : Hid (Prs (((w4.alloc (.cells #[.int .i64 12, .string raY] 37)).alloc (.cells #[.string ⟨#[48, 48]⟩, .string ⟨#[48, 48, 48]⟩] 53)).alloc (.cells #[.int .i64 5, .int .i64 39, .int .i64 39, .string ⟨#[]⟩, .slice (some ⟨w4.heap.size + 1, 0, none⟩) 1 1] 24)) (some ⟨w4.heap.size + 1, 0, none⟩) raP) := by
    have h := prs_row (l := raP) (n := 1) (cap := 1) (World.ownsRow_lit (base := 0) (e := 53) (size := 2) (w4.alloc (.cells #[.int .i64 12, .string raY] 37)) #[.string ⟨#[48, 48]⟩, .string ⟨#[48, 48, 48]⟩] 1 (Nat.zero_le _) (by unfold maxLen; omega) rfl) rfl
    rw [show (w4.alloc (.cells #[.int .i64 12, .string raY] 37)).heap.size = w4.heap.size + 1 by simp] at h
    exact h.below hbs
  have HT5 : Hid (RBox (((w4.alloc (.cells #[.int .i64 12, .string raY] 37)).alloc (.cells #[.string ⟨#[48, 48]⟩, .string ⟨#[48, 48, 48]⟩] 53)).alloc (.cells #[.int .i64 5, .int .i64 39, .int .i64 39, .string ⟨#[]⟩, .slice (some ⟨w4.heap.size + 1, 0, none⟩) 1 1] 24)) (w4.heap.size + 2) 5 39 39 ⟨#[]⟩ (some ⟨w4.heap.size + 1, 0, none⟩) 1 1) := heap_al _ _ _ (by simp)
  clear hb4 hbv hbp hbs hb5 HX3 HY3 HR3 HA3 HD3 HB3
  obtain ⟨x0, x1, x2⟩ := obj_cells3 HY5.out
  go_wp2_with fail
  clear x0 x1 x2
  generalize ((w4.alloc (.cells #[.int .i64 12, .string raY] 37)).alloc (.cells #[.string ⟨#[48, 48]⟩, .string ⟨#[48, 48, 48]⟩] 53)).alloc (.cells #[.int .i64 5, .int .i64 39, .int .i64 39, .string ⟨#[]⟩, .slice (some ⟨w4.heap.size + 1, 0, none⟩) 1 1] 24) = W5 at *
  refine (HP2.out _ _ _ _ _ (HK.out.below HB5.out) HD5.out HPR5.out).mono ?_
  rintro e w6 ⟨rfl, hb6⟩
  have hb7 := hbt hb6 (below_al w6 (.cells #[.int .i64 0, .string ⟨#[]⟩] 37))
  have HX7 := Lib.hid (HX5.out.below hb7)
  have HY7 := Lib.hid (HY5.out.below hb7)
  have HR7 := Lib.hid (HR5.out.below hb7)
  have HT7 := Lib.hid (HT5.out.below hb7)
  have HA7 := Lib.hid (HA5.out.below hb7)
  have HD7 := Lib.hid (HD5.out.below hb7)
  have HP7 := Lib.hid (HPR5.out.below hb7)
  have HB7 := Lib.hid (hbt HB5.out hb7)
  have HV7 := Lib.hid (obj_below HV5.out hb7)
  clear hb6 hb7 HX5 HY5 HR5 HA5 HD5 HB5 HV5 HT5 HPR5
  obtain ⟨x0, x1, x2⟩ := obj_cells3 HX7.out
  obtain ⟨y0, y1, y2⟩ := obj_cells3 HY7.out
  obtain ⟨r0, r1, r2, r3, r4⟩ := obj_cells5 HR7.out
  obtain ⟨v0, v1, _, _⟩ := obj_cells HV7.out
  go_wp2_with fail
  clear x0 x1 x2 y0 y1 y2 r0 r1 r2 r3 r4 v0 v1
  generalize w6.alloc (.cells #[.int .i64 0, .string ⟨#[]⟩] 37) = W7 at *
  refine (HC1.out _ _ _ _ _ (HK.out.below HB7.out) HA7.out HD7.out).mono ?_
  rintro e w8 ⟨rfl, hb8⟩
  have HX8 := Lib.hid (HX7.out.below hb8)
  have HY8 := Lib.hid (HY7.out.below hb8)
  have HT8 := Lib.hid (HT7.out.below hb8)
  have HA8 := Lib.hid (HA7.out.below hb8)
  have HD8 := Lib.hid (HD7.out.below hb8)
  have HP8 := Lib.hid (HP7.out.below hb8)
  have HB8 := Lib.hid (hbt HB7.out hb8)
  clear hb8 HX7 HY7 HR7 HA7 HD7 HB7 HV7 HT7 HP7
  obtain ⟨x0, x1, x2⟩ := obj_cells3 HX8.out
  obtain ⟨y0, y1, y2⟩ := obj_cells3 HY8.out
  obtain ⟨r0, r1, r2, r3, r4⟩ := obj_cells5 HT8.out
  go_wp2_with fail
  clear x0 x1 x2 y0 y1 y2 r0 r1 r2 r3 r4
  refine (HC2.out _ _ _ _ _ _ _ (HK.out.below HB8.out) HA8.out HD8.out HP8.out).mono ?_
  rintro e w9 ⟨rfl, hb9⟩
  have HX9 := Lib.hid (HX8.out.below hb9)
  have HY9 := Lib.hid (HY8.out.below hb9)
  have HA9 := Lib.hid (HA8.out.below hb9)
  have HD9 := Lib.hid (HD8.out.below hb9)
  have HB9 := Lib.hid (hbt HB8.out hb9)
  clear hb9 HX8 HY8 HA8 HD8 HB8 HT8 HP8
  obtain ⟨x0, x1, x2⟩ := obj_cells3 HX9.out
  obtain ⟨y0, y1, y2⟩ := obj_cells3 HY9.out
  go_wp2_with fail
  clear x0 x1 x2 y0 y1 y2
  refine (HC3.out _ _ _ _ _ (HK.out.below HB9.out) HA9.out HD9.out).mono ?_
  rintro e w10 ⟨rfl, hb10⟩
  have HX10 := Lib.hid (HX9.out.below hb10)
  have HY10 := Lib.hid (HY9.out.below hb10)
  have HA10 := Lib.hid (HA9.out.below hb10)
  have HD10 := Lib.hid (HD9.out.below hb10)
  have HB10 := Lib.hid (hbt HB9.out hb10)
  clear hb10 HX9 HY9 HA9 HD9 HB9
  obtain ⟨x0, x1, x2⟩ := obj_cells3 HX10.out
  obtain ⟨y0, y1, y2⟩ := obj_cells3 HY10.out
  go_wp2_with fail
  clear x0 x1 x2 y0 y1 y2
  refine (HC4.out _ _ _ _ _ (HK.out.below HB10.out) HA10.out HD10.out).mono ?_
  rintro e w11 ⟨rfl, hb11⟩
  have HB11 := Lib.hid (hbt HB10.out hb11)
  clear hb11
  go_wp2
  go_ret
  exact ⟨rfl, HB11.out⟩

end Go.Proofs.YtkbpinjcenfjlaaDoor
